/-
 U4
-/
import Derived.Test.YtdfdpghdjlgghaaGreatKdf
namespace Go.Proofs.YtdfdpghdjlgghaaGreat
open Go.ChangeShapes Go.WideShapes Go.ChangeAt Go.RowKit
set_option linter.unusedVariables false
set_option linter.unusedSimpArgs false
set_option maxRecDepth 100000
attribute [local irreducible] Calls
def ixB (k n:Int):Bool:=decide (0 ≤ k) && decide (k < n)
theorem isindex_ok (k n:Int) (w:World):Calls Tryz.prog 211 #[.int .i64 k,.int .i64 n] w fun e w'=>e = .returned (.bool (ixB k n))∧Below w.heap.size w w':=by
 unfold ixB
 by_cases hk:0 ≤ k
 ·rw [decide_eq_true hk,Bool.true_and]
  go_enter Tryz.func211,Tryz.ntmps211
  go_wp2_with (fail)
  go_ret
  exact ⟨rfl,Below.refl _ _⟩
 ·rw [decide_eq_false hk,Bool.false_and]
  go_enter Tryz.func211,Tryz.ntmps211
  go_wp2_with (fail)
  go_ret
  exact ⟨rfl,Below.refl _ _⟩
def vinB (i n:Int) (x:Is):Bool :=
 if x.op = 1 then decide (x.a = 0) && (decide (x.b = 0) && decide (VI x.lo x.hi))
 else if x.op = 2 then decide (x.b = 0) && (decide (x.lo = 0) && (decide (x.hi = 0) && ixB x.a n))
 else if x.op = 3 then decide (x.a = 0) && (decide (x.b = 0) && (decide (x.lo = 0) && decide (x.hi = 0)))
 else if x.op = 4 ∨ x.op = 5 ∨ x.op = 6 then decide (x.b = 0) && (decide (x.lo = 0) && (decide (x.hi = 0) && ixB x.a i))
 else if x.op = 7 ∨ x.op = 8 ∨ x.op = 9 ∨ x.op = 10 then decide (x.lo = 0) && (decide (x.hi = 0) && (ixB x.a i && ixB x.b i))
 else false
set_option maxHeartbeats 16000000 in
theorem vinst_ok (op a b lo hi i n:Int) (w:World):Calls Tryz.prog 210 #[.agg #[.int .i64 op,.int .i64 a,.int .i64 b,.int .i64 lo,.int .i64 hi],.int .i64 i,.int .i64 n] w fun e w'=>e = .returned (.bool (vinB i n ⟨op,a,b,lo,hi⟩))∧Below w.heap.size w w':=by
 have hb:Below w.heap.size w (w.alloc (.cells #[.int .i64 op,.int .i64 a,.int .i64 b,.int .i64 lo,.int .i64 hi] 75)):=(Below.refl _ _).alloc (Nat.le_refl _) _
 have hx:=IsC.new w ⟨op,a,b,lo,hi⟩
 dsimp only at hx
 by_cases h1:op = 1
 ·subst h1
  rw [show vinB i n ⟨1,a,b,lo,hi⟩ = (decide (a = 0) && (decide (b = 0) && decide (VI lo hi))) by first | rfl | simp [vinB]]
  by_cases hza:a = 0
  ·subst hza
   rw [decide_eq_true rfl,Bool.true_and]
   by_cases hzb:b = 0
   ·subst hzb
    rw [decide_eq_true rfl,Bool.true_and]
    obtain ⟨R,hR⟩:∃ R,decide (VI lo hi) = R:=⟨_,rfl⟩
    have KV:=Lib.hid (fun w=>iv_valid lo hi R w hR)
    rw [hR]
    clear hR
    go_enter Tryz.func210,Tryz.ntmps210
    go_wp2_with (fail)
    refine (KV.out _).mono ?_
    rintro e w1 ⟨rfl,hB⟩
    go_wp2_with (fail)
    go_ret
    exact ⟨rfl,below_then hb hB⟩
   ·have qb:(b == 0) = false:=by simpa using hzb
    rw [decide_eq_false hzb,Bool.false_and]
    go_enter Tryz.func210,Tryz.ntmps210
    go_wp2_with (fail)
    go_ret
    exact ⟨rfl,hb⟩
  ·have qa:(a == 0) = false:=by simpa using hza
   rw [decide_eq_false hza,Bool.false_and]
   go_enter Tryz.func210,Tryz.ntmps210
   go_wp2_with (fail)
   go_ret
   exact ⟨rfl,hb⟩
 have q1:(op == 1) = false:=by simpa using h1
 by_cases h2:op = 2
 ·subst h2
  rw [show vinB i n ⟨2,a,b,lo,hi⟩ = (decide (b = 0) && (decide (lo = 0) && (decide (hi = 0) && ixB a n))) by first | rfl | simp [vinB]]
  by_cases hzb:b = 0
  ·subst hzb
   rw [decide_eq_true rfl,Bool.true_and]
   by_cases hzlo:lo = 0
   ·subst hzlo
    rw [decide_eq_true rfl,Bool.true_and]
    by_cases hzhi:hi = 0
    ·subst hzhi
     rw [decide_eq_true rfl,Bool.true_and]
     obtain ⟨R,hR⟩:∃ R,ixB a n = R:=⟨_,rfl⟩
     have KI:=Lib.hid (isindex_ok a n)
     rw [hR] at KI ⊢
     clear hR
     go_enter Tryz.func210,Tryz.ntmps210
     go_wp2_with (fail)
     refine (KI.out _).mono ?_
     rintro e w1 ⟨rfl,hB⟩
     go_wp2_with (fail)
     go_ret
     exact ⟨rfl,below_then hb hB⟩
    ·have qhi:(hi == 0) = false:=by simpa using hzhi
     rw [decide_eq_false hzhi,Bool.false_and]
     go_enter Tryz.func210,Tryz.ntmps210
     go_wp2_with (fail)
     go_ret
     exact ⟨rfl,hb⟩
   ·have qlo:(lo == 0) = false:=by simpa using hzlo
    rw [decide_eq_false hzlo,Bool.false_and]
    go_enter Tryz.func210,Tryz.ntmps210
    go_wp2_with (fail)
    go_ret
    exact ⟨rfl,hb⟩
  ·have qb:(b == 0) = false:=by simpa using hzb
   rw [decide_eq_false hzb,Bool.false_and]
   go_enter Tryz.func210,Tryz.ntmps210
   go_wp2_with (fail)
   go_ret
   exact ⟨rfl,hb⟩
 have q2:(op == 2) = false:=by simpa using h2
 by_cases h3:op = 3
 ·subst h3
  rw [show vinB i n ⟨3,a,b,lo,hi⟩ = (decide (a = 0) && (decide (b = 0) && (decide (lo = 0) && decide (hi = 0)))) by first | rfl | simp [vinB]]
  by_cases hza:a = 0
  ·subst hza
   rw [decide_eq_true rfl,Bool.true_and]
   by_cases hzb:b = 0
   ·subst hzb
    rw [decide_eq_true rfl,Bool.true_and]
    by_cases hzlo:lo = 0
    ·subst hzlo
     rw [decide_eq_true rfl,Bool.true_and]
     by_cases hzhi:hi = 0
     ·subst hzhi
      rw [decide_eq_true rfl]
      go_enter Tryz.func210,Tryz.ntmps210
      go_wp2_with (fail)
      go_ret
      exact ⟨rfl,hb⟩
     ·have qhi:(hi == 0) = false:=by simpa using hzhi
      rw [decide_eq_false hzhi]
      go_enter Tryz.func210,Tryz.ntmps210
      go_wp2_with (fail)
      go_ret
      exact ⟨rfl,hb⟩
    ·have qlo:(lo == 0) = false:=by simpa using hzlo
     rw [decide_eq_false hzlo,Bool.false_and]
     go_enter Tryz.func210,Tryz.ntmps210
     go_wp2_with (fail)
     go_ret
     exact ⟨rfl,hb⟩
   ·have qb:(b == 0) = false:=by simpa using hzb
    rw [decide_eq_false hzb,Bool.false_and]
    go_enter Tryz.func210,Tryz.ntmps210
    go_wp2_with (fail)
    go_ret
    exact ⟨rfl,hb⟩
  ·have qa:(a == 0) = false:=by simpa using hza
   rw [decide_eq_false hza,Bool.false_and]
   go_enter Tryz.func210,Tryz.ntmps210
   go_wp2_with (fail)
   go_ret
   exact ⟨rfl,hb⟩
 have q3:(op == 3) = false:=by simpa using h3
 by_cases h4:op = 4
 ·subst h4
  rw [show vinB i n ⟨4,a,b,lo,hi⟩ = (decide (b = 0) && (decide (lo = 0) && (decide (hi = 0) && ixB a i))) by first | rfl | simp [vinB]]
  by_cases hzb:b = 0
  ·subst hzb
   rw [decide_eq_true rfl,Bool.true_and]
   by_cases hzlo:lo = 0
   ·subst hzlo
    rw [decide_eq_true rfl,Bool.true_and]
    by_cases hzhi:hi = 0
    ·subst hzhi
     rw [decide_eq_true rfl,Bool.true_and]
     obtain ⟨R,hR⟩:∃ R,ixB a i = R:=⟨_,rfl⟩
     have KI:=Lib.hid (isindex_ok a i)
     rw [hR] at KI ⊢
     clear hR
     go_enter Tryz.func210,Tryz.ntmps210
     go_wp2_with (fail)
     refine (KI.out _).mono ?_
     rintro e w1 ⟨rfl,hB⟩
     go_wp2_with (fail)
     go_ret
     exact ⟨rfl,below_then hb hB⟩
    ·have qhi:(hi == 0) = false:=by simpa using hzhi
     rw [decide_eq_false hzhi,Bool.false_and]
     go_enter Tryz.func210,Tryz.ntmps210
     go_wp2_with (fail)
     go_ret
     exact ⟨rfl,hb⟩
   ·have qlo:(lo == 0) = false:=by simpa using hzlo
    rw [decide_eq_false hzlo,Bool.false_and]
    go_enter Tryz.func210,Tryz.ntmps210
    go_wp2_with (fail)
    go_ret
    exact ⟨rfl,hb⟩
  ·have qb:(b == 0) = false:=by simpa using hzb
   rw [decide_eq_false hzb,Bool.false_and]
   go_enter Tryz.func210,Tryz.ntmps210
   go_wp2_with (fail)
   go_ret
   exact ⟨rfl,hb⟩
 have q4:(op == 4) = false:=by simpa using h4
 by_cases h5:op = 5
 ·subst h5
  rw [show vinB i n ⟨5,a,b,lo,hi⟩ = (decide (b = 0) && (decide (lo = 0) && (decide (hi = 0) && ixB a i))) by first | rfl | simp [vinB]]
  by_cases hzb:b = 0
  ·subst hzb
   rw [decide_eq_true rfl,Bool.true_and]
   by_cases hzlo:lo = 0
   ·subst hzlo
    rw [decide_eq_true rfl,Bool.true_and]
    by_cases hzhi:hi = 0
    ·subst hzhi
     rw [decide_eq_true rfl,Bool.true_and]
     obtain ⟨R,hR⟩:∃ R,ixB a i = R:=⟨_,rfl⟩
     have KI:=Lib.hid (isindex_ok a i)
     rw [hR] at KI ⊢
     clear hR
     go_enter Tryz.func210,Tryz.ntmps210
     go_wp2_with (fail)
     refine (KI.out _).mono ?_
     rintro e w1 ⟨rfl,hB⟩
     go_wp2_with (fail)
     go_ret
     exact ⟨rfl,below_then hb hB⟩
    ·have qhi:(hi == 0) = false:=by simpa using hzhi
     rw [decide_eq_false hzhi,Bool.false_and]
     go_enter Tryz.func210,Tryz.ntmps210
     go_wp2_with (fail)
     go_ret
     exact ⟨rfl,hb⟩
   ·have qlo:(lo == 0) = false:=by simpa using hzlo
    rw [decide_eq_false hzlo,Bool.false_and]
    go_enter Tryz.func210,Tryz.ntmps210
    go_wp2_with (fail)
    go_ret
    exact ⟨rfl,hb⟩
  ·have qb:(b == 0) = false:=by simpa using hzb
   rw [decide_eq_false hzb,Bool.false_and]
   go_enter Tryz.func210,Tryz.ntmps210
   go_wp2_with (fail)
   go_ret
   exact ⟨rfl,hb⟩
 have q5:(op == 5) = false:=by simpa using h5
 by_cases h6:op = 6
 ·subst h6
  rw [show vinB i n ⟨6,a,b,lo,hi⟩ = (decide (b = 0) && (decide (lo = 0) && (decide (hi = 0) && ixB a i))) by first | rfl | simp [vinB]]
  by_cases hzb:b = 0
  ·subst hzb
   rw [decide_eq_true rfl,Bool.true_and]
   by_cases hzlo:lo = 0
   ·subst hzlo
    rw [decide_eq_true rfl,Bool.true_and]
    by_cases hzhi:hi = 0
    ·subst hzhi
     rw [decide_eq_true rfl,Bool.true_and]
     obtain ⟨R,hR⟩:∃ R,ixB a i = R:=⟨_,rfl⟩
     have KI:=Lib.hid (isindex_ok a i)
     rw [hR] at KI ⊢
     clear hR
     go_enter Tryz.func210,Tryz.ntmps210
     go_wp2_with (fail)
     refine (KI.out _).mono ?_
     rintro e w1 ⟨rfl,hB⟩
     go_wp2_with (fail)
     go_ret
     exact ⟨rfl,below_then hb hB⟩
    ·have qhi:(hi == 0) = false:=by simpa using hzhi
     rw [decide_eq_false hzhi,Bool.false_and]
     go_enter Tryz.func210,Tryz.ntmps210
     go_wp2_with (fail)
     go_ret
     exact ⟨rfl,hb⟩
   ·have qlo:(lo == 0) = false:=by simpa using hzlo
    rw [decide_eq_false hzlo,Bool.false_and]
    go_enter Tryz.func210,Tryz.ntmps210
    go_wp2_with (fail)
    go_ret
    exact ⟨rfl,hb⟩
  ·have qb:(b == 0) = false:=by simpa using hzb
   rw [decide_eq_false hzb,Bool.false_and]
   go_enter Tryz.func210,Tryz.ntmps210
   go_wp2_with (fail)
   go_ret
   exact ⟨rfl,hb⟩
 have q6:(op == 6) = false:=by simpa using h6
 by_cases h7:op = 7
 ·subst h7
  rw [show vinB i n ⟨7,a,b,lo,hi⟩ = (decide (lo = 0) && (decide (hi = 0) && (ixB a i && ixB b i))) by first | rfl | simp [vinB]]
  by_cases hzlo:lo = 0
  ·subst hzlo
   rw [decide_eq_true rfl,Bool.true_and]
   by_cases hzhi:hi = 0
   ·subst hzhi
    rw [decide_eq_true rfl,Bool.true_and]
    obtain ⟨R,hR⟩:∃ R,ixB a i = R:=⟨_,rfl⟩
    have KI:=Lib.hid (isindex_ok a i)
    rw [hR] at KI ⊢
    clear hR
    obtain ⟨S,hS⟩:∃ S,ixB b i = S:=⟨_,rfl⟩
    have KJ:=Lib.hid (isindex_ok b i)
    rw [hS] at KJ ⊢
    clear hS
    cases R with
    | false =>
     rw [Bool.false_and]
     go_enter Tryz.func210,Tryz.ntmps210
     go_wp2_with (fail)
     refine (KI.out _).mono ?_
     rintro e w1 ⟨rfl,hB⟩
     go_wp2_with (fail)
     go_ret
     exact ⟨rfl,below_then hb hB⟩
    | true =>
     rw [Bool.true_and]
     go_enter Tryz.func210,Tryz.ntmps210
     go_wp2_with (fail)
     refine (KI.out _).mono ?_
     rintro e w1 ⟨rfl,hB⟩
     have y0:=(hx.grow hB).c2
     dsimp only at y0
     go_wp2_with (fail)
     refine (KJ.out _).mono ?_
     rintro e w2 ⟨rfl,hB2⟩
     go_wp2_with (fail)
     go_ret
     exact ⟨rfl,below_then (below_then hb hB) hB2⟩
   ·have qhi:(hi == 0) = false:=by simpa using hzhi
    rw [decide_eq_false hzhi,Bool.false_and]
    go_enter Tryz.func210,Tryz.ntmps210
    go_wp2_with (fail)
    go_ret
    exact ⟨rfl,hb⟩
  ·have qlo:(lo == 0) = false:=by simpa using hzlo
   rw [decide_eq_false hzlo,Bool.false_and]
   go_enter Tryz.func210,Tryz.ntmps210
   go_wp2_with (fail)
   go_ret
   exact ⟨rfl,hb⟩
 have q7:(op == 7) = false:=by simpa using h7
 by_cases h8:op = 8
 ·subst h8
  rw [show vinB i n ⟨8,a,b,lo,hi⟩ = (decide (lo = 0) && (decide (hi = 0) && (ixB a i && ixB b i))) by first | rfl | simp [vinB]]
  by_cases hzlo:lo = 0
  ·subst hzlo
   rw [decide_eq_true rfl,Bool.true_and]
   by_cases hzhi:hi = 0
   ·subst hzhi
    rw [decide_eq_true rfl,Bool.true_and]
    obtain ⟨R,hR⟩:∃ R,ixB a i = R:=⟨_,rfl⟩
    have KI:=Lib.hid (isindex_ok a i)
    rw [hR] at KI ⊢
    clear hR
    obtain ⟨S,hS⟩:∃ S,ixB b i = S:=⟨_,rfl⟩
    have KJ:=Lib.hid (isindex_ok b i)
    rw [hS] at KJ ⊢
    clear hS
    cases R with
    | false =>
     rw [Bool.false_and]
     go_enter Tryz.func210,Tryz.ntmps210
     go_wp2_with (fail)
     refine (KI.out _).mono ?_
     rintro e w1 ⟨rfl,hB⟩
     go_wp2_with (fail)
     go_ret
     exact ⟨rfl,below_then hb hB⟩
    | true =>
     rw [Bool.true_and]
     go_enter Tryz.func210,Tryz.ntmps210
     go_wp2_with (fail)
     refine (KI.out _).mono ?_
     rintro e w1 ⟨rfl,hB⟩
     have y0:=(hx.grow hB).c2
     dsimp only at y0
     go_wp2_with (fail)
     refine (KJ.out _).mono ?_
     rintro e w2 ⟨rfl,hB2⟩
     go_wp2_with (fail)
     go_ret
     exact ⟨rfl,below_then (below_then hb hB) hB2⟩
   ·have qhi:(hi == 0) = false:=by simpa using hzhi
    rw [decide_eq_false hzhi,Bool.false_and]
    go_enter Tryz.func210,Tryz.ntmps210
    go_wp2_with (fail)
    go_ret
    exact ⟨rfl,hb⟩
  ·have qlo:(lo == 0) = false:=by simpa using hzlo
   rw [decide_eq_false hzlo,Bool.false_and]
   go_enter Tryz.func210,Tryz.ntmps210
   go_wp2_with (fail)
   go_ret
   exact ⟨rfl,hb⟩
 have q8:(op == 8) = false:=by simpa using h8
 by_cases h9:op = 9
 ·subst h9
  rw [show vinB i n ⟨9,a,b,lo,hi⟩ = (decide (lo = 0) && (decide (hi = 0) && (ixB a i && ixB b i))) by first | rfl | simp [vinB]]
  by_cases hzlo:lo = 0
  ·subst hzlo
   rw [decide_eq_true rfl,Bool.true_and]
   by_cases hzhi:hi = 0
   ·subst hzhi
    rw [decide_eq_true rfl,Bool.true_and]
    obtain ⟨R,hR⟩:∃ R,ixB a i = R:=⟨_,rfl⟩
    have KI:=Lib.hid (isindex_ok a i)
    rw [hR] at KI ⊢
    clear hR
    obtain ⟨S,hS⟩:∃ S,ixB b i = S:=⟨_,rfl⟩
    have KJ:=Lib.hid (isindex_ok b i)
    rw [hS] at KJ ⊢
    clear hS
    cases R with
    | false =>
     rw [Bool.false_and]
     go_enter Tryz.func210,Tryz.ntmps210
     go_wp2_with (fail)
     refine (KI.out _).mono ?_
     rintro e w1 ⟨rfl,hB⟩
     go_wp2_with (fail)
     go_ret
     exact ⟨rfl,below_then hb hB⟩
    | true =>
     rw [Bool.true_and]
     go_enter Tryz.func210,Tryz.ntmps210
     go_wp2_with (fail)
     refine (KI.out _).mono ?_
     rintro e w1 ⟨rfl,hB⟩
     have y0:=(hx.grow hB).c2
     dsimp only at y0
     go_wp2_with (fail)
     refine (KJ.out _).mono ?_
     rintro e w2 ⟨rfl,hB2⟩
     go_wp2_with (fail)
     go_ret
     exact ⟨rfl,below_then (below_then hb hB) hB2⟩
   ·have qhi:(hi == 0) = false:=by simpa using hzhi
    rw [decide_eq_false hzhi,Bool.false_and]
    go_enter Tryz.func210,Tryz.ntmps210
    go_wp2_with (fail)
    go_ret
    exact ⟨rfl,hb⟩
  ·have qlo:(lo == 0) = false:=by simpa using hzlo
   rw [decide_eq_false hzlo,Bool.false_and]
   go_enter Tryz.func210,Tryz.ntmps210
   go_wp2_with (fail)
   go_ret
   exact ⟨rfl,hb⟩
 have q9:(op == 9) = false:=by simpa using h9
 by_cases h10:op = 10
 ·subst h10
  rw [show vinB i n ⟨10,a,b,lo,hi⟩ = (decide (lo = 0) && (decide (hi = 0) && (ixB a i && ixB b i))) by first | rfl | simp [vinB]]
  by_cases hzlo:lo = 0
  ·subst hzlo
   rw [decide_eq_true rfl,Bool.true_and]
   by_cases hzhi:hi = 0
   ·subst hzhi
    rw [decide_eq_true rfl,Bool.true_and]
    obtain ⟨R,hR⟩:∃ R,ixB a i = R:=⟨_,rfl⟩
    have KI:=Lib.hid (isindex_ok a i)
    rw [hR] at KI ⊢
    clear hR
    obtain ⟨S,hS⟩:∃ S,ixB b i = S:=⟨_,rfl⟩
    have KJ:=Lib.hid (isindex_ok b i)
    rw [hS] at KJ ⊢
    clear hS
    cases R with
    | false =>
     rw [Bool.false_and]
     go_enter Tryz.func210,Tryz.ntmps210
     go_wp2_with (fail)
     refine (KI.out _).mono ?_
     rintro e w1 ⟨rfl,hB⟩
     go_wp2_with (fail)
     go_ret
     exact ⟨rfl,below_then hb hB⟩
    | true =>
     rw [Bool.true_and]
     go_enter Tryz.func210,Tryz.ntmps210
     go_wp2_with (fail)
     refine (KI.out _).mono ?_
     rintro e w1 ⟨rfl,hB⟩
     have y0:=(hx.grow hB).c2
     dsimp only at y0
     go_wp2_with (fail)
     refine (KJ.out _).mono ?_
     rintro e w2 ⟨rfl,hB2⟩
     go_wp2_with (fail)
     go_ret
     exact ⟨rfl,below_then (below_then hb hB) hB2⟩
   ·have qhi:(hi == 0) = false:=by simpa using hzhi
    rw [decide_eq_false hzhi,Bool.false_and]
    go_enter Tryz.func210,Tryz.ntmps210
    go_wp2_with (fail)
    go_ret
    exact ⟨rfl,hb⟩
  ·have qlo:(lo == 0) = false:=by simpa using hzlo
   rw [decide_eq_false hzlo,Bool.false_and]
   go_enter Tryz.func210,Tryz.ntmps210
   go_wp2_with (fail)
   go_ret
   exact ⟨rfl,hb⟩
 have q10:(op == 10) = false:=by simpa using h10
 rw [show vinB i n ⟨op,a,b,lo,hi⟩ = false by unfold vinB; dsimp only; rw [if_neg h1,if_neg h2,if_neg h3,if_neg (by omega),if_neg (by omega)]]
 go_enter Tryz.func210,Tryz.ntmps210
 go_wp2_with (fail)
 go_ret
 exact ⟨rfl,hb⟩
def opsI (x:Is):List Int:=if x.op = 4 ∨ x.op = 5 ∨ x.op = 6 then [x.a] else if x.op = 7 ∨ x.op = 8 ∨ x.op = 9 ∨ x.op = 10 then [x.a,x.b] else []
end Go.Proofs.YtdfdpghdjlgghaaGreat
namespace Go.Proofs.YtdfdpghdjlgghaaGreat
open Go.ChangeShapes Go.WideShapes Go.ChangeAt Go.RowKit
set_option linter.unusedVariables false
set_option linter.unusedSimpArgs false
set_option maxRecDepth 100000
attribute [local irreducible] Calls
def vlGo (n:Int):List Is→Nat→Bool
 | [],_=>true
 | x :: r,i=>vinB i n x && vlGo n r (i+1)
def tvB (n:Int) (L:List Is) (out:List Int):Bool:=decide (1 ≤ n) && (decide (n ≤ 6) && (decide (L.length ≤ 400) && (decide ((out.length:Int) = n) && (vlGo n L 0 && out.all (fun k=>ixB k L.length)))))
def NmL (L:List Is):Prop:=∀ (j:Nat) (x:Is),L[j]? = some x→x.op = 1
theorem drop_consG {α:Type} {l:List α} {k:Nat} {x:α} (h:l[k]? = some x):l.drop k = x :: l.drop (k+1):=by
 obtain ⟨h1,h2⟩:=List.getElem?_eq_some_iff.1 h
 rw [List.drop_eq_getElem_cons h1,h2]
set_option maxHeartbeats 16000000 in
theorem tvalid_ok (n:Int) (vl vo:Value) (L:List Is) (out:List Int) (w:World) (hl:Ix w vl L) (ho:Px w vo out) :
  Calls Tryz.prog 181 #[.agg #[.int .i64 n,vl,vo]] w fun e w'=>e = .returned (.bool (tvB n L out))∧Below w.heap.size w w':=by
 obtain ⟨pl,cl,rfl⟩:=hl.cut
 obtain ⟨po,co,rfl⟩:=ho.cut
 have hba:Below w.heap.size w (w.alloc (.cells #[.int .i64 n,.slice pl L.length cl,.slice po out.length co] 35)):=(Below.refl _ _).alloc (Nat.le_refl _) _
 have hX:(w.alloc (.cells #[.int .i64 n,.slice pl L.length cl,.slice po out.length co] 35)).heap[w.heap.size]? = some (.cells #[.int .i64 n,.slice pl L.length cl,.slice po out.length co] 35 (0,0)):=World.alloc_heap_new w _
 obtain ⟨R,hR⟩:∃ R,tvB n L out = R:=⟨_,rfl⟩
 rw [hR]
 unfold tvB at hR
 have hm:=hl.1
 have hmo:=ho.1
 unfold maxLen at hm hmo
 by_cases c1:n < 1
 ·rw [decide_eq_false (by omega),Bool.false_and] at hR
  subst hR
  clear hX hl ho
  go_enter Tryz.func181,Tryz.ntmps181
  go_wp2_with (fail)
  go_ret
  exact ⟨rfl,hba⟩
 rw [decide_eq_true (by omega),Bool.true_and] at hR
 by_cases c2:(6:Int) < n
 ·rw [decide_eq_false (by omega),Bool.false_and] at hR
  subst hR
  clear hX hl ho
  go_enter Tryz.func181,Tryz.ntmps181
  go_wp2_with (fail)
  go_ret
  exact ⟨rfl,hba⟩
 rw [decide_eq_true (by omega),Bool.true_and] at hR
 have c3':¬ (400:Int) < L.length ∨ (400:Int) < L.length:=by omega
 by_cases c3:(400:Int) < (L.length:Int)
 ·rw [decide_eq_false (by omega),Bool.false_and] at hR
  subst hR
  clear hX hl ho
  go_enter Tryz.func181,Tryz.ntmps181
  go_wp2_with (fail)
  go_ret
  exact ⟨rfl,hba⟩
 rw [decide_eq_true (by omega),Bool.true_and] at hR
 by_cases c4:(out.length:Int) = n
 case neg =>
  have q4:((out.length:Int) == n) = false:=by simpa using c4
  rw [decide_eq_false c4,Bool.false_and] at hR
  subst hR
  clear hX hl ho
  go_enter Tryz.func181,Tryz.ntmps181
  go_wp2_with (fail)
  go_ret
  exact ⟨rfl,hba⟩
 rw [decide_eq_true c4,Bool.true_and] at hR
 have q4:((out.length:Int) == n) = true:=by simpa using c4
 have q5:(n == n) = true:=by simp
 have HL:=Lib.hid hl
 have HO:=Lib.hid ho
 have HX:=Lib.hid hX
 have HB:=Lib.hid hba
 have HR:=Lib.hid hR
 have C4:=Lib.hid c4
 clear hl ho hX hba hR c3' c4
 go_enter Tryz.func181,Tryz.ntmps181
 go_wp2_with (fail)
 go_loopw [32] (fun i wr=>∃ k:Nat,i = .int .i64 k∧k ≤ L.length∧Hid ((vlGo n (L.drop k) k && out.all (fun k=>ixB k L.length)) = R)∧Below w.heap.size w wr∧Hid (wr.heap[w.heap.size]? = some (.cells #[.int .i64 n,.slice pl L.length cl,.slice po out.length co] 35 (0,0)))) (fun i _=>L.length - (intOf i).toNat)
 case atStart=>exact ⟨0,rfl,Nat.zero_le _,HR,HB.out,HX⟩
 case round =>
  clear HX HB HR
  obtain ⟨k,rfl,hk,HR,hB,HX⟩:=hrel
  have x0:wr.cell? ⟨w.heap.size,0,none⟩ = some (.int .i64 n):=heapN_cellj HX.out (k:=0) rfl
  have x2:wr.cell? ⟨w.heap.size,2,none⟩ = some (.slice po out.length co):=heapN_cellj HX.out (k:=2) rfl
  have hxs:=(Array.getElem?_eq_some_iff.1 HX.out).1
  by_cases hlt:k < L.length
  ·have i2:(k:Int) < L.length:=by omega
   obtain ⟨⟨op,a,b,lo,hi⟩,hx⟩:∃ x,L[k]? = some x:=⟨_,List.getElem?_eq_getElem hlt⟩
   obtain ⟨bb,o,rfl,hbs,rd⟩:=is_rd HL.out hx
   obtain ⟨f0,f1,f2,f3,f4⟩:=rd ⟨wr,hB⟩
   dsimp only at f0 f1 f2 f3 f4
   have hd:=HR.out
   rw [drop_consG hx] at hd
   unfold vlGo at hd
   have KV:=Lib.hid (fun w=>vinst_ok op a b lo hi k n w)
   obtain ⟨T,hT⟩:∃ T,vinB k n ⟨op,a,b,lo,hi⟩ = T:=⟨_,rfl⟩
   rw [hT] at KV hd
   have hB2:Below w.heap.size w (wr.alloc (.cells #[.int .i64 op,.int .i64 a,.int .i64 b,.int .i64 lo,.int .i64 hi] 75)):=hB.alloc hB.size _
   have hX2:(wr.alloc (.cells #[.int .i64 op,.int .i64 a,.int .i64 b,.int .i64 lo,.int .i64 hi] 75)).heap[w.heap.size]? = some (.cells #[.int .i64 n,.slice (some ⟨bb,o,none⟩) L.length cl,.slice po out.length co] 35 (0,0)):=(((Below.refl wr.heap.size wr).alloc (Nat.le_refl _) _).block _ hxs).trans HX.out
   have HD:=Lib.hid hd
   have HB2:=Lib.hid hB2
   have HX2:=Lib.hid hX2
   clear hd hT rd hx HR hB2 hX2 HX
   go_wp2_with (fail)
   refine (KV.out _).mono ?_
   rintro e w5 ⟨rfl,hB5⟩
   have hB6:=below_then HB2.out hB5
   have hX6:=(hB5.block _ (Array.getElem?_eq_some_iff.1 HX2.out).1).trans HX2.out
   cases T with
   | false =>
    have hd:=HD.out
    simp only [Bool.false_and] at hd
    subst hd
    clear HD f0 f1 f2 f3 f4 x0 x2
    go_wp2_with (fail)
    go_ret
    exact ⟨rfl,hB6⟩
   | true =>
    have hd:=HD.out
    rw [Bool.true_and] at hd
    have HD2:=Lib.hid hd
    have HX6:=Lib.hid hX6
    clear HD hd f0 f1 f2 f3 f4 x0 x2 hX6
    go_wp2_with (fail)
    exact ⟨⟨k+1,by go_num,by omega,HD2,hB6,HX6⟩,by simp [intOf]; omega⟩
  ·obtain rfl:k = L.length:=by omega
   have i2:¬ (L.length:Int) < L.length:=by omega
   have hd:=HR.out
   rw [List.drop_length] at hd
   unfold vlGo at hd
   rw [Bool.true_and] at hd
   have HR2:=Lib.hid hd
   have HBr:=Lib.hid hB
   clear hd HR hB
   go_wp2_with (fail)
   go_loopw [47] (fun i wr=>∃ k:Nat,i = .int .i64 k∧k ≤ out.length∧Hid ((out.drop k).all (fun k=>ixB k L.length) = R)∧Below w.heap.size w wr∧Hid (wr.heap[w.heap.size]? = some (.cells #[.int .i64 n,.slice pl L.length cl,.slice po out.length co] 35 (0,0)))) (fun i _=>out.length - (intOf i).toNat)
   case atStart=>exact ⟨0,rfl,Nat.zero_le _,HR2,HBr.out,HX⟩
   case round =>
    clear HX HBr HR2 x0 x2 hxs
    obtain ⟨k,rfl,hk,HR,hB,HX⟩:=hrel
    have x1:wr.cell? ⟨w.heap.size,1,none⟩ = some (.slice pl L.length cl):=heapN_cellj HX.out (k:=1) rfl
    by_cases hlt:k < out.length
    ·have i3:(k:Int) < out.length:=by omega
     obtain ⟨y,hx⟩:∃ x,out[k]? = some x:=⟨_,List.getElem?_eq_getElem hlt⟩
     obtain ⟨bb,o,rfl,hbs,rd⟩:=px_rd HO.out hx
     have f0:=rd ⟨wr,hB⟩
     dsimp only at f0
     have hd:=HR.out
     rw [drop_consG hx,List.all_cons] at hd
     have KV:=Lib.hid (fun w=>isindex_ok y L.length w)
     obtain ⟨T,hT⟩:∃ T,ixB y L.length = T:=⟨_,rfl⟩
     rw [hT] at KV hd
     have HD:=Lib.hid hd
     have HB2:=Lib.hid hB
     clear hd hT rd hx HR hB
     go_wp2_with (fail)
     refine (KV.out _).mono ?_
     rintro e w5 ⟨rfl,hB5⟩
     have hB6:=HB2.out.trans (hB5.mono HB2.out.size)
     have hX6:=(hB5.block _ (Array.getElem?_eq_some_iff.1 HX.out).1).trans HX.out
     cases T with
     | false =>
      have hd:=HD.out
      simp only [Bool.false_and] at hd
      subst hd
      clear HD f0 x1
      go_wp2_with (fail)
      go_ret
      exact ⟨rfl,hB6⟩
     | true =>
      have hd:=HD.out
      rw [Bool.true_and] at hd
      have HD2:=Lib.hid hd
      have HX6:=Lib.hid hX6
      clear HD hd f0 x1 hX6
      go_wp2_with (fail)
      exact ⟨⟨k+1,by go_num,by omega,HD2,hB6,HX6⟩,by simp [intOf]; omega⟩
    ·obtain rfl:k = out.length:=by omega
     have i3:¬ (out.length:Int) < out.length:=by omega
     have hd:=HR.out
     rw [List.drop_length] at hd
     simp only [List.all_nil] at hd
     subst hd
     clear HR
     go_wp2_with (fail)
     go_ret
     exact ⟨rfl,hB⟩
end Go.Proofs.YtdfdpghdjlgghaaGreat
