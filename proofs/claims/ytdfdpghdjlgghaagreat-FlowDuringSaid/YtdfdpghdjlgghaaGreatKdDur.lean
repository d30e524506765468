/-
 More of the same.
-/
import Derived.ProofKit
import Derived.Below
import Derived.ChangeSame
import Derived.WalkKit
import Derived.OpenShut
import Derived.Handy
import Derived.Deep.QuietTactic
import Derived.BigQuiet
import Derived.Lib.Hide
import Derived.Carry
import Derived.StillTail
import Derived.Outline
import Derived.WalkMore
import Derived.KernelRfl
import Derived.OwnWalk
import Derived.RangeFuncBox
import Derived.RangeFuncRecord
import Derived.Laws.AppendOwn
import Derived.Laws.AppendOwnNone
import Derived.DeepKeys4
import Derived.Maps.OwnSet
import Derived.Maps.AppendAt
import Derived.Deep.RegionLaw
import Derived.RangeFuncNested
import Derived.RangeFuncCalls
import Derived.OrdersIn
import Derived.TacticsIn
import Derived.Laws.EntriesVeiled
import Derived.Deep.RegionWith
import Derived.RangeFuncBound
import Derived.RangeFuncLeaves
import Derived.Shelf.Abstract
import Derived.Shelf.RegionOpen
import Derived.OwnWalkIn
import Derived.TacticsInMore
import Derived.LoopNIn
import Derived.LoopIn
import Derived.Laws.Bits128
import Derived.Deep.CutRange
import Derived.Deep.Matrix
import Derived.Laws.OwnMore
import Derived.Laws.Tables
import Derived.Lib.LazyBuf
import Derived.Deep.RegionHeld3
import Derived.Great.BuildSlice
import Derived.Stop.Asserts
import Derived.Lib.IfaceEq
import Derived.LaidEql
import Derived.Test.YtdfdpghdjlgghaaGreatKdGo
namespace Go.Proofs.YtdfdpghdjlgghaaGreat
open Go.RowKit
instance (w0:World):Nonempty (Grown w0):=⟨⟨w0,Below.refl _ _⟩⟩
end Go.Proofs.YtdfdpghdjlgghaaGreat
namespace Go.Proofs.YtdfdpghdjlgghaaGreat
open Go.ChangeShapes Go.WideShapes Go.ChangeAt Go.RowKit
set_option linter.unusedVariables false
instance (x:Int):Decidable (Num x):=inferInstanceAs (Decidable (_∧_))
instance (lo hi:Int):Decidable (Ent lo hi):=inferInstanceAs (Decidable (_∧_))
instance (lo hi:Int):Decidable (VI lo hi):=inferInstanceAs (Decidable (_ ∨ _))
theorem r2ent_yes (w:World) :
  Calls Tryz.prog 82 #[.agg #[.int .i64 (-2147483648),.int .i64 2147483648]] w fun e w'=>e = .returned (.bool true)∧Below w.heap.size w w':=by
 go_enter Tryz.func82,Tryz.ntmps82
 go_wp2
 go_ret
 refine ⟨rfl,?_⟩
 go_grown
theorem r2ent_no (lo hi:Int) (w:World) (h:¬ Ent lo hi) :
  Calls Tryz.prog 82 #[.agg #[.int .i64 lo,.int .i64 hi]] w fun e w'=>e = .returned (.bool false)∧Below w.heap.size w w':=by
 by_cases h1:lo = -2147483648
 ·have h2:(hi == 2147483648) = false:=by rw [beq_eq_false_iff_ne]; exact fun h2=>h ⟨h1,h2⟩
  subst h1
  clear h
  go_enter Tryz.func82,Tryz.ntmps82
  go_wp2
  go_ret
  refine ⟨rfl,?_⟩
  go_grown
 ·have h2:(lo == -2147483648) = false:=by rw [beq_eq_false_iff_ne]; exact h1
  clear h h1
  go_enter Tryz.func82,Tryz.ntmps82
  go_wp2
  go_ret
  refine ⟨rfl,?_⟩
  go_grown
end Go.Proofs.YtdfdpghdjlgghaaGreat
namespace Go.Proofs.YtdfdpghdjlgghaaGreat
open Go.ChangeShapes Go.WideShapes Go.ChangeAt Go.RowKit
set_option linter.unusedVariables false
theorem r2hull_00 (a b c d:Int) (w:World) (h1:a < c) (h2:b < d) :
  Calls Tryz.prog 36 #[.agg #[.int .i64 a,.int .i64 b],.agg #[.int .i64 c,.int .i64 d]] w fun e w'=>e = .returned (.agg #[.int .i64 a,.int .i64 d])∧Below w.heap.size w w':=by
 go_enter Tryz.func36,Tryz.ntmps36
 go_wp2_with (fail)
 refine bodyPost_ret (v:=.agg #[.int .i64 a,.int .i64 d]) (by simp [results,Tryz.results36,go_sem]) rfl ⟨rfl,?_⟩
 go_grown
theorem r2hull_01 (a b c d:Int) (w:World) (h1:a < c) (h2:b = d) :
  Calls Tryz.prog 36 #[.agg #[.int .i64 a,.int .i64 b],.agg #[.int .i64 c,.int .i64 d]] w fun e w'=>e = .returned (.agg #[.int .i64 a,.int .i64 b])∧Below w.heap.size w w':=by
 subst h2
 go_enter Tryz.func36,Tryz.ntmps36
 go_wp2_with (fail)
 refine bodyPost_ret (v:=.agg #[.int .i64 a,.int .i64 b]) (by simp [results,Tryz.results36,go_sem]) rfl ⟨rfl,?_⟩
 go_grown
theorem r2hull_02 (a b c d:Int) (w:World) (h1:a < c) (h2:d < b) :
  Calls Tryz.prog 36 #[.agg #[.int .i64 a,.int .i64 b],.agg #[.int .i64 c,.int .i64 d]] w fun e w'=>e = .returned (.agg #[.int .i64 a,.int .i64 b])∧Below w.heap.size w w':=by
 go_enter Tryz.func36,Tryz.ntmps36
 go_wp2_with (fail)
 refine bodyPost_ret (v:=.agg #[.int .i64 a,.int .i64 b]) (by simp [results,Tryz.results36,go_sem]) rfl ⟨rfl,?_⟩
 go_grown
theorem r2hull_10 (a b c d:Int) (w:World) (h1:a = c) (h2:b < d) :
  Calls Tryz.prog 36 #[.agg #[.int .i64 a,.int .i64 b],.agg #[.int .i64 c,.int .i64 d]] w fun e w'=>e = .returned (.agg #[.int .i64 a,.int .i64 d])∧Below w.heap.size w w':=by
 subst h1
 go_enter Tryz.func36,Tryz.ntmps36
 go_wp2_with (fail)
 refine bodyPost_ret (v:=.agg #[.int .i64 a,.int .i64 d]) (by simp [results,Tryz.results36,go_sem]) rfl ⟨rfl,?_⟩
 go_grown
theorem r2hull_11 (a b c d:Int) (w:World) (h1:a = c) (h2:b = d) :
  Calls Tryz.prog 36 #[.agg #[.int .i64 a,.int .i64 b],.agg #[.int .i64 c,.int .i64 d]] w fun e w'=>e = .returned (.agg #[.int .i64 a,.int .i64 b])∧Below w.heap.size w w':=by
 subst h1
 subst h2
 go_enter Tryz.func36,Tryz.ntmps36
 go_wp2_with (fail)
 refine bodyPost_ret (v:=.agg #[.int .i64 a,.int .i64 b]) (by simp [results,Tryz.results36,go_sem]) rfl ⟨rfl,?_⟩
 go_grown
theorem r2hull_12 (a b c d:Int) (w:World) (h1:a = c) (h2:d < b) :
  Calls Tryz.prog 36 #[.agg #[.int .i64 a,.int .i64 b],.agg #[.int .i64 c,.int .i64 d]] w fun e w'=>e = .returned (.agg #[.int .i64 a,.int .i64 b])∧Below w.heap.size w w':=by
 subst h1
 go_enter Tryz.func36,Tryz.ntmps36
 go_wp2_with (fail)
 refine bodyPost_ret (v:=.agg #[.int .i64 a,.int .i64 b]) (by simp [results,Tryz.results36,go_sem]) rfl ⟨rfl,?_⟩
 go_grown
theorem r2hull_20 (a b c d:Int) (w:World) (h1:c < a) (h2:b < d) :
  Calls Tryz.prog 36 #[.agg #[.int .i64 a,.int .i64 b],.agg #[.int .i64 c,.int .i64 d]] w fun e w'=>e = .returned (.agg #[.int .i64 c,.int .i64 d])∧Below w.heap.size w w':=by
 go_enter Tryz.func36,Tryz.ntmps36
 go_wp2_with (fail)
 refine bodyPost_ret (v:=.agg #[.int .i64 c,.int .i64 d]) (by simp [results,Tryz.results36,go_sem]) rfl ⟨rfl,?_⟩
 go_grown
theorem r2hull_21 (a b c d:Int) (w:World) (h1:c < a) (h2:b = d) :
  Calls Tryz.prog 36 #[.agg #[.int .i64 a,.int .i64 b],.agg #[.int .i64 c,.int .i64 d]] w fun e w'=>e = .returned (.agg #[.int .i64 c,.int .i64 b])∧Below w.heap.size w w':=by
 subst h2
 go_enter Tryz.func36,Tryz.ntmps36
 go_wp2_with (fail)
 refine bodyPost_ret (v:=.agg #[.int .i64 c,.int .i64 b]) (by simp [results,Tryz.results36,go_sem]) rfl ⟨rfl,?_⟩
 go_grown
theorem r2hull_22 (a b c d:Int) (w:World) (h1:c < a) (h2:d < b) :
  Calls Tryz.prog 36 #[.agg #[.int .i64 a,.int .i64 b],.agg #[.int .i64 c,.int .i64 d]] w fun e w'=>e = .returned (.agg #[.int .i64 c,.int .i64 b])∧Below w.heap.size w w':=by
 go_enter Tryz.func36,Tryz.ntmps36
 go_wp2_with (fail)
 refine bodyPost_ret (v:=.agg #[.int .i64 c,.int .i64 b]) (by simp [results,Tryz.results36,go_sem]) rfl ⟨rfl,?_⟩
 go_grown
theorem r2hull (a b c d:Int) (w:World) :
  Calls Tryz.prog 36 #[.agg #[.int .i64 a,.int .i64 b],.agg #[.int .i64 c,.int .i64 d]] w fun e w'=>e = .returned (.agg #[.int .i64 (min a c),.int .i64 (max b d)])∧Below w.heap.size w w':=by
 rcases Int.lt_trichotomy a c with h1 | h1 | h1 <;> rcases Int.lt_trichotomy b d with h2 | h2 | h2
 ·have e1:min a c = a:=by omega
  have e2:max b d = d:=by omega
  rw [e1,e2]
  exact r2hull_00 a b c d w (by omega) (by omega)
 ·have e1:min a c = a:=by omega
  have e2:max b d = b:=by omega
  rw [e1,e2]
  exact r2hull_01 a b c d w (by omega) (by omega)
 ·have e1:min a c = a:=by omega
  have e2:max b d = b:=by omega
  rw [e1,e2]
  exact r2hull_02 a b c d w (by omega) (by omega)
 ·have e1:min a c = a:=by omega
  have e2:max b d = d:=by omega
  rw [e1,e2]
  exact r2hull_10 a b c d w (by omega) (by omega)
 ·have e1:min a c = a:=by omega
  have e2:max b d = b:=by omega
  rw [e1,e2]
  exact r2hull_11 a b c d w (by omega) (by omega)
 ·have e1:min a c = a:=by omega
  have e2:max b d = b:=by omega
  rw [e1,e2]
  exact r2hull_12 a b c d w (by omega) (by omega)
 ·have e1:min a c = c:=by omega
  have e2:max b d = d:=by omega
  rw [e1,e2]
  exact r2hull_20 a b c d w (by omega) (by omega)
 ·have e1:min a c = c:=by omega
  have e2:max b d = b:=by omega
  rw [e1,e2]
  exact r2hull_21 a b c d w (by omega) (by omega)
 ·have e1:min a c = c:=by omega
  have e2:max b d = b:=by omega
  rw [e1,e2]
  exact r2hull_22 a b c d w (by omega) (by omega)
end Go.Proofs.YtdfdpghdjlgghaaGreat
namespace Go.Proofs.YtdfdpghdjlgghaaGreat
open Go.ChangeShapes Go.WideShapes Go.ChangeAt Go.RowKit
set_option linter.unusedVariables false
set_option linter.unusedSimpArgs false
set_option maxRecDepth 100000
instance (a b:Int):Decidable (Bd a b):=inferInstanceAs (Decidable (_∧_))
end Go.Proofs.YtdfdpghdjlgghaaGreat
namespace Go.Proofs.YtdfdpghdjlgghaaGreat
open Go.ChangeShapes Go.WideShapes Go.ChangeAt Go.RowKit
set_option linter.unusedVariables false
set_option linter.unusedSimpArgs false
set_option maxRecDepth 100000
instance:DecidableEq Nd:=fun x y=>if h:x.op = y.op∧x.n = y.n∧x.lo = y.lo∧x.hi = y.hi then isTrue (by cases x; cases y; simp at h; simp [h]) else isFalse (by rintro rfl; simp at h)
instance:DecidableEq Is:=fun x y=>if h:x.op = y.op∧x.a = y.a∧x.b = y.b∧x.lo = y.lo∧x.hi = y.hi then isTrue (by cases x; cases y; simp at h; simp [h]) else isFalse (by rintro rfl; simp at h)
end Go.Proofs.YtdfdpghdjlgghaaGreat
namespace Go.Proofs.YtdfdpghdjlgghaaGreat
open Go.ChangeShapes Go.WideShapes Go.ChangeAt Go.RowKit
set_option linter.unusedVariables false
set_option linter.unusedSimpArgs false
set_option maxRecDepth 100000
open Go.BigFrame
attribute [local go_sem ↓] run_max_two run_min_two run_max_three
set_option maxHeartbeats 1000000 in
theorem r2contains (a b x:Int) (r:Bool) (w:World) (h:(decide (Ent a b) || (decide (a ≤ x) && decide (x ≤ b))) = r) :
  Calls Tryz.prog 37 #[.agg #[.int .i64 a,.int .i64 b],.int .i64 x] w fun e w'=>e = .returned (.bool r)∧Below w.heap.size w w':=by
 by_cases h0:Ent a b
 ·have hr:r = true:=by rw [← h]; simp [h0]
  subst hr
  obtain ⟨rfl,rfl⟩:=h0
  clear h
  go_enter Tryz.func37,Tryz.ntmps37
  go_wp2_with (fail)
  generalize hW0:World.alloc w _ = W0
  have hT0:Below w.heap.size w W0:=by subst hW0; exact ((Below.refl w.heap.size w).alloc (by go_size) _)
  have S0:∀ g:Grown W0,w.heap.size < g.w.heap.size:=fun g=>Nat.lt_of_lt_of_le (by subst hW0; simp <;> omega) g.h.size
  have Y0:w.heap.size < W0.heap.size:=by subst hW0; simp <;> omega
  have F00:∀ g:Grown W0,g.w.cell? ⟨w.heap.size,0,none⟩ = some (.int .i64 (-2147483648)):=fun g=>(g.cell Y0).trans (by subst hW0; simp [go_sem])
  have H00:∀ g:Grown W0,g.w.frozen? ⟨w.heap.size,0,none⟩ = false:=fun g=>(g.frozen Y0).trans (by subst hW0; simp [go_sem])
  have F01:∀ g:Grown W0,g.w.cell? ⟨w.heap.size,1,none⟩ = some (.int .i64 2147483648):=fun g=>(g.cell Y0).trans (by subst hW0; simp [go_sem])
  have H01:∀ g:Grown W0,g.w.frozen? ⟨w.heap.size,1,none⟩ = false:=fun g=>(g.frozen Y0).trans (by subst hW0; simp [go_sem])
  clear Y0
  clear hW0
  obtain ⟨g0,hg0⟩:∃ g:Grown W0,W0 = g.w:=⟨⟨W0,Below.refl _ _⟩,rfl⟩
  rw [hg0]
  clear hg0
  refine (r2ent_yes _).mono ?_
  rintro e1 w1 ⟨rfl,hB1⟩
  obtain ⟨g1,rfl⟩:=grow g0 hB1
  clear hB1
  go_wp2_with (fail)
  have hB:Below w.heap.size w g1.w:=below_then hT0 g1.h
  go_ret
  refine ⟨rfl,?_⟩
  go_grown
 ·have h0':=Lib.hid h0
  by_cases h1:a ≤ x
  ·have hr:decide (x ≤ b) = r:=by rw [← h]; simp [h0,h1]
   clear h h0
   go_enter Tryz.func37,Tryz.ntmps37
   go_wp2_with (fail)
   generalize hW0:World.alloc w _ = W0
   have hT0:Below w.heap.size w W0:=by subst hW0; exact ((Below.refl w.heap.size w).alloc (by go_size) _)
   have S0:∀ g:Grown W0,w.heap.size < g.w.heap.size:=fun g=>Nat.lt_of_lt_of_le (by subst hW0; simp <;> omega) g.h.size
   have Y0:w.heap.size < W0.heap.size:=by subst hW0; simp <;> omega
   have F00:∀ g:Grown W0,g.w.cell? ⟨w.heap.size,0,none⟩ = some (.int .i64 a):=fun g=>(g.cell Y0).trans (by subst hW0; simp [go_sem])
   have H00:∀ g:Grown W0,g.w.frozen? ⟨w.heap.size,0,none⟩ = false:=fun g=>(g.frozen Y0).trans (by subst hW0; simp [go_sem])
   have F01:∀ g:Grown W0,g.w.cell? ⟨w.heap.size,1,none⟩ = some (.int .i64 b):=fun g=>(g.cell Y0).trans (by subst hW0; simp [go_sem])
   have H01:∀ g:Grown W0,g.w.frozen? ⟨w.heap.size,1,none⟩ = false:=fun g=>(g.frozen Y0).trans (by subst hW0; simp [go_sem])
   clear Y0
   clear hW0
   obtain ⟨g0,hg0⟩:∃ g:Grown W0,W0 = g.w:=⟨⟨W0,Below.refl _ _⟩,rfl⟩
   rw [hg0]
   clear hg0
   refine (r2ent_no a b _ h0'.out).mono ?_
   rintro e1 w1 ⟨rfl,hB1⟩
   obtain ⟨g1,rfl⟩:=grow g0 hB1
   clear hB1
   go_wp2_with (fail)
   have hB:Below w.heap.size w g1.w:=below_then hT0 g1.h
   go_ret
   refine ⟨by first | rfl | (simp [hr]; done),?_⟩
   go_grown
  ·have hr:r = false:=by rw [← h]; simp [h0,h1]
   subst hr
   have h1':x < a:=by omega
   clear h h0 h1
   go_enter Tryz.func37,Tryz.ntmps37
   go_wp2_with (fail)
   generalize hW0:World.alloc w _ = W0
   have hT0:Below w.heap.size w W0:=by subst hW0; exact ((Below.refl w.heap.size w).alloc (by go_size) _)
   have S0:∀ g:Grown W0,w.heap.size < g.w.heap.size:=fun g=>Nat.lt_of_lt_of_le (by subst hW0; simp <;> omega) g.h.size
   have Y0:w.heap.size < W0.heap.size:=by subst hW0; simp <;> omega
   have F00:∀ g:Grown W0,g.w.cell? ⟨w.heap.size,0,none⟩ = some (.int .i64 a):=fun g=>(g.cell Y0).trans (by subst hW0; simp [go_sem])
   have H00:∀ g:Grown W0,g.w.frozen? ⟨w.heap.size,0,none⟩ = false:=fun g=>(g.frozen Y0).trans (by subst hW0; simp [go_sem])
   have F01:∀ g:Grown W0,g.w.cell? ⟨w.heap.size,1,none⟩ = some (.int .i64 b):=fun g=>(g.cell Y0).trans (by subst hW0; simp [go_sem])
   have H01:∀ g:Grown W0,g.w.frozen? ⟨w.heap.size,1,none⟩ = false:=fun g=>(g.frozen Y0).trans (by subst hW0; simp [go_sem])
   clear Y0
   clear hW0
   obtain ⟨g0,hg0⟩:∃ g:Grown W0,W0 = g.w:=⟨⟨W0,Below.refl _ _⟩,rfl⟩
   rw [hg0]
   clear hg0
   refine (r2ent_no a b _ h0'.out).mono ?_
   rintro e1 w1 ⟨rfl,hB1⟩
   obtain ⟨g1,rfl⟩:=grow g0 hB1
   clear hB1
   go_wp2_with (fail)
   have hB:Below w.heap.size w g1.w:=below_then hT0 g1.h
   go_ret
   refine ⟨rfl,?_⟩
   go_grown
end Go.Proofs.YtdfdpghdjlgghaaGreat
namespace Go.Proofs.YtdfdpghdjlgghaaGreat
open Go.ChangeShapes Go.WideShapes Go.ChangeAt Go.RowKit
set_option linter.unusedVariables false
set_option linter.unusedSimpArgs false
set_option maxRecDepth 100000
theorem at_spec {n:Nat} {l:List Sr} {t:Int} {i:Nat} {B:List (Int × Int)} (hf:Fst (ltE t) l i) (hin:∀ x ∈ l,subB x.F x.U = true∧subB x.E x.U = true) (hb:FlG n l) (h:atR l t i = some B):B.length = n∧∃ x ∈ l,x.t ≤ t∧t ≤ x.t+x.h∧subB B x.U = true:=by
 unfold atR at h
 cases e:l[i]? with
 | some s =>
  rw [e] at h
  dsimp only at h
  have hm:=List.mem_of_getElem? e
  have hp:=hf.2.2 i s (Nat.le_refl _) e
  have hp:=of_decide_eq_true hp
  have hl:=hb.box s hm
  by_cases c1:t < s.t
  ·rw [if_pos c1] at h; cases h
  ·rw [if_neg c1] at h
   by_cases c2:t = s.t
   ·rw [if_pos c2] at h
    obtain rfl:=Option.some.inj h
    exact ⟨hl.1,s,hm,by omega,by omega,(hin s hm).1⟩
   ·rw [if_neg c2] at h
    obtain rfl:=Option.some.inj h
    exact ⟨hl.2.2.1,s,hm,by omega,by omega,subB_self _⟩
 | none =>
  rw [e] at h
  dsimp only at h
  cases e2:l.getLast? with
  | none=>rw [e2] at h; cases h
  | some s =>
   rw [e2] at h
   dsimp only at h
   have hm:=List.mem_of_getLast? e2
   have hl:=hb.box s hm
   have ht:=hb.tm s hm
   by_cases c1:t = s.t+s.h
   ·rw [if_pos c1] at h
    obtain rfl:=Option.some.inj h
    exact ⟨hl.2.2.2.1,s,hm,by omega,by omega,(hin s hm).2⟩
   ·rw [if_neg c1] at h; cases h
end Go.Proofs.YtdfdpghdjlgghaaGreat
namespace Go.Proofs.YtdfdpghdjlgghaaGreat
open Go.RowKit
set_option linter.unusedVariables false
set_option linter.unusedSimpArgs false
section
variable {P:Program}
theorem updS_ne (σ:Nat→Bool) {i j:Nat} (h:j ≠ i):updS σ i j = σ j:=if_neg h
theorem heap_setN_ne (W:World) {X Y:Nat} (h:Y ≠ X) (o:Nat) (v:Value):(W.setCell ⟨X,o,none⟩ v).heap[Y]? = W.heap[Y]?:=by
 show (W.heap.modify X _)[Y]? = _
 rw [Array.getElem?_modify,if_neg (Ne.symm h)]
end
end Go.Proofs.YtdfdpghdjlgghaaGreat
namespace Go.Proofs.YtdfdpghdjlgghaaGreat
open Go.ChangeShapes Go.WideShapes Go.ChangeAt Go.RowKit
set_option linter.unusedVariables false
set_option linter.unusedSimpArgs false
set_option maxRecDepth 100000
open Go.BigFrame
attribute [local go_sem ↓] run_max_two run_min_two run_max_three
set_option maxHeartbeats 1000000 in
theorem r2valid (a b:Int) (r:Bool) (w:World) (h:decide (VI a b) = r) :
  Calls Tryz.prog 79 #[.agg #[.int .i64 a,.int .i64 b]] w fun e w'=>e = .returned (.bool r)∧Below w.heap.size w w':=by
 by_cases h0:Ent a b
 ·have hr:r = true:=by rw [← h]; unfold VI; simp [h0]
  subst hr
  obtain ⟨rfl,rfl⟩:=h0
  clear h
  go_enter Tryz.func79,Tryz.ntmps79
  go_wp2_with (fail)
  generalize hW0:World.alloc w _ = W0
  have hT0:Below w.heap.size w W0:=by subst hW0; exact ((Below.refl w.heap.size w).alloc (by go_size) _)
  have S0:∀ g:Grown W0,w.heap.size < g.w.heap.size:=fun g=>Nat.lt_of_lt_of_le (by subst hW0; simp <;> omega) g.h.size
  have Y0:w.heap.size < W0.heap.size:=by subst hW0; simp <;> omega
  have F00:∀ g:Grown W0,g.w.cell? ⟨w.heap.size,0,none⟩ = some (.int .i64 (-2147483648)):=fun g=>(g.cell Y0).trans (by subst hW0; simp [go_sem])
  have H00:∀ g:Grown W0,g.w.frozen? ⟨w.heap.size,0,none⟩ = false:=fun g=>(g.frozen Y0).trans (by subst hW0; simp [go_sem])
  have F01:∀ g:Grown W0,g.w.cell? ⟨w.heap.size,1,none⟩ = some (.int .i64 2147483648):=fun g=>(g.cell Y0).trans (by subst hW0; simp [go_sem])
  have H01:∀ g:Grown W0,g.w.frozen? ⟨w.heap.size,1,none⟩ = false:=fun g=>(g.frozen Y0).trans (by subst hW0; simp [go_sem])
  clear Y0
  clear hW0
  obtain ⟨g0,hg0⟩:∃ g:Grown W0,W0 = g.w:=⟨⟨W0,Below.refl _ _⟩,rfl⟩
  rw [hg0]
  clear hg0
  refine (r2ent_yes _).mono ?_
  rintro e1 w1 ⟨rfl,hB1⟩
  obtain ⟨g1,rfl⟩:=grow g0 hB1
  clear hB1
  go_wp2_with (fail)
  have hB:Below w.heap.size w g1.w:=below_then hT0 g1.h
  go_ret
  refine ⟨rfl,?_⟩
  go_grown
 have h0':=Lib.hid h0
 by_cases h1:Num a
 ·by_cases h2:Num b
  ·have hr:decide (a ≤ b) = r:=by rw [← h]; unfold VI; simp [h0,h1,h2]
   have h1':=Lib.hid h1
   have h2':=Lib.hid h2
   clear h h0 h1 h2
   go_enter Tryz.func79,Tryz.ntmps79
   go_wp2_with (fail)
   generalize hW0:World.alloc w _ = W0
   have hT0:Below w.heap.size w W0:=by subst hW0; exact ((Below.refl w.heap.size w).alloc (by go_size) _)
   have S0:∀ g:Grown W0,w.heap.size < g.w.heap.size:=fun g=>Nat.lt_of_lt_of_le (by subst hW0; simp <;> omega) g.h.size
   have Y0:w.heap.size < W0.heap.size:=by subst hW0; simp <;> omega
   have F00:∀ g:Grown W0,g.w.cell? ⟨w.heap.size,0,none⟩ = some (.int .i64 a):=fun g=>(g.cell Y0).trans (by subst hW0; simp [go_sem])
   have H00:∀ g:Grown W0,g.w.frozen? ⟨w.heap.size,0,none⟩ = false:=fun g=>(g.frozen Y0).trans (by subst hW0; simp [go_sem])
   have F01:∀ g:Grown W0,g.w.cell? ⟨w.heap.size,1,none⟩ = some (.int .i64 b):=fun g=>(g.cell Y0).trans (by subst hW0; simp [go_sem])
   have H01:∀ g:Grown W0,g.w.frozen? ⟨w.heap.size,1,none⟩ = false:=fun g=>(g.frozen Y0).trans (by subst hW0; simp [go_sem])
   clear Y0
   clear hW0
   obtain ⟨g0,hg0⟩:∃ g:Grown W0,W0 = g.w:=⟨⟨W0,Below.refl _ _⟩,rfl⟩
   rw [hg0]
   clear hg0
   refine (r2ent_no a b _ h0'.out).mono ?_
   rintro e1 w1 ⟨rfl,hB1⟩
   obtain ⟨g1,rfl⟩:=grow g0 hB1
   clear hB1
   go_wp2_with (fail)
   refine (r2num_yes a _ h1'.out).mono ?_
   rintro e2 w2 ⟨rfl,rfl⟩
   go_wp2_with (fail)
   refine (r2num_yes b _ h2'.out).mono ?_
   rintro e3 w3 ⟨rfl,rfl⟩
   go_wp2_with (fail)
   have hB:Below w.heap.size w g1.w:=below_then hT0 g1.h
   go_ret
   refine ⟨by first | rfl | (simp [hr]; done),?_⟩
   go_grown
  ·have hr:r = false:=by rw [← h]; unfold VI; simp [h0,h2]
   subst hr
   have h1':=Lib.hid h1
   have h2':=Lib.hid h2
   clear h h0 h1 h2
   go_enter Tryz.func79,Tryz.ntmps79
   go_wp2_with (fail)
   generalize hW0:World.alloc w _ = W0
   have hT0:Below w.heap.size w W0:=by subst hW0; exact ((Below.refl w.heap.size w).alloc (by go_size) _)
   have S0:∀ g:Grown W0,w.heap.size < g.w.heap.size:=fun g=>Nat.lt_of_lt_of_le (by subst hW0; simp <;> omega) g.h.size
   have Y0:w.heap.size < W0.heap.size:=by subst hW0; simp <;> omega
   have F00:∀ g:Grown W0,g.w.cell? ⟨w.heap.size,0,none⟩ = some (.int .i64 a):=fun g=>(g.cell Y0).trans (by subst hW0; simp [go_sem])
   have H00:∀ g:Grown W0,g.w.frozen? ⟨w.heap.size,0,none⟩ = false:=fun g=>(g.frozen Y0).trans (by subst hW0; simp [go_sem])
   have F01:∀ g:Grown W0,g.w.cell? ⟨w.heap.size,1,none⟩ = some (.int .i64 b):=fun g=>(g.cell Y0).trans (by subst hW0; simp [go_sem])
   have H01:∀ g:Grown W0,g.w.frozen? ⟨w.heap.size,1,none⟩ = false:=fun g=>(g.frozen Y0).trans (by subst hW0; simp [go_sem])
   clear Y0
   clear hW0
   obtain ⟨g0,hg0⟩:∃ g:Grown W0,W0 = g.w:=⟨⟨W0,Below.refl _ _⟩,rfl⟩
   rw [hg0]
   clear hg0
   refine (r2ent_no a b _ h0'.out).mono ?_
   rintro e1 w1 ⟨rfl,hB1⟩
   obtain ⟨g1,rfl⟩:=grow g0 hB1
   clear hB1
   go_wp2_with (fail)
   refine (r2num_yes a _ h1'.out).mono ?_
   rintro e2 w2 ⟨rfl,rfl⟩
   go_wp2_with (fail)
   refine (r2num_no b _ h2'.out).mono ?_
   rintro e3 w3 ⟨rfl,rfl⟩
   go_wp2_with (fail)
   have hB:Below w.heap.size w g1.w:=below_then hT0 g1.h
   go_ret
   refine ⟨rfl,?_⟩
   go_grown
 ·have hr:r = false:=by rw [← h]; unfold VI; simp [h0,h1]
  subst hr
  have h1':=Lib.hid h1
  clear h h0 h1
  go_enter Tryz.func79,Tryz.ntmps79
  go_wp2_with (fail)
  generalize hW0:World.alloc w _ = W0
  have hT0:Below w.heap.size w W0:=by subst hW0; exact ((Below.refl w.heap.size w).alloc (by go_size) _)
  have S0:∀ g:Grown W0,w.heap.size < g.w.heap.size:=fun g=>Nat.lt_of_lt_of_le (by subst hW0; simp <;> omega) g.h.size
  have Y0:w.heap.size < W0.heap.size:=by subst hW0; simp <;> omega
  have F00:∀ g:Grown W0,g.w.cell? ⟨w.heap.size,0,none⟩ = some (.int .i64 a):=fun g=>(g.cell Y0).trans (by subst hW0; simp [go_sem])
  have H00:∀ g:Grown W0,g.w.frozen? ⟨w.heap.size,0,none⟩ = false:=fun g=>(g.frozen Y0).trans (by subst hW0; simp [go_sem])
  have F01:∀ g:Grown W0,g.w.cell? ⟨w.heap.size,1,none⟩ = some (.int .i64 b):=fun g=>(g.cell Y0).trans (by subst hW0; simp [go_sem])
  have H01:∀ g:Grown W0,g.w.frozen? ⟨w.heap.size,1,none⟩ = false:=fun g=>(g.frozen Y0).trans (by subst hW0; simp [go_sem])
  clear Y0
  clear hW0
  obtain ⟨g0,hg0⟩:∃ g:Grown W0,W0 = g.w:=⟨⟨W0,Below.refl _ _⟩,rfl⟩
  rw [hg0]
  clear hg0
  refine (r2ent_no a b _ h0'.out).mono ?_
  rintro e1 w1 ⟨rfl,hB1⟩
  obtain ⟨g1,rfl⟩:=grow g0 hB1
  clear hB1
  go_wp2_with (fail)
  refine (r2num_no a _ h1'.out).mono ?_
  rintro e2 w2 ⟨rfl,rfl⟩
  go_wp2_with (fail)
  have hB:Below w.heap.size w g1.w:=below_then hT0 g1.h
  go_ret
  refine ⟨rfl,?_⟩
  go_grown
set_option maxHeartbeats 1000000 in
theorem r2small (a b:Int) (w:World) (ha1:-9223372036854775808 ≤ a) (ha2:a ≤ 9223372036854775807) (hb1:-9223372036854775808 ≤ b) (hb2:b ≤ 9223372036854775807) :
  Calls Tryz.prog 81 #[.agg #[.int .i64 a,.int .i64 b]] w fun e w'=>e = .returned (.agg #[.int .i64 (min (a.tmod 16777216) (b.tmod 16777216)),.int .i64 (max (a.tmod 16777216) (b.tmod 16777216))])∧Below w.heap.size w w':=by
 obtain ⟨x,hx⟩:∃ x,a.tmod 16777216 = x:=⟨_,rfl⟩
 obtain ⟨y,hy⟩:∃ y,b.tmod 16777216 = y:=⟨_,rfl⟩
 have hx':=Lib.hid hx
 have hy':=Lib.hid hy
 rw [hx,hy]
 clear hx hy
 go_enter Tryz.func81,Tryz.ntmps81
 go_wp2_with (fail)
 generalize hW0:World.alloc (World.alloc w _) _ = W0
 have hT0:Below w.heap.size w W0:=by subst hW0; exact (((Below.refl w.heap.size w).alloc (by go_size) _).alloc (by go_size) _)
 have S0:∀ g:Grown W0,w.heap.size < g.w.heap.size:=fun g=>Nat.lt_of_lt_of_le (by subst hW0; simp <;> omega) g.h.size
 have Y0:w.heap.size < W0.heap.size:=by subst hW0; simp <;> omega
 have F00:∀ g:Grown W0,g.w.cell? ⟨w.heap.size,0,none⟩ = some (.int .i64 a):=fun g=>(g.cell Y0).trans (by subst hW0; simp [go_sem])
 have H00:∀ g:Grown W0,g.w.frozen? ⟨w.heap.size,0,none⟩ = false:=fun g=>(g.frozen Y0).trans (by subst hW0; simp [go_sem])
 have F01:∀ g:Grown W0,g.w.cell? ⟨w.heap.size,1,none⟩ = some (.int .i64 b):=fun g=>(g.cell Y0).trans (by subst hW0; simp [go_sem])
 have H01:∀ g:Grown W0,g.w.frozen? ⟨w.heap.size,1,none⟩ = false:=fun g=>(g.frozen Y0).trans (by subst hW0; simp [go_sem])
 clear Y0
 have S1:∀ g:Grown W0,w.heap.size+1 < g.w.heap.size:=fun g=>Nat.lt_of_lt_of_le (by subst hW0; simp <;> omega) g.h.size
 have Y1:w.heap.size+1 < W0.heap.size:=by subst hW0; simp <;> omega
 have F10:∀ g:Grown W0,g.w.cell? ⟨w.heap.size+1,0,none⟩ = some (.int .i64 0):=fun g=>(g.cell Y1).trans (by subst hW0; simp [go_sem])
 have H10:∀ g:Grown W0,g.w.frozen? ⟨w.heap.size+1,0,none⟩ = false:=fun g=>(g.frozen Y1).trans (by subst hW0; simp [go_sem])
 have F11:∀ g:Grown W0,g.w.cell? ⟨w.heap.size+1,1,none⟩ = some (.int .i64 0):=fun g=>(g.cell Y1).trans (by subst hW0; simp [go_sem])
 have H11:∀ g:Grown W0,g.w.frozen? ⟨w.heap.size+1,1,none⟩ = false:=fun g=>(g.frozen Y1).trans (by subst hW0; simp [go_sem])
 clear Y1
 clear hW0
 obtain ⟨g0,hg0⟩:∃ g:Grown W0,W0 = g.w:=⟨⟨W0,Below.refl _ _⟩,rfl⟩
 rw [hg0]
 clear hg0
 refine region_quiet' g0 (by kernel_rfl) (by kernel_rfl) ?_
 repeat (go_big_quiet_step (fail))
 refine wpQuiet_nil ?_
 rintro _ ⟨g1,rfl⟩
 rw [hx'.out,hy'.out]
 go_wp2_with (fail)
 have hB:Below w.heap.size w g1.w:=below_then hT0 g1.h
 refine bodyPost_ret (v:=.agg #[.int .i64 (min x y),.int .i64 (max x y)]) (by simp [results,Tryz.results81,go_sem,F10,F11]) rfl ⟨rfl,?_⟩
 go_grown
theorem small_vi (a b:Int):VI (min (a.tmod 16777216) (b.tmod 16777216)) (max (a.tmod 16777216) (b.tmod 16777216)):=by
 have h1:=Int.lt_tmod_of_pos a (show (0:Int) < 16777216 by decide)
 have h2:=Int.tmod_lt_of_pos a (show (0:Int) < 16777216 by decide)
 have h3:=Int.lt_tmod_of_pos b (show (0:Int) < 16777216 by decide)
 have h4:=Int.tmod_lt_of_pos b (show (0:Int) < 16777216 by decide)
 unfold VI Num
 right
 omega
set_option maxHeartbeats 1000000 in
theorem r2made_yes (a b:Int) (w:World) (hv:VI a b) :
  Calls Tryz.prog 35 #[.agg #[.int .i64 a,.int .i64 b]] w fun e w'=>e = .returned (.agg #[.int .i64 a,.int .i64 b])∧Below w.heap.size w w':=by
 have hv':=Lib.hid hv
 clear hv
 go_enter Tryz.func35,Tryz.ntmps35
 go_wp2_with (fail)
 generalize hW0:World.alloc (World.alloc w _) _ = W0
 have hT0:Below w.heap.size w W0:=by subst hW0; exact (((Below.refl w.heap.size w).alloc (by go_size) _).alloc (by go_size) _)
 have S0:∀ g:Grown W0,w.heap.size < g.w.heap.size:=fun g=>Nat.lt_of_lt_of_le (by subst hW0; simp <;> omega) g.h.size
 have Y0:w.heap.size < W0.heap.size:=by subst hW0; simp <;> omega
 have F00:∀ g:Grown W0,g.w.cell? ⟨w.heap.size,0,none⟩ = some (.int .i64 a):=fun g=>(g.cell Y0).trans (by subst hW0; simp [go_sem])
 have H00:∀ g:Grown W0,g.w.frozen? ⟨w.heap.size,0,none⟩ = false:=fun g=>(g.frozen Y0).trans (by subst hW0; simp [go_sem])
 have F01:∀ g:Grown W0,g.w.cell? ⟨w.heap.size,1,none⟩ = some (.int .i64 b):=fun g=>(g.cell Y0).trans (by subst hW0; simp [go_sem])
 have H01:∀ g:Grown W0,g.w.frozen? ⟨w.heap.size,1,none⟩ = false:=fun g=>(g.frozen Y0).trans (by subst hW0; simp [go_sem])
 clear Y0
 have S1:∀ g:Grown W0,w.heap.size+1 < g.w.heap.size:=fun g=>Nat.lt_of_lt_of_le (by subst hW0; simp <;> omega) g.h.size
 have Y1:w.heap.size+1 < W0.heap.size:=by subst hW0; simp <;> omega
 have F10:∀ g:Grown W0,g.w.cell? ⟨w.heap.size+1,0,none⟩ = some (.int .i64 0):=fun g=>(g.cell Y1).trans (by subst hW0; simp [go_sem])
 have H10:∀ g:Grown W0,g.w.frozen? ⟨w.heap.size+1,0,none⟩ = false:=fun g=>(g.frozen Y1).trans (by subst hW0; simp [go_sem])
 have F11:∀ g:Grown W0,g.w.cell? ⟨w.heap.size+1,1,none⟩ = some (.int .i64 0):=fun g=>(g.cell Y1).trans (by subst hW0; simp [go_sem])
 have H11:∀ g:Grown W0,g.w.frozen? ⟨w.heap.size+1,1,none⟩ = false:=fun g=>(g.frozen Y1).trans (by subst hW0; simp [go_sem])
 clear Y1
 clear hW0
 obtain ⟨g0,hg0⟩:∃ g:Grown W0,W0 = g.w:=⟨⟨W0,Below.refl _ _⟩,rfl⟩
 rw [hg0]
 clear hg0
 refine (r2valid a b true _ (by simp [hv'.out])).mono ?_
 rintro e1 w1 ⟨rfl,hB1⟩
 obtain ⟨g1,rfl⟩:=grow g0 hB1
 clear hB1
 go_wp2_with (fail)
 have hB:Below w.heap.size w g1.w:=below_then hT0 g1.h
 refine bodyPost_ret (v:=.agg #[.int .i64 a,.int .i64 b]) (by simp [results,Tryz.results35,go_sem,F10,F11]) rfl ⟨rfl,?_⟩
 go_grown
set_option maxHeartbeats 1000000 in
theorem r2made_ent (a b:Int) (w:World) (hv:¬ VI a b) (h:(bits BinOp.and IntKind.i64 a 31 == 7) = true) :
  Calls Tryz.prog 35 #[.agg #[.int .i64 a,.int .i64 b]] w fun e w'=>e = .returned (.agg #[.int .i64 (-2147483648),.int .i64 2147483648])∧Below w.heap.size w w':=by
 have hv':=Lib.hid hv
 clear hv
 go_enter Tryz.func35,Tryz.ntmps35
 go_wp2_with (fail)
 generalize hW0:World.alloc (World.alloc w _) _ = W0
 have hT0:Below w.heap.size w W0:=by subst hW0; exact (((Below.refl w.heap.size w).alloc (by go_size) _).alloc (by go_size) _)
 have S0:∀ g:Grown W0,w.heap.size < g.w.heap.size:=fun g=>Nat.lt_of_lt_of_le (by subst hW0; simp <;> omega) g.h.size
 have Y0:w.heap.size < W0.heap.size:=by subst hW0; simp <;> omega
 have F00:∀ g:Grown W0,g.w.cell? ⟨w.heap.size,0,none⟩ = some (.int .i64 a):=fun g=>(g.cell Y0).trans (by subst hW0; simp [go_sem])
 have H00:∀ g:Grown W0,g.w.frozen? ⟨w.heap.size,0,none⟩ = false:=fun g=>(g.frozen Y0).trans (by subst hW0; simp [go_sem])
 have F01:∀ g:Grown W0,g.w.cell? ⟨w.heap.size,1,none⟩ = some (.int .i64 b):=fun g=>(g.cell Y0).trans (by subst hW0; simp [go_sem])
 have H01:∀ g:Grown W0,g.w.frozen? ⟨w.heap.size,1,none⟩ = false:=fun g=>(g.frozen Y0).trans (by subst hW0; simp [go_sem])
 clear Y0
 have S1:∀ g:Grown W0,w.heap.size+1 < g.w.heap.size:=fun g=>Nat.lt_of_lt_of_le (by subst hW0; simp <;> omega) g.h.size
 have Y1:w.heap.size+1 < W0.heap.size:=by subst hW0; simp <;> omega
 have F10:∀ g:Grown W0,g.w.cell? ⟨w.heap.size+1,0,none⟩ = some (.int .i64 0):=fun g=>(g.cell Y1).trans (by subst hW0; simp [go_sem])
 have H10:∀ g:Grown W0,g.w.frozen? ⟨w.heap.size+1,0,none⟩ = false:=fun g=>(g.frozen Y1).trans (by subst hW0; simp [go_sem])
 have F11:∀ g:Grown W0,g.w.cell? ⟨w.heap.size+1,1,none⟩ = some (.int .i64 0):=fun g=>(g.cell Y1).trans (by subst hW0; simp [go_sem])
 have H11:∀ g:Grown W0,g.w.frozen? ⟨w.heap.size+1,1,none⟩ = false:=fun g=>(g.frozen Y1).trans (by subst hW0; simp [go_sem])
 clear Y1
 clear hW0
 obtain ⟨g0,hg0⟩:∃ g:Grown W0,W0 = g.w:=⟨⟨W0,Below.refl _ _⟩,rfl⟩
 rw [hg0]
 clear hg0
 refine (r2valid a b false _ (by simp [hv'.out])).mono ?_
 rintro e1 w1 ⟨rfl,hB1⟩
 obtain ⟨g1,rfl⟩:=grow g0 hB1
 clear hB1
 go_wp2_with (fail)
 refine (r2entire _).mono ?_
 rintro e2 w2 ⟨rfl,hB2⟩
 obtain ⟨g2,rfl⟩:=grow g1 hB2
 clear hB2
 go_wp2_with (fail)
 have hB:Below w.heap.size w g2.w:=below_then hT0 g2.h
 refine bodyPost_ret (v:=.agg #[.int .i64 (-2147483648),.int .i64 2147483648]) (by simp [results,Tryz.results35,go_sem,F10,F11]) rfl ⟨rfl,?_⟩
 go_grown
set_option maxHeartbeats 1000000 in
theorem r2made_no (a b:Int) (w:World) (hv:¬ VI a b) (ha1:-9223372036854775808 ≤ a) (ha2:a ≤ 9223372036854775807) (hb1:-9223372036854775808 ≤ b) (hb2:b ≤ 9223372036854775807) (h:(bits BinOp.and IntKind.i64 a 31 == 7) = false) :
  Calls Tryz.prog 35 #[.agg #[.int .i64 a,.int .i64 b]] w fun e w'=>e = .returned (.agg #[.int .i64 (min (a.tmod 16777216) (b.tmod 16777216)),.int .i64 (max (a.tmod 16777216) (b.tmod 16777216))])∧Below w.heap.size w w':=by
 have hv':=Lib.hid hv
 clear hv
 have c1:=fun w=>r2small a b w ha1 ha2 hb1 hb2
 generalize min (a.tmod 16777216) (b.tmod 16777216) = x at *
 generalize max (a.tmod 16777216) (b.tmod 16777216) = y at *
 go_enter Tryz.func35,Tryz.ntmps35
 go_wp2_with (fail)
 generalize hW0:World.alloc (World.alloc w _) _ = W0
 have hT0:Below w.heap.size w W0:=by subst hW0; exact (((Below.refl w.heap.size w).alloc (by go_size) _).alloc (by go_size) _)
 have S0:∀ g:Grown W0,w.heap.size < g.w.heap.size:=fun g=>Nat.lt_of_lt_of_le (by subst hW0; simp <;> omega) g.h.size
 have Y0:w.heap.size < W0.heap.size:=by subst hW0; simp <;> omega
 have F00:∀ g:Grown W0,g.w.cell? ⟨w.heap.size,0,none⟩ = some (.int .i64 a):=fun g=>(g.cell Y0).trans (by subst hW0; simp [go_sem])
 have H00:∀ g:Grown W0,g.w.frozen? ⟨w.heap.size,0,none⟩ = false:=fun g=>(g.frozen Y0).trans (by subst hW0; simp [go_sem])
 have F01:∀ g:Grown W0,g.w.cell? ⟨w.heap.size,1,none⟩ = some (.int .i64 b):=fun g=>(g.cell Y0).trans (by subst hW0; simp [go_sem])
 have H01:∀ g:Grown W0,g.w.frozen? ⟨w.heap.size,1,none⟩ = false:=fun g=>(g.frozen Y0).trans (by subst hW0; simp [go_sem])
 clear Y0
 have S1:∀ g:Grown W0,w.heap.size+1 < g.w.heap.size:=fun g=>Nat.lt_of_lt_of_le (by subst hW0; simp <;> omega) g.h.size
 have Y1:w.heap.size+1 < W0.heap.size:=by subst hW0; simp <;> omega
 have F10:∀ g:Grown W0,g.w.cell? ⟨w.heap.size+1,0,none⟩ = some (.int .i64 0):=fun g=>(g.cell Y1).trans (by subst hW0; simp [go_sem])
 have H10:∀ g:Grown W0,g.w.frozen? ⟨w.heap.size+1,0,none⟩ = false:=fun g=>(g.frozen Y1).trans (by subst hW0; simp [go_sem])
 have F11:∀ g:Grown W0,g.w.cell? ⟨w.heap.size+1,1,none⟩ = some (.int .i64 0):=fun g=>(g.cell Y1).trans (by subst hW0; simp [go_sem])
 have H11:∀ g:Grown W0,g.w.frozen? ⟨w.heap.size+1,1,none⟩ = false:=fun g=>(g.frozen Y1).trans (by subst hW0; simp [go_sem])
 clear Y1
 clear hW0
 obtain ⟨g0,hg0⟩:∃ g:Grown W0,W0 = g.w:=⟨⟨W0,Below.refl _ _⟩,rfl⟩
 rw [hg0]
 clear hg0
 refine (r2valid a b false _ (by simp [hv'.out])).mono ?_
 rintro e1 w1 ⟨rfl,hB1⟩
 obtain ⟨g1,rfl⟩:=grow g0 hB1
 clear hB1
 go_wp2_with (fail)
 refine (c1 _).mono ?_
 rintro e2 w2 ⟨rfl,hB2⟩
 obtain ⟨g2,rfl⟩:=grow g1 hB2
 clear hB2
 go_wp2_with (fail)
 have hB:Below w.heap.size w g2.w:=below_then hT0 g2.h
 refine bodyPost_ret (v:=.agg #[.int .i64 x,.int .i64 y]) (by simp [results,Tryz.results35,go_sem,F10,F11]) rfl ⟨rfl,?_⟩
 go_grown
theorem r2made (a b:Int) (ha1:-9223372036854775808 ≤ a) (ha2:a ≤ 9223372036854775807) (hb1:-9223372036854775808 ≤ b) (hb2:b ≤ 9223372036854775807) :
  ∃ p q,VI p q∧∀ w,Calls Tryz.prog 35 #[.agg #[.int .i64 a,.int .i64 b]] w fun e w'=>e = .returned (.agg #[.int .i64 p,.int .i64 q])∧Below w.heap.size w w':=by
 by_cases hv:VI a b
 ·exact ⟨a,b,hv,fun w=>r2made_yes a b w hv⟩
 ·cases h:(bits BinOp.and IntKind.i64 a 31 == 7) with
  | true=>exact ⟨_,_,.inl ⟨rfl,rfl⟩,fun w=>r2made_ent a b w hv h⟩
  | false=>exact ⟨_,_,small_vi a b,fun w=>r2made_no a b w hv ha1 ha2 hb1 hb2 h⟩
end Go.Proofs.YtdfdpghdjlgghaaGreat
namespace Go.Proofs.YtdfdpghdjlgghaaGreat
open Go.ChangeShapes Go.WideShapes Go.ChangeAt Go.RowKit
set_option linter.unusedVariables false
set_option linter.unusedSimpArgs false
set_option maxRecDepth 100000
attribute [local irreducible] Calls
theorem made_flow (vl:Value) (l:List Sr) (n:Nat) (w:World) (hl:Zx w vl l) (hx:∀ x ∈ l,SrW w x) (n1:1 ≤ n) (n6:n ≤ 6):Calls Tryz.prog 34 #[vl,.int .i64 n,.int .i64 8] w fun e w'=>∃ b c m o,e = .returned (.slice (some ⟨b,0,none⟩) (m+1) c)∧Fx w' (.slice (some ⟨b,0,none⟩) (m+1) c) o∧m+1 ≤ c∧o.length = m+1∧m ≤ 7∧FlG n o∧(∀ x ∈ o,subB x.F x.U = true∧subB x.E x.U = true)∧Below w.heap.size w w' :=
 (made14_ok vl l n w hl hx n1 n6).mono fun e w' ⟨p,c,o,he,hof,⟨t,hmd⟩,h1,h8,hB⟩=>by
 obtain ⟨m,hm⟩:∃ m,o.length = m+1:=⟨o.length - 1,by omega⟩
 have hrow:=hof.row
 obtain ⟨b,c',e9,-,-⟩:=ot_cut hrow (by omega)
 have hc:=own_cap hrow p o.length c rfl
 simp only [Value.slice.injEq] at e9
 obtain ⟨rfl,-,rfl⟩:=e9
 have hfx:=hof.fx (by omega) (fun x hx=>by have:=hmd.box x hx; omega)
 rw [hm] at he hfx hc
 exact ⟨b,c,m,o,he,hfx,hc,hm,by omega,hmd.flow n1 n6 h8,hmd.ins,hB⟩
theorem u8mod14 {n:Int} (h:0 ≤ n∧n ≤ 255):∃ k:Nat,1+n % 3 = (k:Int)∧1 ≤ k∧k ≤ 3:=⟨(1+n % 3).toNat,by omega,by omega,by omega⟩
end Go.Proofs.YtdfdpghdjlgghaaGreat
namespace Go.Proofs.YtdfdpghdjlgghaaGreat
open Go.ChangeShapes Go.WideShapes Go.ChangeAt Go.RowKit Go.Maps
set_option linter.unusedVariables false
set_option linter.unusedSimpArgs false
set_option maxRecDepth 100000
attribute [local irreducible] Calls
theorem hulL_snoc {l m:List (Int × Int)} {k:Nat} {x y:Int × Int} (hx:l[k]? = some x) (hy:m[k]? = some y):(hulL l m).take (k+1) = (hulL l m).take k ++ [hullI (x,y)]:=by
 have e:(l.zip m)[k]? = some (x,y):=List.getElem?_zip_eq_some.2 ⟨hx,hy⟩
 unfold hulL
 rw [List.take_add_one,List.getElem?_map,e]
 rfl
theorem hulL_len {l m:List (Int × Int)} (h:m.length = l.length):(hulL l m).length = l.length:=by
 unfold hulL
 rw [List.length_map,List.length_zip]
 omega
set_option maxHeartbeats 8000000 in
theorem r3hull14 (va vb:Value) (l m P:List (Int × Int)) (w:World) (ha:Vx w va l) (hb:Vx w vb m) (hlen:m.length = l.length) (h6:l.length ≤ 6) (hP:hulL l m = P) :
  Calls Tryz.prog 39 #[va,vb] w fun e w'=>∃ u,e = .returned u∧Vx w' u P∧Below w.heap.size w w':=by
 subst hP
 obtain ⟨i0,hi0,hz0,hz1,hz2⟩:=info_parts info_ivB
 obtain ⟨pa,ca,rfl⟩:=ha.cut
 obtain ⟨pb,cb,rfl⟩:=hb.cut
 rw [hlen] at hb ⊢
 have HA:=Lib.hid ha
 have HB:=Lib.hid hb
 have HL:=Lib.hid hlen
 have HR0:=Lib.hid (own_emptyB w)
 have HW:=Lib.hid (show Below w.heap.size w (w.alloc (.cells #[] 66)) from (Below.refl _ _).alloc (Nat.le_refl _) _)
 clear ha hb hlen
 go_enter Tryz.func39,Tryz.ntmps39
 go_wp2_with (fail)
 go_loopw [5,6] (fun v i wr=>∃ k:Nat,i = .int .i64 k∧k ≤ l.length∧Hid (wr.ownsRow w.heap.size 66 2 v k (cr encB ((hulL l m).take k)))∧Hid (Below w.heap.size w wr)) (fun v i _=>l.length - (intOf i).toNat)
 case atStart=>exact ⟨0,rfl,Nat.zero_le _,HR0,HW⟩
 case round =>
  clear HR0 HW
  obtain ⟨k,rfl,hk,HR,HT⟩:=hrel
  obtain ⟨pv,cv,rfl⟩:=own_slice HR.out
  by_cases hlt:k < l.length
  ·have i2:(k:Int) < l.length:=by omega
   obtain ⟨⟨a,b⟩,hx⟩:∃ x,l[k]? = some x:=⟨_,List.getElem?_eq_getElem hlt⟩
   obtain ⟨⟨c,d⟩,hy⟩:∃ x,m[k]? = some x:=⟨_,List.getElem?_eq_getElem (by rw [HL.out]; exact hlt)⟩
   have hsn:=hulL_snoc hx hy
   have hh:hullI ((a,b),(c,d)) = (min a c,max b d):=rfl
   rw [hh] at hsn
   have KC:=Lib.hid (fun w=>r2hull a b c d w)
   obtain ⟨s1,es1⟩:∃ s,min a c = s:=⟨_,rfl⟩
   obtain ⟨s2,es2⟩:∃ s,max b d = s:=⟨_,rfl⟩
   rw [es1,es2] at hsn KC
   have HSN:=Lib.hid hsn
   obtain ⟨ba,oa,hpa,hba,rda⟩:=vx_rd HA.out hx
   obtain ⟨bb,ob,hpb,hbb,rdb⟩:=vx_rd HB.out hy
   subst hpa hpb
   have f0:=fun g:Grown wr=>(rda ⟨g.w,HT.out.trans (g.h.mono HT.out.size)⟩).1
   have f1:=fun g:Grown wr=>(rda ⟨g.w,HT.out.trans (g.h.mono HT.out.size)⟩).2
   have g0:=fun g:Grown wr=>(rdb ⟨g.w,HT.out.trans (g.h.mono HT.out.size)⟩).1
   have g1:=fun g:Grown wr=>(rdb ⟨g.w,HT.out.trans (g.h.mono HT.out.size)⟩).2
   clear rda rdb hx hy hba hbb hsn hh es1 es2
   go_wp2_with (fail)
   refine region_pred_n 11 (lk [(14,fun z_ _=>z_ = .slice pv k cv),(15,fun z_ _=>z_ = .slice (some ⟨ba,oa,none⟩) l.length ca),(16,fun z_ _=>z_ = .int .i64 (k:Int)),(17,fun z_ _=>z_ = .pointer (some ⟨ba,oa+k * 2,none⟩)),(18,fun z_ _=>z_ = .agg #[.int .i64 a,.int .i64 b]),(19,fun z_ _=>z_ = .slice (some ⟨bb,ob,none⟩) l.length cb),(20,fun z_ _=>z_ = .int .i64 (k:Int)),(21,fun z_ _=>z_ = .pointer (some ⟨bb,ob+k * 2,none⟩)),(22,fun z_ _=>z_ = .agg #[.int .i64 c,.int .i64 d]),(23,fun z_ _=>z_ = .agg #[.int .i64 s1,.int .i64 s2]),(24,fun z_ w'=>∃ X_,z_ = .slice (some ⟨X_,0,none⟩) 1 1∧wr.heap.size ≤ X_∧w'.heap[X_]? = some (.cells #[.int .i64 s1,.int .i64 s2] 66 (0,0)))]) (by kernel_rfl) (by kernel_rfl) (lk_steady _ ⟨steady_eq _,steady_eq _,steady_eq _,steady_eq _,steady_eq _,steady_eq _,steady_eq _,steady_eq _,steady_eq _,steady_eq _,fun u w1 w2 hb ⟨X,e,h1,h2⟩=>⟨X,e,h1,(hb.block X (Array.getElem?_eq_some_iff.1 h2).1).trans h2⟩,trivial⟩) ?_ ?_
   ·refine ⟨?_,?_,?_,?_,?_,?_,?_,?_,?_,?_,?_,trivial⟩
    ·refine ob_plain [5] rfl rfl fun aa g h=>?_
     have yy0:=seen_out (v:=.slice pv k cv) rfl rfl h.1
     exact tvS (by simp [go_sem,yy0]) rfl
    ·refine ob_plain [0] rfl rfl fun aa g h=>?_
     have yy0:=seen_out (v:=.slice (some ⟨ba,oa,none⟩) l.length ca) rfl rfl h.1
     exact tvS (by simp [go_sem,yy0]) rfl
    ·refine ob_plain [6] rfl rfl fun aa g h=>?_
     have yy0:=seen_out (v:=.int .i64 (k:Int)) rfl rfl h.1
     exact tvS (by simp [go_sem,yy0]) rfl
    ·refine ob_plain [15,16] rfl rfl fun aa g h=>?_
     obtain ⟨_,yy0,rfl⟩:=seen_in rfl h.1
     obtain ⟨_,yy1,rfl⟩:=seen_in rfl h.2.1
     exact tvS (by simp [go_sem,yy0,yy1,i2]) rfl
    ·refine ob_plain [17] rfl rfl fun aa g h=>?_
     obtain ⟨_,yy0,rfl⟩:=seen_in rfl h.1
     exact tvS (by simp [go_sem,yy0,f0 g,f1 g]) rfl
    ·refine ob_plain [1] rfl rfl fun aa g h=>?_
     have yy0:=seen_out (v:=.slice (some ⟨bb,ob,none⟩) l.length cb) rfl rfl h.1
     exact tvS (by simp [go_sem,yy0]) rfl
    ·refine ob_plain [6] rfl rfl fun aa g h=>?_
     have yy0:=seen_out (v:=.int .i64 (k:Int)) rfl rfl h.1
     exact tvS (by simp [go_sem,yy0]) rfl
    ·refine ob_plain [19,20] rfl rfl fun aa g h=>?_
     obtain ⟨_,yy0,rfl⟩:=seen_in rfl h.1
     obtain ⟨_,yy1,rfl⟩:=seen_in rfl h.2.1
     exact tvS (by simp [go_sem,yy0,yy1,i2]) rfl
    ·refine ob_plain [21] rfl rfl fun aa g h=>?_
     obtain ⟨_,yy0,rfl⟩:=seen_in rfl h.1
     exact tvS (by simp [go_sem,yy0,g0 g,g1 g]) rfl
    ·refine ob_plain [18,22] rfl rfl fun aa g h=>?_
     obtain ⟨_,yy0,rfl⟩:=seen_in rfl h.1
     obtain ⟨_,yy1,rfl⟩:=seen_in rfl h.2.1
     refine tupon_enter (f:=36) (args:=#[.agg #[.int .i64 a,.int .i64 b],.agg #[.int .i64 c,.int .i64 d]]) (by simp [go_sem,yy0,yy1]) rfl ?_
     exact (KC.out g.w).mono fun e w' ⟨he,hB⟩=>⟨_,he,hB,rfl⟩
    ·refine ob_plain [23] rfl rfl fun aa g h=>?_
     obtain ⟨_,yy0,rfl⟩:=seen_in rfl h.1
     exact tupon_value (v:=.slice (some ⟨g.w.heap.size,0,none⟩) 1 1) (w1:=g.w.alloc (.cells #[.int .i64 s1,.int .i64 s2] 66)) (by simp [go_sem,yy0]) ((Below.refl _ _).alloc (Nat.le_refl _) _) ⟨_,rfl,g.h.size,World.alloc_heap_new _ _⟩
   rintro w9 hB9 _ rfl _ rfl _ rfl _ rfl _ rfl _ rfl _ rfl _ rfl _ rfl _ rfl _ ⟨X24,rfl,hX24,hI24⟩
   simp only [Act.put,List.setIfInBounds_toArray,List.set_cons_succ,List.set_cons_zero,finP,List.drop_succ_cons,List.drop_zero,List.take_zero,List.filterMap_nil]
   have HR9:=Lib.hid (own_keptN HR.out hB9)
   have HB9:=Lib.hid (HT.out.trans (hB9.mono HT.out.size))
   have HNB:=Lib.hid (two_at (s1,s2) hI24)
   have hs9:w.heap.size ≤ w9.heap.size:=HB9.out.size
   clear hB9 hI24 hX24 f0 f1 g0 g1 KC HR HT
   go_wp2_with (at_builtin; refine wpList_append_own _ rfl (.tmp 14) (.tmp 24) 23 rfl (w.heap.size) 66 i0 (.agg #[.int .i64 0,.int .i64 0]) 2 16 Tryz.underlying23 hi0 hz0 hz1 hz2 rfl (by decide) (.slice pv k cv) k _ rfl HR9.out ⟨X24,0,none⟩ 1 1 (encB (s1,s2)) rfl rfl HNB.out (one_b _) (by unfold maxLen; omega) (by omega) hs9 ?_)
   intro v' w8 hown' hgrow _
   have HB8:=Lib.hid (Below.grown HB9.out hgrow hs9 (fun i hi=>(HR9.out.lt i hi).1))
   have HR8:=Lib.hid hown'
   clear hown' hgrow HB9 HR9 HNB hs9
   go_wp2_with (fail)
   go_roundw
   case rel=>exact ⟨k+1,by go_num,by omega,Lib.hid (by rw [HSN.out,cr_snoc]; exact HR8.out),HB8⟩
   case measure=>simp [intOf]; omega
  ·obtain rfl:k = l.length:=by omega
   have i2:¬ (l.length:Int) < l.length:=by omega
   go_wp2_with (fail)
   go_ret
   refine ⟨_,rfl,?_,HT.out⟩
   have hl:(hulL l m).length = l.length:=hulL_len HL.out
   have h:=HR.out
   rw [List.take_of_length_le (by omega)] at h
   have h2:=Rx.own encB_len (l:=hulL l m) (v:=.slice pv l.length cv) (by rw [hl]; exact h) (by rw [hl]; unfold maxLen; omega)
   exact h2
end Go.Proofs.YtdfdpghdjlgghaaGreat
namespace Go.Proofs.YtdfdpghdjlgghaaGreat
open Go.ChangeShapes Go.WideShapes Go.ChangeAt Go.RowKit
set_option linter.unusedVariables false
set_option linter.unusedSimpArgs false
set_option maxRecDepth 100000
open Go.BigFrame
attribute [local go_sem ↓] run_max_two run_min_two run_max_three
set_option maxHeartbeats 1000000 in
theorem r2meet_no (a b c d:Int) (w:World) (h:min b d < max a c) :
  Calls Tryz.prog 38 #[.agg #[.int .i64 a,.int .i64 b],.agg #[.int .i64 c,.int .i64 d]] w fun e w'=>e = .returned (.tuple #[.agg #[.int .i64 0,.int .i64 0],.bool false])∧Below w.heap.size w w':=by
 go_enter Tryz.func38,Tryz.ntmps38
 go_wp2_with (fail)
 refine bodyPost_ret (v:=.tuple #[.agg #[.int .i64 0,.int .i64 0],.bool false]) (by simp [results,Tryz.results38,go_sem]) rfl ⟨rfl,?_⟩
 go_grown
set_option maxHeartbeats 1000000 in
theorem r2meet_yes (a b c d:Int) (w:World) (h:max a c ≤ min b d) :
  Calls Tryz.prog 38 #[.agg #[.int .i64 a,.int .i64 b],.agg #[.int .i64 c,.int .i64 d]] w fun e w'=>e = .returned (.tuple #[.agg #[.int .i64 (max a c),.int .i64 (min b d)],.bool true])∧Below w.heap.size w w':=by
 have h':decide (min b d < max a c) = false:=decide_eq_false (by omega)
 go_enter Tryz.func38,Tryz.ntmps38
 go_wp2_with (fail)
 refine bodyPost_ret (v:=.tuple #[.agg #[.int .i64 (max a c),.int .i64 (min b d)],.bool true]) (by simp [results,Tryz.results38,go_sem]) rfl ⟨rfl,?_⟩
 go_grown
end Go.Proofs.YtdfdpghdjlgghaaGreat
namespace Go.Proofs.YtdfdpghdjlgghaaGreat
open Go.ChangeShapes Go.WideShapes Go.ChangeAt Go.RowKit
set_option linter.unusedVariables false
set_option linter.unusedSimpArgs false
set_option maxRecDepth 100000
attribute [local irreducible] Calls
theorem has64d {x:Int} (h:IntKind.has .i64 x):-9223372036854775808 ≤ x∧x ≤ 9223372036854775807:=by
 have e1:IntKind.i64.min = -9223372036854775808:=by rfl
 have e2:IntKind.i64.max = 9223372036854775807:=by rfl
 simpa only [IntKind.has,e1,e2] using h
theorem vx_nil14 (W:World):Vx W (.slice none 0 0) []:=⟨by unfold maxLen; simp,none,0,rfl,fun i x h=>by simp at h⟩
theorem DuH.vx {W:World} {v:Value} {o:Option (List (Int × Int))} (h:DuH W v o):Vx W v (o.getD []):=by
 cases o with
 | none =>
  have e:v = .slice none 0 0:=h
  subst e
  exact vx_nil14 W
 | some K=>exact h
theorem AtV.vx {B:Nat} {W:World} {v:Value} {o:Option (List (Int × Int))} (h:AtV B W o v) (hl:∀ K,o = some K→K.length ≤ 1000):Vx W v (o.getD []):=by
 cases o with
 | none =>
  have e:v = .slice none 0 0:=h
  subst e
  exact vx_nil14 W
 | some K =>
  obtain ⟨q,d,rfl,hk⟩:=h
  exact hk.vx (hl K rfl)
theorem dur_math {n:Nat} {l:List Sr} {a b c d t:Int} {O1 O2 O3 O4:Option (List (Int × Int))} (hF:FlG n l) (h1:HulF n l a b O1) (h2:HulF n l c d O2) (h3:HulF n l (min a c) (max b d) O3) (h4:∀ B,O4 = some B→B.length = n∧∃ x ∈ l,x.t ≤ t∧t ≤ x.t+x.h∧subB B x.U = true) (cn:Bool) (hc:cn = true→(a = -2147483648∧b = 2147483648) ∨ a ≤ t∧t ≤ b) (mt:Bool) (hm:mt = true→max a c ≤ min b d) :
  (O1.isSome = true→(O3.getD []).length = (O1.getD []).length∧(((O1.getD []).zip (O3.getD [])).all sub1) = true)∧(O2.isSome = true→(O3.getD []).length = (O2.getD []).length∧(((O2.getD []).zip (O3.getD [])).all sub1) = true)∧(O4.isSome = true→cn = true→(O1.getD []).length = (O4.getD []).length∧(((O4.getD []).zip (O1.getD [])).all sub1) = true)∧(mt = true→O1.isSome = true→O2.isSome = true→(O2.getD []).length = (O1.getD []).length∧(O1.getD []).length ≤ 6∧O3.getD [] = hulL (O1.getD []) (O2.getD [])) ∧
  (O1.isSome = false ∨ O1.isSome = true∧O3.isSome = true)∧(O2.isSome = false ∨ O2.isSome = true∧O3.isSome = true)∧(O4.isSome = false ∨ (O4.isSome = true∧cn = false) ∨ O4.isSome = true∧cn = true∧O1.isSome = true):=by
 have m1:∀ A,O1 = some A→∃ B,O3 = some B∧B.length = A.length∧subB A B = true:=fun A e=>h1.mono h3 (by omega) (by omega) e
 have m2:∀ A,O2 = some A→∃ B,O3 = some B∧B.length = A.length∧subB A B = true:=fun A e=>h2.mono h3 (by omega) (by omega) e
 have m4:∀ A,O4 = some A→cn = true→∃ B,O1 = some B∧B.length = A.length∧subB A B = true:=fun A e ec=>by
  obtain ⟨q1,x,hx,q2,q3,q4⟩:=h4 A e
  have ht:=hF.tm x hx
  refine h1.at (t:=t) hF q1 ⟨x,hx,q2,q3,q4⟩ ?_ ?_ <;> rcases hc ec with ⟨e1,e2⟩ | ⟨e1,e2⟩ <;> omega
 refine ⟨fun h=>?_,fun h=>?_,fun h hcn=>?_,fun hmt i1 i2=>?_,?_,?_,?_⟩
 ·obtain ⟨A,rfl⟩:=Option.isSome_iff_exists.1 h
  obtain ⟨B,rfl,e1,e2⟩:=m1 A rfl
  exact ⟨e1,e2⟩
 ·obtain ⟨A,rfl⟩:=Option.isSome_iff_exists.1 h
  obtain ⟨B,rfl,e1,e2⟩:=m2 A rfl
  exact ⟨e1,e2⟩
 ·obtain ⟨A,rfl⟩:=Option.isSome_iff_exists.1 h
  obtain ⟨B,rfl,e1,e2⟩:=m4 A rfl hcn
  exact ⟨e1,e2⟩
 ·obtain ⟨A,rfl⟩:=Option.isSome_iff_exists.1 i1
  obtain ⟨B,rfl⟩:=Option.isSome_iff_exists.1 i2
  obtain ⟨S,rfl,e1,e2⟩:=m1 A rfl
  have:=hF.n6
  exact ⟨by show B.length = A.length; rw [h1.1,h2.1],by show A.length ≤ 6; rw [h1.1]; omega,HulF.union h1 h2 h3 hF (hm hmt)⟩
 ·cases O1 with
  | none=>exact .inl rfl
  | some A=>obtain ⟨B,rfl,-⟩:=m1 A rfl; exact .inr ⟨rfl,rfl⟩
 ·cases O2 with
  | none=>exact .inl rfl
  | some A=>obtain ⟨B,rfl,-⟩:=m2 A rfl; exact .inr ⟨rfl,rfl⟩
 ·cases O4 with
  | none=>exact .inl rfl
  | some A=>cases cn with
   | false=>exact .inr (.inl ⟨rfl,rfl⟩)
   | true=>obtain ⟨B,rfl,-⟩:=m4 A rfl rfl; exact .inr (.inr ⟨rfl,rfl,rfl⟩)
def isB14 (b:Bool):Value→Bool
 | .bool c=>c == b
 | _=>false
theorem ne14 {v x:Value} {b:Bool} (h:v = x) (hx:isB14 b x = false):v ≠ .bool b:=by
 subst h
 intro e
 subst e
 simp [isB14] at hx
theorem meet14 (a b c d:Int):∃ p q mt,(mt = true→max a c ≤ min b d)∧∀ w,Calls Tryz.prog 38 #[.agg #[.int .i64 a,.int .i64 b],.agg #[.int .i64 c,.int .i64 d]] w fun e w'=>e = .returned (.tuple #[.agg #[.int .i64 p,.int .i64 q],.bool mt])∧Below w.heap.size w w':=by
 by_cases h:max a c ≤ min b d
 ·exact ⟨_,_,true,(fun _=>h),fun w=>r2meet_yes a b c d w h⟩
 ·exact ⟨_,_,false,(fun e=>by cases e),fun w=>r2meet_no a b c d w (by omega)⟩
set_option maxHeartbeats 64000000 in
theorem fldur (w:World) (a0L:Value) (a0n a0t a0p a0q a0i:Int) (a0l:List Sr) (h0L:Zx w a0L a0l∧∀ x ∈ a0l,SrW w x) (h0n:0 ≤ a0n∧a0n ≤ 255) (h0t:W64 a0t) (h0p:W64 a0p) (h0q:W64 a0q) (h0i:W64 a0i) (a1_0 a1_1:Int) (w1:∀ x ∈ [a1_0,a1_1],IntKind.has .i64 x) :
  Calls Tryz.prog 10 #[.agg #[a0L,.int .u8 a0n,.int .i64 a0t,.int .i64 a0p,.int .i64 a0q,.int .i64 a0i],.agg #[.int .i64 a1_0,.int .i64 a1_1]] w fun e w'=>e = .returned (.bool true)∧Below w.heap.size w w':=by
 obtain ⟨pL,cL,rfl⟩:=h0L.1.cut
 have HQ:=Lib.hid h0L
 obtain ⟨n,hn,n1,n3⟩:=u8mod14 h0n
 have hn0:=h0n.1
 have hn255:=h0n.2
 have y0:=has64d (w1 a1_0 (by simp))
 have y1:=has64d (w1 a1_1 (by simp))
 obtain ⟨a,b,-,KA⟩:=r2made a0p a0q h0p.1 h0p.2 h0q.1 h0q.2
 obtain ⟨c,d,-,KC⟩:=r2made a1_0 a1_1 y0.1 y0.2 y1.1 y1.2
 obtain ⟨mp,mq,mt,hmt,KM9⟩:=meet14 a b c d
 have KA:=Lib.hid KA
 have KC:=Lib.hid KC
 have KMT:=Lib.hid KM9
 have HMT:=Lib.hid hmt
 have KH:=Lib.hid (fun w=>r2hull a b c d w)
 have KCN:=Lib.hid (fun cn h w=>r2contains a b a0t cn w h)
 obtain ⟨s1,es1⟩:∃ s,min a c = s:=⟨_,rfl⟩
 obtain ⟨s2,es2⟩:∃ s,max b d = s:=⟨_,rfl⟩
 rw [es1,es2] at KH
 have ES:=Lib.hid (And.intro es1 es2)
 have hE:Below w.heap.size w ((w.alloc (.cells #[.slice pL a0l.length cL,.int .u8 a0n,.int .i64 a0t,.int .i64 a0p,.int .i64 a0q,.int .i64 a0i] 81)).alloc (.cells #[.int .i64 a1_0,.int .i64 a1_1] 66)):=allocs_below [.cells #[.slice pL a0l.length cL,.int .u8 a0n,.int .i64 a0t,.int .i64 a0p,.int .i64 a0q,.int .i64 a0i] 81,.cells #[.int .i64 a1_0,.int .i64 a1_1] 66] w
 have HA:=Lib.hid (show Blk ((w.alloc (.cells #[.slice pL a0l.length cL,.int .u8 a0n,.int .i64 a0t,.int .i64 a0p,.int .i64 a0q,.int .i64 a0i] 81)).alloc (.cells #[.int .i64 a1_0,.int .i64 a1_1] 66)) w.heap.size (.cells #[.slice pL a0l.length cL,.int .u8 a0n,.int .i64 a0t,.int .i64 a0p,.int .i64 a0q,.int .i64 a0i] 81) from allocs_at [.cells #[.slice pL a0l.length cL,.int .u8 a0n,.int .i64 a0t,.int .i64 a0p,.int .i64 a0q,.int .i64 a0i] 81,.cells #[.int .i64 a1_0,.int .i64 a1_1] 66] w 0 _ rfl)
 have HU:=Lib.hid (show Blk ((w.alloc (.cells #[.slice pL a0l.length cL,.int .u8 a0n,.int .i64 a0t,.int .i64 a0p,.int .i64 a0q,.int .i64 a0i] 81)).alloc (.cells #[.int .i64 a1_0,.int .i64 a1_1] 66)) (w.heap.size+1) (.cells #[.int .i64 a1_0,.int .i64 a1_1] 66) from allocs_at [.cells #[.slice pL a0l.length cL,.int .u8 a0n,.int .i64 a0t,.int .i64 a0p,.int .i64 a0q,.int .i64 a0i] 81,.cells #[.int .i64 a1_0,.int .i64 a1_1] 66] w 1 _ rfl)
 have HW:=Lib.hid hE
 clear hE h0L h0t h0p h0q h0i h0n w1 y0 y1 hmt KM9 es1 es2
 go_enter Tryz.func10,Tryz.ntmps10
 go_wp2_with (fail)
 refine (sanity14 _).mono ?_
 rintro e w2 ⟨rfl,hB2⟩
 have HA:=Lib.hid (HA.out.grow hB2)
 have HU:=Lib.hid (HU.out.grow hB2)
 have HW:=Lib.hid (below_then HW.out hB2)
 have KM:=Lib.hid (made_flow (.slice pL a0l.length cL) a0l n w2 (HQ.out.1.grow HW.out) (fun x hx=>⟨(HQ.out.2 x hx).1.grow HW.out,(HQ.out.2 x hx).2⟩) n1 (by omega))
 have a0:=heapN_cellj HA.out (k:=0) rfl
 have a1:=heapN_cellj HA.out (k:=1) rfl
 clear hB2 HQ
 go_wp2_with (fail)
 refine KM.out.mono ?_
 rintro e w3 ⟨bl,cl,m,o,rfl,hfx,hcap,hol,hm7,hfl,hin,hB⟩
 have HF:=Lib.hid hfx
 have HFL:=Lib.hid hfl
 have HOL:=Lib.hid hol
 have HCAP:=Lib.hid hcap
 have HIN:=Lib.hid hin
 have HA:=Lib.hid (HA.out.grow hB)
 have HU:=Lib.hid (HU.out.grow hB)
 have HW:=Lib.hid (below_then HW.out hB)
 clear hfx hfl hcap hin hB a0 a1 KM hn hol n1 n3 hn0 hn255
 go_wp2_with (fail)
 have a0:=fun g:Grown w3=>heapN_cellj (HA.out.grow g.h) (k:=0) rfl
 have a1:=fun g:Grown w3=>heapN_cellj (HA.out.grow g.h) (k:=1) rfl
 have a2:=fun g:Grown w3=>heapN_cellj (HA.out.grow g.h) (k:=2) rfl
 have a3:=fun g:Grown w3=>heapN_cellj (HA.out.grow g.h) (k:=3) rfl
 have a4:=fun g:Grown w3=>heapN_cellj (HA.out.grow g.h) (k:=4) rfl
 have a5:=fun g:Grown w3=>heapN_cellj (HA.out.grow g.h) (k:=5) rfl
 have u0:=fun g:Grown w3=>heapN_cellj (HU.out.grow g.h) (k:=0) rfl
 have u1:=fun g:Grown w3=>heapN_cellj (HU.out.grow g.h) (k:=1) rfl
 refine region_pred_g (fun σ_=>lk [(28,fun z_ _=>z_ = .pointer (some ⟨w.heap.size,3,none⟩)),(29,fun z_ _=>z_ = .agg #[.int .i64 a0p,.int .i64 a0q]),(30,fun z_ _=>z_ = .agg #[.int .i64 a,.int .i64 b]),(31,fun z_ _=>z_ = .agg #[.int .i64 a1_0,.int .i64 a1_1]),(32,fun z_ _=>z_ = .agg #[.int .i64 c,.int .i64 d]),(7,fun z_ w'=>∃ X_,z_ = .pointer (some ⟨X_,0,none⟩)∧w3.heap.size ≤ X_∧w'.heap[X_]? = some (.cells (if σ_ 7 = true then #[.int .i64 a,.int .i64 b] else #[(.int .i64 0),(.int .i64 0)]) 66 (0,0))),(8,fun z_ w'=>∃ X_,z_ = .pointer (some ⟨X_,0,none⟩)∧w3.heap.size ≤ X_∧w'.heap[X_]? = some (.cells (if σ_ 8 = true then #[.int .i64 c,.int .i64 d] else #[(.int .i64 0),(.int .i64 0)]) 66 (0,0)))]) (kk [(7,ptrK),(8,ptrK)]) [(7,7),(8,8)] [] (by kernel_rfl) (by kernel_rfl) ?_ (fun σ_=>lk_steady _ ⟨steady_eq _,steady_eq _,steady_eq _,steady_eq _,steady_eq _,fun u w1 w2 hb ⟨X,e,h1,h2⟩=>⟨X,e,h1,(hb.block X (Array.getElem?_eq_some_iff.1 h2).1).trans h2⟩,fun u w1 w2 hb ⟨X,e,h1,h2⟩=>⟨X,e,h1,(hb.block X (Array.getElem?_eq_some_iff.1 h2).1).trans h2⟩,trivial⟩) ?_ ?_ ?_ ?_
 ·intro x hx
  cases hx
 ·intro σ_ t v w b h hb
  refine kk_lt (fun x hx e hl hb=>?_) h hb
  simp only [List.mem_cons,List.not_mem_nil,or_false] at hx
  rcases hx with rfl | rfl
  ·subst e
   obtain ⟨X,rfl,hX,hI⟩:=hl
   obtain rfl:X = b:=Option.some.inj hb
   exact (Array.getElem?_eq_some_iff.1 hI).1
  ·subst e
   obtain ⟨X,rfl,hX,hI⟩:=hl
   obtain rfl:X = b:=Option.some.inj hb
   exact (Array.getElem?_eq_some_iff.1 hI).1
 ·refine ⟨?_,?_,?_,?_,?_,?_,?_,?_,?_,trivial⟩
  ·intro _ σ_ hσ
   refine oblg_of (ob_plain [2] rfl rfl fun aa g h=>?_) (fun d v hd=>by cases hd; rfl)
   have yy0:=seen_out (v:=.pointer (some ⟨w.heap.size,0,none⟩)) rfl rfl h.1
   exact tvS (by simp [go_sem,yy0]) rfl
  ·intro _ σ_ hσ
   refine oblg_of (ob_plain [28] rfl rfl fun aa g h=>?_) (fun d v hd=>by cases hd; rfl)
   obtain ⟨_,yy0,rfl⟩:=seen_in rfl h.1
   exact tvS (by simp [go_sem,yy0,a3 g,a4 g]) rfl
  ·intro _ σ_ hσ
   refine oblg_of (ob_plain [29] rfl rfl fun aa g h=>?_) (fun d v hd=>by cases hd; rfl)
   obtain ⟨_,yy0,rfl⟩:=seen_in rfl h.1
   refine tupon_enter (f:=35) (args:=#[.agg #[.int .i64 a0p,.int .i64 a0q]]) (by simp [go_sem,yy0]) rfl ?_
   exact (KA.out g.w).mono fun e w' ⟨he,hB⟩=>⟨_,he,hB,rfl⟩
  ·intro _ σ_ hσ
   refine oblg_of (ob_plain [3] rfl rfl fun aa g h=>?_) (fun d v hd=>by cases hd; rfl)
   have yy0:=seen_out (v:=.pointer (some ⟨w.heap.size+1,0,none⟩)) rfl rfl h.1
   exact tvS (by simp [go_sem,yy0,u0 g,u1 g]) rfl
  ·intro _ σ_ hσ
   refine oblg_of (ob_plain [31] rfl rfl fun aa g h=>?_) (fun d v hd=>by cases hd; rfl)
   obtain ⟨_,yy0,rfl⟩:=seen_in rfl h.1
   refine tupon_enter (f:=35) (args:=#[.agg #[.int .i64 a1_0,.int .i64 a1_1]]) (by simp [go_sem,yy0]) rfl ?_
   exact (KC.out g.w).mono fun e w' ⟨he,hB⟩=>⟨_,he,hB,rfl⟩
  ·intro _ σ_ hσ
   have hsx:σ_ 7 = false:=by
    cases e:σ_ 7 with
    | false=>rfl
    | true=>exact absurd (hσ 7 _ e rfl) (by first | decide | decide +kernel)
   refine oblg_plain [] rfl rfl fun aa g h=>?_
   exact tupon_value (v:=.pointer (some ⟨g.w.heap.size,0,none⟩)) (w1:=g.w.alloc (.cells #[(.int .i64 0),(.int .i64 0)] 66)) (by simp [go_sem]) ((Below.refl _ _).alloc (Nat.le_refl _) _) ⟨⟨_,rfl,g.h.size,by rw [if_neg (by rw [hsx]; exact Bool.false_ne_true)]; exact World.alloc_heap_new _ _⟩,fun d b hd hb=>by cases hd; obtain rfl:=Option.some.inj hb; exact Nat.le_refl _⟩
  ·intro _ σ_ hσ
   have hsx:σ_ 8 = false:=by
    cases e:σ_ 8 with
    | false=>rfl
    | true=>exact absurd (hσ 8 _ e rfl) (by first | decide | decide +kernel)
   refine oblg_plain [] rfl rfl fun aa g h=>?_
   exact tupon_value (v:=.pointer (some ⟨g.w.heap.size,0,none⟩)) (w1:=g.w.alloc (.cells #[(.int .i64 0),(.int .i64 0)] 66)) (by simp [go_sem]) ((Below.refl _ _).alloc (Nat.le_refl _) _) ⟨⟨_,rfl,g.h.size,by rw [if_neg (by rw [hsx]; exact Bool.false_ne_true)]; exact World.alloc_heap_new _ _⟩,fun d b hd hb=>by cases hd; obtain rfl:=Option.some.inj hb; exact Nat.le_refl _⟩
  ·exact fun h=>absurd h (by decide)
  ·exact fun h=>absurd h (by decide)
 ·intro i p os hm hos
  simp only [List.mem_cons,List.not_mem_nil,or_false,Prod.mk.injEq] at hm
  rcases hm with ⟨rfl,rfl⟩ | ⟨rfl,rfl⟩
  ·obtain rfl:=Option.some.inj hos
   intro σ_ aa gg hσ h
   obtain ⟨_,r0,X,rfl,hX,hI⟩:=seen_in rfl h.1
   have e0:=getD_of r0
   obtain ⟨_,r1,rfl⟩:=seen_in rfl h.2.1
   have e1:=getD_of r1
   rw [if_neg (by rw [hσ]; exact Bool.false_ne_true)] at hI
   have q0:=heapN_cellj hI (k:=0) rfl
   have z0:gg.w.frozen? ⟨X,0,none⟩ = false:=by simp [World.frozen?,hI]
   have q1:=heapN_cellj hI (k:=1) rfl
   have z1:gg.w.frozen? ⟨X,1,none⟩ = false:=by simp [World.frozen?,hI]
   refine ⟨((gg.w.setCell ⟨X,0,none⟩ (.int .i64 a)).setCell ⟨X,1,none⟩ (.int .i64 b)),by simp [go_sem,e0,r0,e1,r1,q0,z0,q1,z1],((gg.h.setCell (p:=⟨X,0,none⟩) hX _).setCell (p:=⟨X,1,none⟩) hX _),fun t v hv hne hΦ=>lk_pair ?_ hΦ⟩
   refine ⟨rfl,fun _ h=>h,rfl,fun _ h=>h,rfl,fun _ h=>h,rfl,fun _ h=>h,rfl,fun _ h=>h,rfl,?_,rfl,?_,trivial⟩
   ·intro e hx
    subst e
    obtain ⟨X',rfl,hX',hI'⟩:=hx
    rw [r0] at hv
    have e:=Option.some.inj hv
    simp only [Value.pointer.injEq,Option.some.injEq,Addr.mk.injEq,and_true] at e
    subst e
    exact ⟨X,rfl,hX,by rw [if_pos (updS_self _ _)]; exact cellsT_setN (o:=1) (u:=.int .i64 b) (cellsT_setN (o:=0) (u:=.int .i64 a) (hI))⟩
   ·intro e hx
    subst e
    obtain ⟨X',rfl,hX',hI'⟩:=hx
    have hn:=hne (by decide) _ X r0 rfl
    have hn2:X' ≠ X:=fun e=>hn (by rw [e]; rfl)
    exact ⟨X',rfl,hX',by rw [updS_ne _ (by decide)]; exact ((heap_setN_ne _ hn2 1 _).trans ((heap_setN_ne _ hn2 0 _).trans hI'))⟩
  ·obtain rfl:=Option.some.inj hos
   intro σ_ aa gg hσ h
   obtain ⟨_,r0,X,rfl,hX,hI⟩:=seen_in rfl h.1
   have e0:=getD_of r0
   obtain ⟨_,r1,rfl⟩:=seen_in rfl h.2.1
   have e1:=getD_of r1
   rw [if_neg (by rw [hσ]; exact Bool.false_ne_true)] at hI
   have q0:=heapN_cellj hI (k:=0) rfl
   have z0:gg.w.frozen? ⟨X,0,none⟩ = false:=by simp [World.frozen?,hI]
   have q1:=heapN_cellj hI (k:=1) rfl
   have z1:gg.w.frozen? ⟨X,1,none⟩ = false:=by simp [World.frozen?,hI]
   refine ⟨((gg.w.setCell ⟨X,0,none⟩ (.int .i64 c)).setCell ⟨X,1,none⟩ (.int .i64 d)),by simp [go_sem,e0,r0,e1,r1,q0,z0,q1,z1],((gg.h.setCell (p:=⟨X,0,none⟩) hX _).setCell (p:=⟨X,1,none⟩) hX _),fun t v hv hne hΦ=>lk_pair ?_ hΦ⟩
   refine ⟨rfl,fun _ h=>h,rfl,fun _ h=>h,rfl,fun _ h=>h,rfl,fun _ h=>h,rfl,fun _ h=>h,rfl,?_,rfl,?_,trivial⟩
   ·intro e hx
    subst e
    obtain ⟨X',rfl,hX',hI'⟩:=hx
    have hn:=hne (by decide) _ X r0 rfl
    have hn2:X' ≠ X:=fun e=>hn (by rw [e]; rfl)
    exact ⟨X',rfl,hX',by rw [updS_ne _ (by decide)]; exact ((heap_setN_ne _ hn2 1 _).trans ((heap_setN_ne _ hn2 0 _).trans hI'))⟩
   ·intro e hx
    subst e
    obtain ⟨X',rfl,hX',hI'⟩:=hx
    rw [r0] at hv
    have e:=Option.some.inj hv
    simp only [Value.pointer.injEq,Option.some.injEq,Addr.mk.injEq,and_true] at e
    subst e
    exact ⟨X,rfl,hX,by rw [if_pos (updS_self _ _)]; exact cellsT_setN (o:=1) (u:=.int .i64 d) (cellsT_setN (o:=0) (u:=.int .i64 c) (hI))⟩
 rintro w4 hB _ rfl _ rfl _ rfl _ rfl _ rfl _ ⟨X7,rfl,hX7,hI7⟩ _ ⟨X8,rfl,hX8,hI8⟩
 simp only [Act.put,List.setIfInBounds_toArray,List.set_cons_succ,List.set_cons_zero,List.filterMap_nil,finP]
 intro hdis hcp
 have hI7:w4.heap[X7]? = some (.cells #[.int .i64 a,.int .i64 b] 66 (0,0)):=hI7
 have hI8:w4.heap[X8]? = some (.cells #[.int .i64 c,.int .i64 d] 66 (0,0)):=hI8
 have H7:=Lib.hid (show Blk w4 X7 (.cells #[.int .i64 a,.int .i64 b] 66) from hI7)
 have H8:=Lib.hid (show Blk w4 X8 (.cells #[.int .i64 c,.int .i64 d] 66) from hI8)
 have HF:=Lib.hid (HF.out.grow hB)
 have HA:=Lib.hid (HA.out.grow hB)
 have HW:=Lib.hid (below_then HW.out hB)
 clear hB hI7 hI8 hX7 hX8 hdis hcp a0 a1 a2 a3 a4 a5 u0 u1 KA KC HU
 have c0:=heapN_cellj H7.out (k:=0) rfl
 have c1:=heapN_cellj H7.out (k:=1) rfl
 have KD:Hid (∀ lo hi w,Fx w (.slice (some ⟨bl,0,none⟩) (m+1) cl) o→Calls Tryz.prog 29 #[.slice (some ⟨bl,0,none⟩) (m+1) cl,.agg #[.int .i64 lo,.int .i64 hi]] w fun e w'=>∃ O v,HulF n o lo hi O∧e = .returned (.tuple #[v,.bool O.isSome])∧DuH w' v O∧Below w.heap.size w w'):=Lib.hid (fun lo hi w h=>by
  have k:=During_ok (some ⟨bl,0,none⟩) cl n o lo hi w (by rw [HOL.out]; exact h) (by rw [HOL.out]; exact HCAP.out) HFL.out ⟨bl,0,rfl⟩
  rw [HOL.out] at k
  exact k.mono fun e w' ⟨r,u,h1,h2,h3,h4⟩=>⟨_,u,dur_hul HFL.out h1,h2,h3,h4⟩)
 have KT:Hid (∀ w,Fx w (.slice (some ⟨bl,0,none⟩) (m+1) cl) o→Calls Tryz.prog 28 #[.slice (some ⟨bl,0,none⟩) (m+1) cl,.int .i64 a0t] w fun e w'=>∃ O v,(∀ B,O = some B→B.length = n∧∃ x ∈ o,x.t ≤ a0t∧a0t ≤ x.t+x.h∧subB B x.U = true)∧e = .returned (.tuple #[v,.bool O.isSome])∧AtV w.heap.size w' O v∧Below w.heap.size w w'):=Lib.hid (fun w h =>
  (At_ok (some ⟨bl,0,none⟩) cl m n o a0t w h HOL.out HFL.out).mono fun e w' ⟨r,v,h1,h2,h3,h4⟩=>⟨_,v,fun B e=>at_spec h1 HIN.out HFL.out e,h2,h3,h4⟩)
 go_wp2_with (fail)
 refine (KD.out a b _ HF.out).mono ?_
 rintro e w5 ⟨O1,v1,h1,rfl,hd,hB⟩
 have HO1:=Lib.hid h1
 have V1:=Lib.hid (hd.vx)
 obtain ⟨vp1,vc1,rfl⟩:=V1.out.cut
 have HF:=Lib.hid (HF.out.grow hB)
 have H7:=Lib.hid (H7.out.grow hB)
 have H8:=Lib.hid (H8.out.grow hB)
 have HA:=Lib.hid (HA.out.grow hB)
 have HW:=Lib.hid (below_then HW.out hB)
 clear hB
 clear hd h1 c0 c1
 have d0:=heapN_cellj H8.out (k:=0) rfl
 have d1:=heapN_cellj H8.out (k:=1) rfl
 go_wp2_with (fail)
 refine (KD.out c d _ HF.out).mono ?_
 rintro e w6 ⟨O2,v2,h2,rfl,hd,hB⟩
 have HO2:=Lib.hid h2
 have V2:=Lib.hid (hd.vx)
 obtain ⟨vp2,vc2,rfl⟩:=V2.out.cut
 have HF:=Lib.hid (HF.out.grow hB)
 have H7:=Lib.hid (H7.out.grow hB)
 have H8:=Lib.hid (H8.out.grow hB)
 have HA:=Lib.hid (HA.out.grow hB)
 have V1:=Lib.hid (V1.out.grow hB)
 have HW:=Lib.hid (below_then HW.out hB)
 clear hB
 clear hd h2 d0 d1
 have c0:=heapN_cellj H7.out (k:=0) rfl
 have c1:=heapN_cellj H7.out (k:=1) rfl
 have d0:=heapN_cellj H8.out (k:=0) rfl
 have d1:=heapN_cellj H8.out (k:=1) rfl
 go_wp2_with (fail)
 refine (KH.out _).mono ?_
 rintro e w7 ⟨rfl,hB⟩
 have HF:=Lib.hid (HF.out.grow hB)
 have H7:=Lib.hid (H7.out.grow hB)
 have H8:=Lib.hid (H8.out.grow hB)
 have HA:=Lib.hid (HA.out.grow hB)
 have V1:=Lib.hid (V1.out.grow hB)
 have V2:=Lib.hid (V2.out.grow hB)
 have HW:=Lib.hid (below_then HW.out hB)
 clear hB c0 c1 d0 d1
 go_wp2_with (fail)
 refine (KD.out s1 s2 _ HF.out).mono ?_
 rintro e w8 ⟨O3,v3,h3,rfl,hd,hB⟩
 have HO3:=Lib.hid h3
 have V3:=Lib.hid (hd.vx)
 obtain ⟨vp3,vc3,rfl⟩:=V3.out.cut
 have HF:=Lib.hid (HF.out.grow hB)
 have H7:=Lib.hid (H7.out.grow hB)
 have H8:=Lib.hid (H8.out.grow hB)
 have HA:=Lib.hid (HA.out.grow hB)
 have V1:=Lib.hid (V1.out.grow hB)
 have V2:=Lib.hid (V2.out.grow hB)
 have HW:=Lib.hid (below_then HW.out hB)
 clear hB
 clear hd h3 KD
 have a2:=heapN_cellj HA.out (k:=2) rfl
 go_wp2_with (fail)
 refine (KT.out _ HF.out).mono ?_
 rintro e w9 ⟨O4,v4,h4,rfl,hd,hB⟩
 have HO4:=Lib.hid h4
 have V4:=Lib.hid (hd.vx (fun K e=>by have:=(h4 K e).1; have:=HFL.out.n6; omega))
 obtain ⟨vp4,vc4,rfl⟩:=V4.out.cut
 have HF:=Lib.hid (HF.out.grow hB)
 have H7:=Lib.hid (H7.out.grow hB)
 have H8:=Lib.hid (H8.out.grow hB)
 have HA:=Lib.hid (HA.out.grow hB)
 have V1:=Lib.hid (V1.out.grow hB)
 have V2:=Lib.hid (V2.out.grow hB)
 have V3:=Lib.hid (V3.out.grow hB)
 have HW:=Lib.hid (below_then HW.out hB)
 clear hB
 clear hd h4 a2
 obtain ⟨cn,hcn⟩:∃ cn,(decide (Ent a b) || (decide (a ≤ a0t) && decide (a0t ≤ b))) = cn:=⟨_,rfl⟩
 have KCN9:=Lib.hid (fun w=>KCN.out cn hcn w)
 have h3:=HO3.out
 rw [← ES.out.1,← ES.out.2] at h3
 obtain ⟨F1,F2,F3,F4,G1,G2,G3⟩:=dur_math HFL.out HO1.out HO2.out h3 HO4.out cn (fun e=>by
  rw [← hcn] at e
  simp only [Bool.or_eq_true,Bool.and_eq_true,decide_eq_true_eq] at e
  exact e) mt HMT.out
 clear h3 hcn HO1 HO2 HO3 HO4 KT KH KCN HMT ES HFL HOL HIN HCAP HF
 generalize O1.isSome = b1 at *
 generalize O2.isSome = b2 at *
 generalize O3.isSome = b3 at *
 generalize O4.isSome = b4 at *
 generalize O1.getD [] = A1 at *
 generalize O2.getD [] = A2 at *
 generalize O3.getD [] = A3 at *
 generalize O4.getD [] = A4 at *
 have G1:=Lib.hid G1
 have G2:=Lib.hid G2
 have G3:=Lib.hid G3
 have KS1:Hid (b1 = true→∀ w,Below w9.heap.size w9 w→Calls Tryz.prog 25 #[.slice vp1 A1.length vc1,.slice vp3 A3.length vc3] w fun e w'=>e = .returned (.bool true)∧Below w.heap.size w w'):=Lib.hid (by
  intros
  have f:=F1 ‹_›
  have hb:=‹Below w9.heap.size w9 _›
  have k:=r3subset (.slice vp1 A1.length vc1) (.slice vp3 A3.length vc3) A1 A3 _ (vx_bx (V1.out.grow hb)) (vx_bx (V3.out.grow hb)) f.1
  rw [f.2] at k
  exact k)
 have KS2:Hid (b2 = true→∀ w,Below w9.heap.size w9 w→Calls Tryz.prog 25 #[.slice vp2 A2.length vc2,.slice vp3 A3.length vc3] w fun e w'=>e = .returned (.bool true)∧Below w.heap.size w w'):=Lib.hid (by
  intros
  have f:=F2 ‹_›
  have hb:=‹Below w9.heap.size w9 _›
  have k:=r3subset (.slice vp2 A2.length vc2) (.slice vp3 A3.length vc3) A2 A3 _ (vx_bx (V2.out.grow hb)) (vx_bx (V3.out.grow hb)) f.1
  rw [f.2] at k
  exact k)
 have KS3:Hid (b4 = true→cn = true→∀ w,Below w9.heap.size w9 w→Calls Tryz.prog 25 #[.slice vp4 A4.length vc4,.slice vp1 A1.length vc1] w fun e w'=>e = .returned (.bool true)∧Below w.heap.size w w'):=Lib.hid (by
  intros
  have f:=F3 ‹_› ‹_›
  have hb:=‹Below w9.heap.size w9 _›
  have k:=r3subset (.slice vp4 A4.length vc4) (.slice vp1 A1.length vc1) A4 A1 _ (vx_bx (V4.out.grow hb)) (vx_bx (V1.out.grow hb)) f.1
  rw [f.2] at k
  exact k)
 have KHL:Hid (mt = true→b1 = true→b2 = true→∀ w,Below w9.heap.size w9 w→Calls Tryz.prog 39 #[.slice vp1 A1.length vc1,.slice vp2 A2.length vc2] w fun e w'=>∃ u,e = .returned u∧Vx w' u (hulL A1 A2)∧Below w.heap.size w w'):=Lib.hid (fun e1 e2 e3 w hb=>r3hull14 _ _ A1 A2 _ w (V1.out.grow hb) (V2.out.grow hb) (F4 e1 e2 e3).1 (F4 e1 e2 e3).2.1 rfl)
 have KSM:Hid (mt = true→b1 = true→b2 = true→∀ w u,Below w9.heap.size w9 w→Vx w u (hulL A1 A2)→Calls Tryz.prog 24 #[.slice vp3 A3.length vc3,u] w fun e w'=>e = .returned (.bool true)∧Below w.heap.size w w'):=Lib.hid (fun e1 e2 e3 w u hb y=>by
  have k:=r3same (.slice vp3 A3.length vc3) u A3 (hulL A1 A2) w (vx_bx (V3.out.grow hb)) (vx_bx y)
  rw [decide_eq_true (F4 e1 e2 e3).2.2] at k
  exact k)
 have HB9:=Lib.hid (Below.refl w9.heap.size w9)
 clear F1 F2 F3 F4 V1 V2 V3 V4
 have c0:=heapN_cellj (H7.out.grow HB9.out) (k:=0) rfl
 have c1:=heapN_cellj (H7.out.grow HB9.out) (k:=1) rfl
 have d0:=heapN_cellj (H8.out.grow HB9.out) (k:=0) rfl
 have d1:=heapN_cellj (H8.out.grow HB9.out) (k:=1) rfl
 have a2:=heapN_cellj (HA.out.grow HB9.out) (k:=2) rfl
 rcases G1.out with rfl | ⟨rfl,rfl⟩
 ·clear KS1 KHL KSM
  rcases G2.out with rfl | ⟨rfl,rfl⟩
  ·clear KS2
   rcases G3.out with rfl | ⟨rfl,rfl⟩ | ⟨rfl,rfl,hx⟩
   ·clear KS3
    go_wp2_with (fail)
    cases mt with
    | false =>
     refine (KMT.out _).mono ?_
     rintro e w10 ⟨rfl,hB⟩
     clear c0 c1 d0 d1 a2
     have HB9:=Lib.hid (below_then HB9.out hB)
     clear hB
     have c0:=heapN_cellj (H7.out.grow HB9.out) (k:=0) rfl
     have c1:=heapN_cellj (H7.out.grow HB9.out) (k:=1) rfl
     have d0:=heapN_cellj (H8.out.grow HB9.out) (k:=0) rfl
     have d1:=heapN_cellj (H8.out.grow HB9.out) (k:=1) rfl
     have a2:=heapN_cellj (HA.out.grow HB9.out) (k:=2) rfl
     go_wp2_with (fail)
     refine bodyPost_ret (v:=.bool true) (by simp [results,Tryz.results10,go_sem]) rfl ⟨rfl,?_⟩
     have hw:=below_then HW.out HB9.out
     go_grown
     all_goals exact hw.size
    | true =>
     refine (KMT.out _).mono ?_
     rintro e w11 ⟨rfl,hB⟩
     clear c0 c1 d0 d1 a2
     have HB9:=Lib.hid (below_then HB9.out hB)
     clear hB
     have c0:=heapN_cellj (H7.out.grow HB9.out) (k:=0) rfl
     have c1:=heapN_cellj (H7.out.grow HB9.out) (k:=1) rfl
     have d0:=heapN_cellj (H8.out.grow HB9.out) (k:=0) rfl
     have d1:=heapN_cellj (H8.out.grow HB9.out) (k:=1) rfl
     have a2:=heapN_cellj (HA.out.grow HB9.out) (k:=2) rfl
     go_wp2_with (fail)
     refine bodyPost_ret (v:=.bool true) (by simp [results,Tryz.results10,go_sem]) rfl ⟨rfl,?_⟩
     have hw:=below_then HW.out HB9.out
     go_grown
     all_goals exact hw.size
   ·clear KS3
    go_wp2_with (fail)
    refine (KCN9.out _).mono ?_
    rintro e w12 ⟨rfl,hB⟩
    clear c0 c1 d0 d1 a2
    have HB9:=Lib.hid (below_then HB9.out hB)
    clear hB
    have c0:=heapN_cellj (H7.out.grow HB9.out) (k:=0) rfl
    have c1:=heapN_cellj (H7.out.grow HB9.out) (k:=1) rfl
    have d0:=heapN_cellj (H8.out.grow HB9.out) (k:=0) rfl
    have d1:=heapN_cellj (H8.out.grow HB9.out) (k:=1) rfl
    have a2:=heapN_cellj (HA.out.grow HB9.out) (k:=2) rfl
    go_wp2_with (fail)
    cases mt with
    | false =>
     refine (KMT.out _).mono ?_
     rintro e w13 ⟨rfl,hB⟩
     clear c0 c1 d0 d1 a2
     have HB9:=Lib.hid (below_then HB9.out hB)
     clear hB
     have c0:=heapN_cellj (H7.out.grow HB9.out) (k:=0) rfl
     have c1:=heapN_cellj (H7.out.grow HB9.out) (k:=1) rfl
     have d0:=heapN_cellj (H8.out.grow HB9.out) (k:=0) rfl
     have d1:=heapN_cellj (H8.out.grow HB9.out) (k:=1) rfl
     have a2:=heapN_cellj (HA.out.grow HB9.out) (k:=2) rfl
     go_wp2_with (fail)
     refine bodyPost_ret (v:=.bool true) (by simp [results,Tryz.results10,go_sem]) rfl ⟨rfl,?_⟩
     have hw:=below_then HW.out HB9.out
     go_grown
     all_goals exact hw.size
    | true =>
     refine (KMT.out _).mono ?_
     rintro e w14 ⟨rfl,hB⟩
     clear c0 c1 d0 d1 a2
     have HB9:=Lib.hid (below_then HB9.out hB)
     clear hB
     have c0:=heapN_cellj (H7.out.grow HB9.out) (k:=0) rfl
     have c1:=heapN_cellj (H7.out.grow HB9.out) (k:=1) rfl
     have d0:=heapN_cellj (H8.out.grow HB9.out) (k:=0) rfl
     have d1:=heapN_cellj (H8.out.grow HB9.out) (k:=1) rfl
     have a2:=heapN_cellj (HA.out.grow HB9.out) (k:=2) rfl
     go_wp2_with (fail)
     refine bodyPost_ret (v:=.bool true) (by simp [results,Tryz.results10,go_sem]) rfl ⟨rfl,?_⟩
     have hw:=below_then HW.out HB9.out
     go_grown
     all_goals exact hw.size
   ·cases hx
  ·have KX2:=Lib.hid (KS2.out rfl)
   clear KS2
   rcases G3.out with rfl | ⟨rfl,rfl⟩ | ⟨rfl,rfl,hx⟩
   ·clear KS3
    go_wp2_with (fail)
    refine (KX2.out _ HB9.out).mono ?_
    rintro e w15 ⟨rfl,hB⟩
    clear c0 c1 d0 d1 a2
    have HB9:=Lib.hid (below_then HB9.out hB)
    clear hB
    have c0:=heapN_cellj (H7.out.grow HB9.out) (k:=0) rfl
    have c1:=heapN_cellj (H7.out.grow HB9.out) (k:=1) rfl
    have d0:=heapN_cellj (H8.out.grow HB9.out) (k:=0) rfl
    have d1:=heapN_cellj (H8.out.grow HB9.out) (k:=1) rfl
    have a2:=heapN_cellj (HA.out.grow HB9.out) (k:=2) rfl
    go_wp2_with (fail)
    cases mt with
    | false =>
     refine (KMT.out _).mono ?_
     rintro e w16 ⟨rfl,hB⟩
     clear c0 c1 d0 d1 a2
     have HB9:=Lib.hid (below_then HB9.out hB)
     clear hB
     have c0:=heapN_cellj (H7.out.grow HB9.out) (k:=0) rfl
     have c1:=heapN_cellj (H7.out.grow HB9.out) (k:=1) rfl
     have d0:=heapN_cellj (H8.out.grow HB9.out) (k:=0) rfl
     have d1:=heapN_cellj (H8.out.grow HB9.out) (k:=1) rfl
     have a2:=heapN_cellj (HA.out.grow HB9.out) (k:=2) rfl
     go_wp2_with (fail)
     refine bodyPost_ret (v:=.bool true) (by simp [results,Tryz.results10,go_sem]) rfl ⟨rfl,?_⟩
     have hw:=below_then HW.out HB9.out
     go_grown
     all_goals exact hw.size
    | true =>
     refine (KMT.out _).mono ?_
     rintro e w17 ⟨rfl,hB⟩
     clear c0 c1 d0 d1 a2
     have HB9:=Lib.hid (below_then HB9.out hB)
     clear hB
     have c0:=heapN_cellj (H7.out.grow HB9.out) (k:=0) rfl
     have c1:=heapN_cellj (H7.out.grow HB9.out) (k:=1) rfl
     have d0:=heapN_cellj (H8.out.grow HB9.out) (k:=0) rfl
     have d1:=heapN_cellj (H8.out.grow HB9.out) (k:=1) rfl
     have a2:=heapN_cellj (HA.out.grow HB9.out) (k:=2) rfl
     go_wp2_with (fail)
     refine bodyPost_ret (v:=.bool true) (by simp [results,Tryz.results10,go_sem]) rfl ⟨rfl,?_⟩
     have hw:=below_then HW.out HB9.out
     go_grown
     all_goals exact hw.size
   ·clear KS3
    go_wp2_with (fail)
    refine (KX2.out _ HB9.out).mono ?_
    rintro e w18 ⟨rfl,hB⟩
    clear c0 c1 d0 d1 a2
    have HB9:=Lib.hid (below_then HB9.out hB)
    clear hB
    have c0:=heapN_cellj (H7.out.grow HB9.out) (k:=0) rfl
    have c1:=heapN_cellj (H7.out.grow HB9.out) (k:=1) rfl
    have d0:=heapN_cellj (H8.out.grow HB9.out) (k:=0) rfl
    have d1:=heapN_cellj (H8.out.grow HB9.out) (k:=1) rfl
    have a2:=heapN_cellj (HA.out.grow HB9.out) (k:=2) rfl
    go_wp2_with (fail)
    refine (KCN9.out _).mono ?_
    rintro e w19 ⟨rfl,hB⟩
    clear c0 c1 d0 d1 a2
    have HB9:=Lib.hid (below_then HB9.out hB)
    clear hB
    have c0:=heapN_cellj (H7.out.grow HB9.out) (k:=0) rfl
    have c1:=heapN_cellj (H7.out.grow HB9.out) (k:=1) rfl
    have d0:=heapN_cellj (H8.out.grow HB9.out) (k:=0) rfl
    have d1:=heapN_cellj (H8.out.grow HB9.out) (k:=1) rfl
    have a2:=heapN_cellj (HA.out.grow HB9.out) (k:=2) rfl
    go_wp2_with (fail)
    cases mt with
    | false =>
     refine (KMT.out _).mono ?_
     rintro e w20 ⟨rfl,hB⟩
     clear c0 c1 d0 d1 a2
     have HB9:=Lib.hid (below_then HB9.out hB)
     clear hB
     have c0:=heapN_cellj (H7.out.grow HB9.out) (k:=0) rfl
     have c1:=heapN_cellj (H7.out.grow HB9.out) (k:=1) rfl
     have d0:=heapN_cellj (H8.out.grow HB9.out) (k:=0) rfl
     have d1:=heapN_cellj (H8.out.grow HB9.out) (k:=1) rfl
     have a2:=heapN_cellj (HA.out.grow HB9.out) (k:=2) rfl
     go_wp2_with (fail)
     refine bodyPost_ret (v:=.bool true) (by simp [results,Tryz.results10,go_sem]) rfl ⟨rfl,?_⟩
     have hw:=below_then HW.out HB9.out
     go_grown
     all_goals exact hw.size
    | true =>
     refine (KMT.out _).mono ?_
     rintro e w21 ⟨rfl,hB⟩
     clear c0 c1 d0 d1 a2
     have HB9:=Lib.hid (below_then HB9.out hB)
     clear hB
     have c0:=heapN_cellj (H7.out.grow HB9.out) (k:=0) rfl
     have c1:=heapN_cellj (H7.out.grow HB9.out) (k:=1) rfl
     have d0:=heapN_cellj (H8.out.grow HB9.out) (k:=0) rfl
     have d1:=heapN_cellj (H8.out.grow HB9.out) (k:=1) rfl
     have a2:=heapN_cellj (HA.out.grow HB9.out) (k:=2) rfl
     go_wp2_with (fail)
     refine bodyPost_ret (v:=.bool true) (by simp [results,Tryz.results10,go_sem]) rfl ⟨rfl,?_⟩
     have hw:=below_then HW.out HB9.out
     go_grown
     all_goals exact hw.size
   ·cases hx
 ·have KX1:=Lib.hid (KS1.out rfl)
  clear KS1
  rcases G2.out with rfl | ⟨rfl,-⟩
  ·clear KS2 KHL KSM
   rcases G3.out with rfl | ⟨rfl,rfl⟩ | ⟨rfl,rfl,-⟩
   ·clear KS3
    go_wp2_with (fail)
    refine (KX1.out _ HB9.out).mono ?_
    rintro e w22 ⟨rfl,hB⟩
    clear c0 c1 d0 d1 a2
    have HB9:=Lib.hid (below_then HB9.out hB)
    clear hB
    have c0:=heapN_cellj (H7.out.grow HB9.out) (k:=0) rfl
    have c1:=heapN_cellj (H7.out.grow HB9.out) (k:=1) rfl
    have d0:=heapN_cellj (H8.out.grow HB9.out) (k:=0) rfl
    have d1:=heapN_cellj (H8.out.grow HB9.out) (k:=1) rfl
    have a2:=heapN_cellj (HA.out.grow HB9.out) (k:=2) rfl
    go_wp2_with (fail)
    cases mt with
    | false =>
     refine (KMT.out _).mono ?_
     rintro e w23 ⟨rfl,hB⟩
     clear c0 c1 d0 d1 a2
     have HB9:=Lib.hid (below_then HB9.out hB)
     clear hB
     have c0:=heapN_cellj (H7.out.grow HB9.out) (k:=0) rfl
     have c1:=heapN_cellj (H7.out.grow HB9.out) (k:=1) rfl
     have d0:=heapN_cellj (H8.out.grow HB9.out) (k:=0) rfl
     have d1:=heapN_cellj (H8.out.grow HB9.out) (k:=1) rfl
     have a2:=heapN_cellj (HA.out.grow HB9.out) (k:=2) rfl
     go_wp2_with (fail)
     refine bodyPost_ret (v:=.bool true) (by simp [results,Tryz.results10,go_sem]) rfl ⟨rfl,?_⟩
     have hw:=below_then HW.out HB9.out
     go_grown
     all_goals exact hw.size
    | true =>
     refine (KMT.out _).mono ?_
     rintro e w24 ⟨rfl,hB⟩
     clear c0 c1 d0 d1 a2
     have HB9:=Lib.hid (below_then HB9.out hB)
     clear hB
     have c0:=heapN_cellj (H7.out.grow HB9.out) (k:=0) rfl
     have c1:=heapN_cellj (H7.out.grow HB9.out) (k:=1) rfl
     have d0:=heapN_cellj (H8.out.grow HB9.out) (k:=0) rfl
     have d1:=heapN_cellj (H8.out.grow HB9.out) (k:=1) rfl
     have a2:=heapN_cellj (HA.out.grow HB9.out) (k:=2) rfl
     go_wp2_with (fail)
     refine bodyPost_ret (v:=.bool true) (by simp [results,Tryz.results10,go_sem]) rfl ⟨rfl,?_⟩
     have hw:=below_then HW.out HB9.out
     go_grown
     all_goals exact hw.size
   ·clear KS3
    go_wp2_with (fail)
    refine (KX1.out _ HB9.out).mono ?_
    rintro e w25 ⟨rfl,hB⟩
    clear c0 c1 d0 d1 a2
    have HB9:=Lib.hid (below_then HB9.out hB)
    clear hB
    have c0:=heapN_cellj (H7.out.grow HB9.out) (k:=0) rfl
    have c1:=heapN_cellj (H7.out.grow HB9.out) (k:=1) rfl
    have d0:=heapN_cellj (H8.out.grow HB9.out) (k:=0) rfl
    have d1:=heapN_cellj (H8.out.grow HB9.out) (k:=1) rfl
    have a2:=heapN_cellj (HA.out.grow HB9.out) (k:=2) rfl
    go_wp2_with (fail)
    refine (KCN9.out _).mono ?_
    rintro e w26 ⟨rfl,hB⟩
    clear c0 c1 d0 d1 a2
    have HB9:=Lib.hid (below_then HB9.out hB)
    clear hB
    have c0:=heapN_cellj (H7.out.grow HB9.out) (k:=0) rfl
    have c1:=heapN_cellj (H7.out.grow HB9.out) (k:=1) rfl
    have d0:=heapN_cellj (H8.out.grow HB9.out) (k:=0) rfl
    have d1:=heapN_cellj (H8.out.grow HB9.out) (k:=1) rfl
    have a2:=heapN_cellj (HA.out.grow HB9.out) (k:=2) rfl
    go_wp2_with (fail)
    cases mt with
    | false =>
     refine (KMT.out _).mono ?_
     rintro e w27 ⟨rfl,hB⟩
     clear c0 c1 d0 d1 a2
     have HB9:=Lib.hid (below_then HB9.out hB)
     clear hB
     have c0:=heapN_cellj (H7.out.grow HB9.out) (k:=0) rfl
     have c1:=heapN_cellj (H7.out.grow HB9.out) (k:=1) rfl
     have d0:=heapN_cellj (H8.out.grow HB9.out) (k:=0) rfl
     have d1:=heapN_cellj (H8.out.grow HB9.out) (k:=1) rfl
     have a2:=heapN_cellj (HA.out.grow HB9.out) (k:=2) rfl
     go_wp2_with (fail)
     refine bodyPost_ret (v:=.bool true) (by simp [results,Tryz.results10,go_sem]) rfl ⟨rfl,?_⟩
     have hw:=below_then HW.out HB9.out
     go_grown
     all_goals exact hw.size
    | true =>
     refine (KMT.out _).mono ?_
     rintro e w28 ⟨rfl,hB⟩
     clear c0 c1 d0 d1 a2
     have HB9:=Lib.hid (below_then HB9.out hB)
     clear hB
     have c0:=heapN_cellj (H7.out.grow HB9.out) (k:=0) rfl
     have c1:=heapN_cellj (H7.out.grow HB9.out) (k:=1) rfl
     have d0:=heapN_cellj (H8.out.grow HB9.out) (k:=0) rfl
     have d1:=heapN_cellj (H8.out.grow HB9.out) (k:=1) rfl
     have a2:=heapN_cellj (HA.out.grow HB9.out) (k:=2) rfl
     go_wp2_with (fail)
     refine bodyPost_ret (v:=.bool true) (by simp [results,Tryz.results10,go_sem]) rfl ⟨rfl,?_⟩
     have hw:=below_then HW.out HB9.out
     go_grown
     all_goals exact hw.size
   ·have KX3:=Lib.hid (KS3.out rfl rfl)
    clear KS3
    go_wp2_with (fail)
    refine (KX1.out _ HB9.out).mono ?_
    rintro e w29 ⟨rfl,hB⟩
    clear c0 c1 d0 d1 a2
    have HB9:=Lib.hid (below_then HB9.out hB)
    clear hB
    have c0:=heapN_cellj (H7.out.grow HB9.out) (k:=0) rfl
    have c1:=heapN_cellj (H7.out.grow HB9.out) (k:=1) rfl
    have d0:=heapN_cellj (H8.out.grow HB9.out) (k:=0) rfl
    have d1:=heapN_cellj (H8.out.grow HB9.out) (k:=1) rfl
    have a2:=heapN_cellj (HA.out.grow HB9.out) (k:=2) rfl
    go_wp2_with (fail)
    refine (KCN9.out _).mono ?_
    rintro e w30 ⟨rfl,hB⟩
    clear c0 c1 d0 d1 a2
    have HB9:=Lib.hid (below_then HB9.out hB)
    clear hB
    have c0:=heapN_cellj (H7.out.grow HB9.out) (k:=0) rfl
    have c1:=heapN_cellj (H7.out.grow HB9.out) (k:=1) rfl
    have d0:=heapN_cellj (H8.out.grow HB9.out) (k:=0) rfl
    have d1:=heapN_cellj (H8.out.grow HB9.out) (k:=1) rfl
    have a2:=heapN_cellj (HA.out.grow HB9.out) (k:=2) rfl
    go_wp2_with (fail)
    refine (KX3.out _ HB9.out).mono ?_
    rintro e w31 ⟨rfl,hB⟩
    clear c0 c1 d0 d1 a2
    have HB9:=Lib.hid (below_then HB9.out hB)
    clear hB
    have c0:=heapN_cellj (H7.out.grow HB9.out) (k:=0) rfl
    have c1:=heapN_cellj (H7.out.grow HB9.out) (k:=1) rfl
    have d0:=heapN_cellj (H8.out.grow HB9.out) (k:=0) rfl
    have d1:=heapN_cellj (H8.out.grow HB9.out) (k:=1) rfl
    have a2:=heapN_cellj (HA.out.grow HB9.out) (k:=2) rfl
    go_wp2_with (fail)
    cases mt with
    | false =>
     refine (KMT.out _).mono ?_
     rintro e w32 ⟨rfl,hB⟩
     clear c0 c1 d0 d1 a2
     have HB9:=Lib.hid (below_then HB9.out hB)
     clear hB
     have c0:=heapN_cellj (H7.out.grow HB9.out) (k:=0) rfl
     have c1:=heapN_cellj (H7.out.grow HB9.out) (k:=1) rfl
     have d0:=heapN_cellj (H8.out.grow HB9.out) (k:=0) rfl
     have d1:=heapN_cellj (H8.out.grow HB9.out) (k:=1) rfl
     have a2:=heapN_cellj (HA.out.grow HB9.out) (k:=2) rfl
     go_wp2_with (fail)
     refine bodyPost_ret (v:=.bool true) (by simp [results,Tryz.results10,go_sem]) rfl ⟨rfl,?_⟩
     have hw:=below_then HW.out HB9.out
     go_grown
     all_goals exact hw.size
    | true =>
     refine (KMT.out _).mono ?_
     rintro e w33 ⟨rfl,hB⟩
     clear c0 c1 d0 d1 a2
     have HB9:=Lib.hid (below_then HB9.out hB)
     clear hB
     have c0:=heapN_cellj (H7.out.grow HB9.out) (k:=0) rfl
     have c1:=heapN_cellj (H7.out.grow HB9.out) (k:=1) rfl
     have d0:=heapN_cellj (H8.out.grow HB9.out) (k:=0) rfl
     have d1:=heapN_cellj (H8.out.grow HB9.out) (k:=1) rfl
     have a2:=heapN_cellj (HA.out.grow HB9.out) (k:=2) rfl
     go_wp2_with (fail)
     refine bodyPost_ret (v:=.bool true) (by simp [results,Tryz.results10,go_sem]) rfl ⟨rfl,?_⟩
     have hw:=below_then HW.out HB9.out
     go_grown
     all_goals exact hw.size
  ·have KX2:=Lib.hid (KS2.out rfl)
   clear KS2
   have KXL:=Lib.hid (fun h=>KHL.out h rfl rfl)
   have KXM:=Lib.hid (fun h=>KSM.out h rfl rfl)
   clear KHL KSM
   rcases G3.out with rfl | ⟨rfl,rfl⟩ | ⟨rfl,rfl,-⟩
   ·clear KS3
    go_wp2_with (fail)
    refine (KX1.out _ HB9.out).mono ?_
    rintro e w34 ⟨rfl,hB⟩
    clear c0 c1 d0 d1 a2
    have HB9:=Lib.hid (below_then HB9.out hB)
    clear hB
    have c0:=heapN_cellj (H7.out.grow HB9.out) (k:=0) rfl
    have c1:=heapN_cellj (H7.out.grow HB9.out) (k:=1) rfl
    have d0:=heapN_cellj (H8.out.grow HB9.out) (k:=0) rfl
    have d1:=heapN_cellj (H8.out.grow HB9.out) (k:=1) rfl
    have a2:=heapN_cellj (HA.out.grow HB9.out) (k:=2) rfl
    go_wp2_with (fail)
    refine (KX2.out _ HB9.out).mono ?_
    rintro e w35 ⟨rfl,hB⟩
    clear c0 c1 d0 d1 a2
    have HB9:=Lib.hid (below_then HB9.out hB)
    clear hB
    have c0:=heapN_cellj (H7.out.grow HB9.out) (k:=0) rfl
    have c1:=heapN_cellj (H7.out.grow HB9.out) (k:=1) rfl
    have d0:=heapN_cellj (H8.out.grow HB9.out) (k:=0) rfl
    have d1:=heapN_cellj (H8.out.grow HB9.out) (k:=1) rfl
    have a2:=heapN_cellj (HA.out.grow HB9.out) (k:=2) rfl
    go_wp2_with (fail)
    cases mt with
    | false =>
     refine (KMT.out _).mono ?_
     rintro e w36 ⟨rfl,hB⟩
     clear c0 c1 d0 d1 a2
     have HB9:=Lib.hid (below_then HB9.out hB)
     clear hB
     have c0:=heapN_cellj (H7.out.grow HB9.out) (k:=0) rfl
     have c1:=heapN_cellj (H7.out.grow HB9.out) (k:=1) rfl
     have d0:=heapN_cellj (H8.out.grow HB9.out) (k:=0) rfl
     have d1:=heapN_cellj (H8.out.grow HB9.out) (k:=1) rfl
     have a2:=heapN_cellj (HA.out.grow HB9.out) (k:=2) rfl
     go_wp2_with (fail)
     refine bodyPost_ret (v:=.bool true) (by simp [results,Tryz.results10,go_sem]) rfl ⟨rfl,?_⟩
     have hw:=below_then HW.out HB9.out
     go_grown
     all_goals exact hw.size
    | true =>
     refine (KMT.out _).mono ?_
     rintro e w37 ⟨rfl,hB⟩
     clear c0 c1 d0 d1 a2
     have HB9:=Lib.hid (below_then HB9.out hB)
     clear hB
     have c0:=heapN_cellj (H7.out.grow HB9.out) (k:=0) rfl
     have c1:=heapN_cellj (H7.out.grow HB9.out) (k:=1) rfl
     have d0:=heapN_cellj (H8.out.grow HB9.out) (k:=0) rfl
     have d1:=heapN_cellj (H8.out.grow HB9.out) (k:=1) rfl
     have a2:=heapN_cellj (HA.out.grow HB9.out) (k:=2) rfl
     go_wp2_with (fail)
     refine (KXL.out trivial _ (below_then HB9.out ((Below.refl _ _).alloc (Nat.le_refl _) _))).mono ?_
     rintro e w38 ⟨u,rfl,hu,hB⟩
     clear c0 c1 d0 d1 a2
     have HB9:=Lib.hid (below_then (below_then HB9.out ((Below.refl _ _).alloc (Nat.le_refl _) _)) hB)
     clear hB
     obtain ⟨pu,cu,rfl⟩:=hu.cut
     have HVU:=Lib.hid hu
     clear hu
     go_wp2_with (fail)
     refine (KXM.out trivial _ _ HB9.out HVU.out).mono ?_
     rintro e w38' ⟨rfl,hB⟩
     have HB9:=Lib.hid (below_then HB9.out hB)
     clear hB
     go_wp2_with (fail)
     refine bodyPost_ret (v:=.bool true) (by simp [results,Tryz.results10,go_sem]) rfl ⟨rfl,?_⟩
     have hw:=below_then HW.out HB9.out
     go_grown
     all_goals exact hw.size
   ·clear KS3
    go_wp2_with (fail)
    refine (KX1.out _ HB9.out).mono ?_
    rintro e w39 ⟨rfl,hB⟩
    clear c0 c1 d0 d1 a2
    have HB9:=Lib.hid (below_then HB9.out hB)
    clear hB
    have c0:=heapN_cellj (H7.out.grow HB9.out) (k:=0) rfl
    have c1:=heapN_cellj (H7.out.grow HB9.out) (k:=1) rfl
    have d0:=heapN_cellj (H8.out.grow HB9.out) (k:=0) rfl
    have d1:=heapN_cellj (H8.out.grow HB9.out) (k:=1) rfl
    have a2:=heapN_cellj (HA.out.grow HB9.out) (k:=2) rfl
    go_wp2_with (fail)
    refine (KX2.out _ HB9.out).mono ?_
    rintro e w40 ⟨rfl,hB⟩
    clear c0 c1 d0 d1 a2
    have HB9:=Lib.hid (below_then HB9.out hB)
    clear hB
    have c0:=heapN_cellj (H7.out.grow HB9.out) (k:=0) rfl
    have c1:=heapN_cellj (H7.out.grow HB9.out) (k:=1) rfl
    have d0:=heapN_cellj (H8.out.grow HB9.out) (k:=0) rfl
    have d1:=heapN_cellj (H8.out.grow HB9.out) (k:=1) rfl
    have a2:=heapN_cellj (HA.out.grow HB9.out) (k:=2) rfl
    go_wp2_with (fail)
    refine (KCN9.out _).mono ?_
    rintro e w41 ⟨rfl,hB⟩
    clear c0 c1 d0 d1 a2
    have HB9:=Lib.hid (below_then HB9.out hB)
    clear hB
    have c0:=heapN_cellj (H7.out.grow HB9.out) (k:=0) rfl
    have c1:=heapN_cellj (H7.out.grow HB9.out) (k:=1) rfl
    have d0:=heapN_cellj (H8.out.grow HB9.out) (k:=0) rfl
    have d1:=heapN_cellj (H8.out.grow HB9.out) (k:=1) rfl
    have a2:=heapN_cellj (HA.out.grow HB9.out) (k:=2) rfl
    go_wp2_with (fail)
    cases mt with
    | false =>
     refine (KMT.out _).mono ?_
     rintro e w42 ⟨rfl,hB⟩
     clear c0 c1 d0 d1 a2
     have HB9:=Lib.hid (below_then HB9.out hB)
     clear hB
     have c0:=heapN_cellj (H7.out.grow HB9.out) (k:=0) rfl
     have c1:=heapN_cellj (H7.out.grow HB9.out) (k:=1) rfl
     have d0:=heapN_cellj (H8.out.grow HB9.out) (k:=0) rfl
     have d1:=heapN_cellj (H8.out.grow HB9.out) (k:=1) rfl
     have a2:=heapN_cellj (HA.out.grow HB9.out) (k:=2) rfl
     go_wp2_with (fail)
     refine bodyPost_ret (v:=.bool true) (by simp [results,Tryz.results10,go_sem]) rfl ⟨rfl,?_⟩
     have hw:=below_then HW.out HB9.out
     go_grown
     all_goals exact hw.size
    | true =>
     refine (KMT.out _).mono ?_
     rintro e w43 ⟨rfl,hB⟩
     clear c0 c1 d0 d1 a2
     have HB9:=Lib.hid (below_then HB9.out hB)
     clear hB
     have c0:=heapN_cellj (H7.out.grow HB9.out) (k:=0) rfl
     have c1:=heapN_cellj (H7.out.grow HB9.out) (k:=1) rfl
     have d0:=heapN_cellj (H8.out.grow HB9.out) (k:=0) rfl
     have d1:=heapN_cellj (H8.out.grow HB9.out) (k:=1) rfl
     have a2:=heapN_cellj (HA.out.grow HB9.out) (k:=2) rfl
     go_wp2_with (fail)
     refine (KXL.out trivial _ (below_then HB9.out ((Below.refl _ _).alloc (Nat.le_refl _) _))).mono ?_
     rintro e w44 ⟨u,rfl,hu,hB⟩
     clear c0 c1 d0 d1 a2
     have HB9:=Lib.hid (below_then (below_then HB9.out ((Below.refl _ _).alloc (Nat.le_refl _) _)) hB)
     clear hB
     obtain ⟨pu,cu,rfl⟩:=hu.cut
     have HVU:=Lib.hid hu
     clear hu
     go_wp2_with (fail)
     refine (KXM.out trivial _ _ HB9.out HVU.out).mono ?_
     rintro e w44' ⟨rfl,hB⟩
     have HB9:=Lib.hid (below_then HB9.out hB)
     clear hB
     go_wp2_with (fail)
     refine bodyPost_ret (v:=.bool true) (by simp [results,Tryz.results10,go_sem]) rfl ⟨rfl,?_⟩
     have hw:=below_then HW.out HB9.out
     go_grown
     all_goals exact hw.size
   ·have KX3:=Lib.hid (KS3.out rfl rfl)
    clear KS3
    go_wp2_with (fail)
    refine (KX1.out _ HB9.out).mono ?_
    rintro e w45 ⟨rfl,hB⟩
    clear c0 c1 d0 d1 a2
    have HB9:=Lib.hid (below_then HB9.out hB)
    clear hB
    have c0:=heapN_cellj (H7.out.grow HB9.out) (k:=0) rfl
    have c1:=heapN_cellj (H7.out.grow HB9.out) (k:=1) rfl
    have d0:=heapN_cellj (H8.out.grow HB9.out) (k:=0) rfl
    have d1:=heapN_cellj (H8.out.grow HB9.out) (k:=1) rfl
    have a2:=heapN_cellj (HA.out.grow HB9.out) (k:=2) rfl
    go_wp2_with (fail)
    refine (KX2.out _ HB9.out).mono ?_
    rintro e w46 ⟨rfl,hB⟩
    clear c0 c1 d0 d1 a2
    have HB9:=Lib.hid (below_then HB9.out hB)
    clear hB
    have c0:=heapN_cellj (H7.out.grow HB9.out) (k:=0) rfl
    have c1:=heapN_cellj (H7.out.grow HB9.out) (k:=1) rfl
    have d0:=heapN_cellj (H8.out.grow HB9.out) (k:=0) rfl
    have d1:=heapN_cellj (H8.out.grow HB9.out) (k:=1) rfl
    have a2:=heapN_cellj (HA.out.grow HB9.out) (k:=2) rfl
    go_wp2_with (fail)
    refine (KCN9.out _).mono ?_
    rintro e w47 ⟨rfl,hB⟩
    clear c0 c1 d0 d1 a2
    have HB9:=Lib.hid (below_then HB9.out hB)
    clear hB
    have c0:=heapN_cellj (H7.out.grow HB9.out) (k:=0) rfl
    have c1:=heapN_cellj (H7.out.grow HB9.out) (k:=1) rfl
    have d0:=heapN_cellj (H8.out.grow HB9.out) (k:=0) rfl
    have d1:=heapN_cellj (H8.out.grow HB9.out) (k:=1) rfl
    have a2:=heapN_cellj (HA.out.grow HB9.out) (k:=2) rfl
    go_wp2_with (fail)
    refine (KX3.out _ HB9.out).mono ?_
    rintro e w48 ⟨rfl,hB⟩
    clear c0 c1 d0 d1 a2
    have HB9:=Lib.hid (below_then HB9.out hB)
    clear hB
    have c0:=heapN_cellj (H7.out.grow HB9.out) (k:=0) rfl
    have c1:=heapN_cellj (H7.out.grow HB9.out) (k:=1) rfl
    have d0:=heapN_cellj (H8.out.grow HB9.out) (k:=0) rfl
    have d1:=heapN_cellj (H8.out.grow HB9.out) (k:=1) rfl
    have a2:=heapN_cellj (HA.out.grow HB9.out) (k:=2) rfl
    go_wp2_with (fail)
    cases mt with
    | false =>
     refine (KMT.out _).mono ?_
     rintro e w49 ⟨rfl,hB⟩
     clear c0 c1 d0 d1 a2
     have HB9:=Lib.hid (below_then HB9.out hB)
     clear hB
     have c0:=heapN_cellj (H7.out.grow HB9.out) (k:=0) rfl
     have c1:=heapN_cellj (H7.out.grow HB9.out) (k:=1) rfl
     have d0:=heapN_cellj (H8.out.grow HB9.out) (k:=0) rfl
     have d1:=heapN_cellj (H8.out.grow HB9.out) (k:=1) rfl
     have a2:=heapN_cellj (HA.out.grow HB9.out) (k:=2) rfl
     go_wp2_with (fail)
     refine bodyPost_ret (v:=.bool true) (by simp [results,Tryz.results10,go_sem]) rfl ⟨rfl,?_⟩
     have hw:=below_then HW.out HB9.out
     go_grown
     all_goals exact hw.size
    | true =>
     refine (KMT.out _).mono ?_
     rintro e w50 ⟨rfl,hB⟩
     clear c0 c1 d0 d1 a2
     have HB9:=Lib.hid (below_then HB9.out hB)
     clear hB
     have c0:=heapN_cellj (H7.out.grow HB9.out) (k:=0) rfl
     have c1:=heapN_cellj (H7.out.grow HB9.out) (k:=1) rfl
     have d0:=heapN_cellj (H8.out.grow HB9.out) (k:=0) rfl
     have d1:=heapN_cellj (H8.out.grow HB9.out) (k:=1) rfl
     have a2:=heapN_cellj (HA.out.grow HB9.out) (k:=2) rfl
     go_wp2_with (fail)
     refine (KXL.out trivial _ (below_then HB9.out ((Below.refl _ _).alloc (Nat.le_refl _) _))).mono ?_
     rintro e w51 ⟨u,rfl,hu,hB⟩
     clear c0 c1 d0 d1 a2
     have HB9:=Lib.hid (below_then (below_then HB9.out ((Below.refl _ _).alloc (Nat.le_refl _) _)) hB)
     clear hB
     obtain ⟨pu,cu,rfl⟩:=hu.cut
     have HVU:=Lib.hid hu
     clear hu
     go_wp2_with (fail)
     refine (KXM.out trivial _ _ HB9.out HVU.out).mono ?_
     rintro e w51' ⟨rfl,hB⟩
     have HB9:=Lib.hid (below_then HB9.out hB)
     clear hB
     go_wp2_with (fail)
     refine bodyPost_ret (v:=.bool true) (by simp [results,Tryz.results10,go_sem]) rfl ⟨rfl,?_⟩
     have hw:=below_then HW.out HB9.out
     go_grown
     all_goals exact hw.size
end Go.Proofs.YtdfdpghdjlgghaaGreat
