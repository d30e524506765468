/-
 The tape's reference: operand, Valid, for any tape.
-/
import Derived.Test.YtajddejeglhbhaaUC
import Derived.Test.YtajddejeglhbhaaUB
import Derived.Test.YtajddejeglhbhaaRv
namespace Go.Proofs.Ytajddejeglhbhaa
open Go.ChangeShapes Go.WideShapes Go.ChangeAt Go.RowKit
set_option linter.unusedVariables false
set_option linter.unusedSimpArgs false
set_option maxRecDepth 100000
attribute [local irreducible] Calls
def ropB (a i : Int) (u : Bool) : Bool := if u then ixB a i else decide (a = 0)
theorem rop_at (a i : Int) (u r : Bool) (w : World) (h : ropB a i u = r) : Calls Try.prog 54 #[.int .i64 a, .int .i64 i, .bool u] w fun e w' => e = .returned (.bool r) ∧ Below w.heap.size w w' := by
 subst h
 unfold ropB ixB
 cases u with
 | false =>
  by_cases ha : a = 0
  ·subst ha
   rw [if_neg (by decide), decide_eq_true rfl]
   go_enter Try.func54, Try.ntmps54
   go_wp2_with (fail)
   go_ret
   exact ⟨rfl, Below.refl _ _⟩
  ·have e : (a == 0) = false := by simpa using ha
   rw [if_neg (by decide), decide_eq_false ha]
   clear ha
   go_enter Try.func54, Try.ntmps54
   go_wp2_with (fail)
   go_ret
   exact ⟨rfl, Below.refl _ _⟩
 | true =>
  rw [if_pos rfl]
  by_cases ha : 0 ≤ a
  ·have e : decide (a ≥ 0) = true := by simpa using ha
   rw [decide_eq_true ha, Bool.true_and]
   go_enter Try.func54, Try.ntmps54
   go_wp2_with (fail)
   go_ret
   exact ⟨rfl, Below.refl _ _⟩
  ·have e : decide (a ≥ 0) = false := by simpa using ha
   rw [decide_eq_false ha, Bool.false_and]
   go_enter Try.func54, Try.ntmps54
   go_wp2_with (fail)
   go_ret
   exact ⟨rfl, Below.refl _ _⟩
theorem r2same_at (a b c d : Int) (r : Bool) (w : World) (h : ((a == c) && (b == d)) = r) : Calls Try.prog 29 #[.agg #[.int .i64 a, .int .i64 b], .agg #[.int .i64 c, .int .i64 d]] w fun e w' => e = .returned (.bool r) ∧ Below w.heap.size w w' := by
 subst h
 exact r2same a b c d w
set_option maxHeartbeats 32000000 in
theorem rvalid8_ok (n : Int) (vl vo : Value) (L : List Is) (out : List Int) (w : World) (hl : Ix w vl L) (ho : Px w vo out) :
  Calls Try.prog 28 #[.agg #[.int .i64 n, vl, vo]] w fun e w' => e = .returned (.bool (tvB n L out)) ∧ Below w.heap.size w w' := by
 obtain ⟨pl, cl, rfl⟩ := hl.cut
 obtain ⟨po, co, rfl⟩ := ho.cut
 have hba : Below w.heap.size w (w.alloc (.cells #[.int .i64 n, .slice pl L.length cl, .slice po out.length co] 25)) := (Below.refl _ _).alloc (Nat.le_refl _) _
 have hX : (w.alloc (.cells #[.int .i64 n, .slice pl L.length cl, .slice po out.length co] 25)).heap[w.heap.size]? = some (.cells #[.int .i64 n, .slice pl L.length cl, .slice po out.length co] 25 (0, 0)) := World.alloc_heap_new w _
 obtain ⟨R, hR⟩ : ∃ R, tvB n L out = R := ⟨_, rfl⟩
 rw [hR]
 unfold tvB at hR
 have hm := hl.1
 have hmo := ho.1
 unfold maxLen at hm hmo
 by_cases c1 : n < 1
 ·rw [decide_eq_false (by omega), Bool.false_and] at hR
  subst hR
  clear hX hl ho
  go_enter Try.func28, Try.ntmps28
  go_wp2_with (fail)
  go_ret
  exact ⟨rfl, hba⟩
 rw [decide_eq_true (by omega), Bool.true_and] at hR
 by_cases c2 : (6 : Int) < n
 ·rw [decide_eq_false (by omega), Bool.false_and] at hR
  subst hR
  clear hX hl ho
  go_enter Try.func28, Try.ntmps28
  go_wp2_with (fail)
  go_ret
  exact ⟨rfl, hba⟩
 rw [decide_eq_true (by omega), Bool.true_and] at hR
 have c3' : ¬ (400 : Int) < L.length ∨ (400 : Int) < L.length := by omega
 by_cases c3 : (400 : Int) < (L.length : Int)
 ·rw [decide_eq_false (by omega), Bool.false_and] at hR
  subst hR
  clear hX hl ho
  go_enter Try.func28, Try.ntmps28
  go_wp2_with (fail)
  go_ret
  exact ⟨rfl, hba⟩
 rw [decide_eq_true (by omega), Bool.true_and] at hR
 by_cases c4 : (out.length : Int) = n
 case neg =>
  have q4 : ((out.length : Int) == n) = false := by simpa using c4
  rw [decide_eq_false c4, Bool.false_and] at hR
  subst hR
  clear hX hl ho
  go_enter Try.func28, Try.ntmps28
  go_wp2_with (fail)
  go_ret
  exact ⟨rfl, hba⟩
 rw [decide_eq_true c4, Bool.true_and] at hR
 have q4 : ((out.length : Int) == n) = true := by simpa using c4
 have q5 : (n == n) = true := by simp
 have HL := Lib.hid hl
 have HO := Lib.hid ho
 have HX := Lib.hid hX
 have HB := Lib.hid hba
 have HR := Lib.hid hR
 have C4 := Lib.hid c4
 clear hl ho hX hba hR c3' c4
 go_enter Try.func28, Try.ntmps28
 go_wp2_with (fail)
 go_loopw [3] (fun i wr => ∃ k : Nat, i = .int .i64 k ∧ k ≤ L.length ∧ Hid ((vlGo n (L.drop k) k && out.all (fun k => ixB k L.length)) = R) ∧ Below w.heap.size w wr ∧ Hid (wr.heap[w.heap.size]? = some (.cells #[.int .i64 n, .slice pl L.length cl, .slice po out.length co] 25 (0, 0)))) (fun i _ => L.length - (intOf i).toNat)
 case atStart => exact ⟨0, rfl, Nat.zero_le _, HR, HB.out, HX⟩
 case round =>
  clear HX HB HR
  obtain ⟨k, rfl, hk, HR, hB, HX⟩ := hrel
  have x0 : wr.cell? ⟨w.heap.size, 0, none⟩ = some (.int .i64 n) := heapN_cellj HX.out (k := 0) rfl
  have x2 : wr.cell? ⟨w.heap.size, 2, none⟩ = some (.slice po out.length co) := heapN_cellj HX.out (k := 2) rfl
  have x1 : wr.cell? ⟨w.heap.size, 1, none⟩ = some (.slice pl L.length cl) := heapN_cellj HX.out (k := 1) rfl
  have hxs := (Array.getElem?_eq_some_iff.1 HX.out).1
  by_cases hlt : k < L.length
  ·have i2 : (k : Int) < L.length := by omega
   obtain ⟨⟨op, a, b, lo, hi⟩, hx⟩ : ∃ x, L[k]? = some x := ⟨_, List.getElem?_eq_getElem hlt⟩
   obtain ⟨bb, o, rfl, hbs, rd⟩ := is_rd HL.out hx
   obtain ⟨f0, f1, f2, f3, f4⟩ := rd ⟨wr, hB⟩
   dsimp only at f0 f1 f2 f3 f4
   have hd := HR.out
   rw [drop_consG hx] at hd
   unfold vlGo at hd
   have HD := Lib.hid hd
   have XI := Lib.hid (IsC.new wr ⟨op, a, b, lo, hi⟩)
   have bA : Below wr.heap.size wr (wr.alloc (.cells #[.int .i64 op, .int .i64 a, .int .i64 b, .int .i64 lo, .int .i64 hi] 59)) := (Below.refl _ _).alloc (Nat.le_refl _) _
   replace HX := Lib.hid ((bA.block _ hxs).trans HX.out)
   have HB := Lib.hid (hB.trans (bA.mono hB.size))
   have KA := Lib.hid (fun w => rarity_ok op w)
   have hX0 := XI.out.lt
   clear hd rd hx HR bA hB
   by_cases hop : 1 ≤ op ∧ op ≤ 10
   ·rcases raI_cases hop.1 hop.2 with ⟨hop, hr⟩ | ⟨hop, hr⟩ | ⟨hop, hr⟩
    ·rw [hr] at KA
     rcases hop with rfl | rfl | rfl
     ·
      go_wp2_with (fail)
      refine (KA.out _).mono ?_
      rintro e w5 ⟨rfl, hBn⟩
      replace XI := Lib.hid (XI.out.grow hBn)
      replace HX := Lib.hid ((hBn.block _ (Array.getElem?_eq_some_iff.1 HX.out).1).trans HX.out)
      replace HB := Lib.hid (HB.out.trans (hBn.mono HB.out.size))
      clear hBn f0 f1 f2 f3 f4 x0 x1 x2
      have x0 := heapN_cellj HX.out (k := 0) rfl
      have x1 := heapN_cellj HX.out (k := 1) rfl
      have y0 := XI.out.c0
      have y1 := XI.out.c1
      have y2 := XI.out.c2
      have y3 := XI.out.c3
      have y4 := XI.out.c4
      dsimp only at y0 y1 y2 y3 y4
      by_cases hv : VI lo hi
      ·
       go_wp2_with (fail)
       refine (r2valid lo hi true _ (decide_eq_true hv)).mono ?_
       rintro e w6 ⟨rfl, hBn⟩
       replace XI := Lib.hid (XI.out.grow hBn)
       replace HX := Lib.hid ((hBn.block _ (Array.getElem?_eq_some_iff.1 HX.out).1).trans HX.out)
       replace HB := Lib.hid (HB.out.trans (hBn.mono HB.out.size))
       clear hBn x0 x1 y0 y1 y2 y3 y4
       have x0 := heapN_cellj HX.out (k := 0) rfl
       have x1 := heapN_cellj HX.out (k := 1) rfl
       have y0 := XI.out.c0
       have y1 := XI.out.c1
       have y2 := XI.out.c2
       have y3 := XI.out.c3
       have y4 := XI.out.c4
       dsimp only at y0 y1 y2 y3 y4
       by_cases hb : b = 0
       ·replace hb := Lib.hid hb
        go_wp2_with (fail)
        refine (rop_at b k false true _ (by simp [ropB, hb.out])).mono ?_
        rintro e w7 ⟨rfl, hBn⟩
        replace XI := Lib.hid (XI.out.grow hBn)
        replace HX := Lib.hid ((hBn.block _ (Array.getElem?_eq_some_iff.1 HX.out).1).trans HX.out)
        replace HB := Lib.hid (HB.out.trans (hBn.mono HB.out.size))
        clear hBn x0 x1 y0 y1 y2 y3 y4
        have x0 := heapN_cellj HX.out (k := 0) rfl
        have x1 := heapN_cellj HX.out (k := 1) rfl
        have y0 := XI.out.c0
        have y1 := XI.out.c1
        have y2 := XI.out.c2
        have y3 := XI.out.c3
        have y4 := XI.out.c4
        dsimp only at y0 y1 y2 y3 y4
        by_cases ha : a = 0
        ·replace ha := Lib.hid ha
         go_wp2_with (fail)
         refine (rop_at a k false true _ (by simp [ropB, ha.out])).mono ?_
         rintro e w8 ⟨rfl, hBn⟩
         replace XI := Lib.hid (XI.out.grow hBn)
         replace HX := Lib.hid ((hBn.block _ (Array.getElem?_eq_some_iff.1 HX.out).1).trans HX.out)
         replace HB := Lib.hid (HB.out.trans (hBn.mono HB.out.size))
         clear hBn x0 x1 y0 y1 y2 y3 y4
         have x0 := heapN_cellj HX.out (k := 0) rfl
         have x1 := heapN_cellj HX.out (k := 1) rfl
         have y0 := XI.out.c0
         have y1 := XI.out.c1
         have y2 := XI.out.c2
         have y3 := XI.out.c3
         have y4 := XI.out.c4
         dsimp only at y0 y1 y2 y3 y4
         have hT : vinB k n ⟨1, a, b, lo, hi⟩ = true := by
          have hv' := decide_eq_true hv
          simp [vinB, ha.out, hb.out, hv]
         have hd := HD.out
         rw [hT, Bool.true_and] at hd
         have HD2 := Lib.hid hd
         clear hd hT
         go_wp2_with (fail)
         exact ⟨⟨k + 1, by go_num, by omega, HD2, HB.out, HX⟩, by simp [intOf]; omega⟩
        ·
         go_wp2_with (fail)
         refine (rop_at a k false false _ (by simpa [ropB] using ha)).mono ?_
         rintro e w8 ⟨rfl, hBn⟩
         replace XI := Lib.hid (XI.out.grow hBn)
         replace HX := Lib.hid ((hBn.block _ (Array.getElem?_eq_some_iff.1 HX.out).1).trans HX.out)
         replace HB := Lib.hid (HB.out.trans (hBn.mono HB.out.size))
         clear hBn x0 x1 y0 y1 y2 y3 y4
         have x0 := heapN_cellj HX.out (k := 0) rfl
         have x1 := heapN_cellj HX.out (k := 1) rfl
         have y0 := XI.out.c0
         have y1 := XI.out.c1
         have y2 := XI.out.c2
         have y3 := XI.out.c3
         have y4 := XI.out.c4
         dsimp only at y0 y1 y2 y3 y4
         have hT : vinB k n ⟨1, a, b, lo, hi⟩ = false := by
          simp [vinB, ixB, ha]
         have hd := HD.out
         rw [hT] at hd
         simp only [Bool.false_and] at hd
         subst hd
         go_wp2_with (fail)
         go_ret
         exact ⟨rfl, HB.out⟩
       ·
        go_wp2_with (fail)
        refine (rop_at b k false false _ (by simpa [ropB] using hb)).mono ?_
        rintro e w7 ⟨rfl, hBn⟩
        replace XI := Lib.hid (XI.out.grow hBn)
        replace HX := Lib.hid ((hBn.block _ (Array.getElem?_eq_some_iff.1 HX.out).1).trans HX.out)
        replace HB := Lib.hid (HB.out.trans (hBn.mono HB.out.size))
        clear hBn x0 x1 y0 y1 y2 y3 y4
        have x0 := heapN_cellj HX.out (k := 0) rfl
        have x1 := heapN_cellj HX.out (k := 1) rfl
        have y0 := XI.out.c0
        have y1 := XI.out.c1
        have y2 := XI.out.c2
        have y3 := XI.out.c3
        have y4 := XI.out.c4
        dsimp only at y0 y1 y2 y3 y4
        have hT : vinB k n ⟨1, a, b, lo, hi⟩ = false := by
         simp [vinB, ixB, hb]
        have hd := HD.out
        rw [hT] at hd
        simp only [Bool.false_and] at hd
        subst hd
        go_wp2_with (fail)
        go_ret
        exact ⟨rfl, HB.out⟩
      ·
       go_wp2_with (fail)
       refine (r2valid lo hi false _ (decide_eq_false hv)).mono ?_
       rintro e w6 ⟨rfl, hBn⟩
       replace XI := Lib.hid (XI.out.grow hBn)
       replace HX := Lib.hid ((hBn.block _ (Array.getElem?_eq_some_iff.1 HX.out).1).trans HX.out)
       replace HB := Lib.hid (HB.out.trans (hBn.mono HB.out.size))
       clear hBn x0 x1 y0 y1 y2 y3 y4
       have x0 := heapN_cellj HX.out (k := 0) rfl
       have x1 := heapN_cellj HX.out (k := 1) rfl
       have y0 := XI.out.c0
       have y1 := XI.out.c1
       have y2 := XI.out.c2
       have y3 := XI.out.c3
       have y4 := XI.out.c4
       dsimp only at y0 y1 y2 y3 y4
       have hT : vinB k n ⟨1, a, b, lo, hi⟩ = false := by
        simp [vinB, ixB, hv]
       have hd := HD.out
       rw [hT] at hd
       simp only [Bool.false_and] at hd
       subst hd
       go_wp2_with (fail)
       go_ret
       exact ⟨rfl, HB.out⟩
     ·
      go_wp2_with (fail)
      refine (KA.out _).mono ?_
      rintro e w5 ⟨rfl, hBn⟩
      replace XI := Lib.hid (XI.out.grow hBn)
      replace HX := Lib.hid ((hBn.block _ (Array.getElem?_eq_some_iff.1 HX.out).1).trans HX.out)
      replace HB := Lib.hid (HB.out.trans (hBn.mono HB.out.size))
      clear hBn f0 f1 f2 f3 f4 x0 x1 x2
      have x0 := heapN_cellj HX.out (k := 0) rfl
      have x1 := heapN_cellj HX.out (k := 1) rfl
      have y0 := XI.out.c0
      have y1 := XI.out.c1
      have y2 := XI.out.c2
      have y3 := XI.out.c3
      have y4 := XI.out.c4
      dsimp only at y0 y1 y2 y3 y4
      by_cases hs : lo = 0 ∧ hi = 0
      ·replace hs := Lib.hid hs
       go_wp2_with (fail)
       refine (r2same_at lo hi 0 0 true _ (by simp [hs.out.1, hs.out.2])).mono ?_
       rintro e w6 ⟨rfl, hBn⟩
       replace XI := Lib.hid (XI.out.grow hBn)
       replace HX := Lib.hid ((hBn.block _ (Array.getElem?_eq_some_iff.1 HX.out).1).trans HX.out)
       replace HB := Lib.hid (HB.out.trans (hBn.mono HB.out.size))
       clear hBn x0 x1 y0 y1 y2 y3 y4
       have x0 := heapN_cellj HX.out (k := 0) rfl
       have x1 := heapN_cellj HX.out (k := 1) rfl
       have y0 := XI.out.c0
       have y1 := XI.out.c1
       have y2 := XI.out.c2
       have y3 := XI.out.c3
       have y4 := XI.out.c4
       dsimp only at y0 y1 y2 y3 y4
       by_cases hb : b = 0
       ·replace hb := Lib.hid hb
        go_wp2_with (fail)
        refine (rop_at b k false true _ (by simp [ropB, hb.out])).mono ?_
        rintro e w7 ⟨rfl, hBn⟩
        replace XI := Lib.hid (XI.out.grow hBn)
        replace HX := Lib.hid ((hBn.block _ (Array.getElem?_eq_some_iff.1 HX.out).1).trans HX.out)
        replace HB := Lib.hid (HB.out.trans (hBn.mono HB.out.size))
        clear hBn x0 x1 y0 y1 y2 y3 y4
        have x0 := heapN_cellj HX.out (k := 0) rfl
        have x1 := heapN_cellj HX.out (k := 1) rfl
        have y0 := XI.out.c0
        have y1 := XI.out.c1
        have y2 := XI.out.c2
        have y3 := XI.out.c3
        have y4 := XI.out.c4
        dsimp only at y0 y1 y2 y3 y4
        by_cases ha : a < 0
        ·
         have hT : vinB k n ⟨2, a, b, lo, hi⟩ = false := by
          simp [vinB, ixB]
          omega
         have hd := HD.out
         rw [hT] at hd
         simp only [Bool.false_and] at hd
         subst hd
         go_wp2_with (fail)
         go_ret
         exact ⟨rfl, HB.out⟩
        ·
         by_cases hg : a ≥ n
         ·
          have hT : vinB k n ⟨2, a, b, lo, hi⟩ = false := by
           simp [vinB, ixB]
           omega
          have hd := HD.out
          rw [hT] at hd
          simp only [Bool.false_and] at hd
          subst hd
          go_wp2_with (fail)
          go_ret
          exact ⟨rfl, HB.out⟩
         ·
          have hT : vinB k n ⟨2, a, b, lo, hi⟩ = true := by
           simp [vinB, ixB, hb.out, hs.out.1, hs.out.2]
           omega
          have hd := HD.out
          rw [hT, Bool.true_and] at hd
          have HD2 := Lib.hid hd
          clear hd hT
          go_wp2_with (fail)
          exact ⟨⟨k + 1, by go_num, by omega, HD2, HB.out, HX⟩, by simp [intOf]; omega⟩
       ·
        go_wp2_with (fail)
        refine (rop_at b k false false _ (by simpa [ropB] using hb)).mono ?_
        rintro e w7 ⟨rfl, hBn⟩
        replace XI := Lib.hid (XI.out.grow hBn)
        replace HX := Lib.hid ((hBn.block _ (Array.getElem?_eq_some_iff.1 HX.out).1).trans HX.out)
        replace HB := Lib.hid (HB.out.trans (hBn.mono HB.out.size))
        clear hBn x0 x1 y0 y1 y2 y3 y4
        have x0 := heapN_cellj HX.out (k := 0) rfl
        have x1 := heapN_cellj HX.out (k := 1) rfl
        have y0 := XI.out.c0
        have y1 := XI.out.c1
        have y2 := XI.out.c2
        have y3 := XI.out.c3
        have y4 := XI.out.c4
        dsimp only at y0 y1 y2 y3 y4
        have hT : vinB k n ⟨2, a, b, lo, hi⟩ = false := by
         simp [vinB, ixB, hb]
        have hd := HD.out
        rw [hT] at hd
        simp only [Bool.false_and] at hd
        subst hd
        go_wp2_with (fail)
        go_ret
        exact ⟨rfl, HB.out⟩
      ·
       go_wp2_with (fail)
       refine (r2same_at lo hi 0 0 false _ (by simp; omega)).mono ?_
       rintro e w6 ⟨rfl, hBn⟩
       replace XI := Lib.hid (XI.out.grow hBn)
       replace HX := Lib.hid ((hBn.block _ (Array.getElem?_eq_some_iff.1 HX.out).1).trans HX.out)
       replace HB := Lib.hid (HB.out.trans (hBn.mono HB.out.size))
       clear hBn x0 x1 y0 y1 y2 y3 y4
       have x0 := heapN_cellj HX.out (k := 0) rfl
       have x1 := heapN_cellj HX.out (k := 1) rfl
       have y0 := XI.out.c0
       have y1 := XI.out.c1
       have y2 := XI.out.c2
       have y3 := XI.out.c3
       have y4 := XI.out.c4
       dsimp only at y0 y1 y2 y3 y4
       have hT : vinB k n ⟨2, a, b, lo, hi⟩ = false := by
        simp [vinB, ixB]
        omega
       have hd := HD.out
       rw [hT] at hd
       simp only [Bool.false_and] at hd
       subst hd
       go_wp2_with (fail)
       go_ret
       exact ⟨rfl, HB.out⟩
     ·
      go_wp2_with (fail)
      refine (KA.out _).mono ?_
      rintro e w5 ⟨rfl, hBn⟩
      replace XI := Lib.hid (XI.out.grow hBn)
      replace HX := Lib.hid ((hBn.block _ (Array.getElem?_eq_some_iff.1 HX.out).1).trans HX.out)
      replace HB := Lib.hid (HB.out.trans (hBn.mono HB.out.size))
      clear hBn f0 f1 f2 f3 f4 x0 x1 x2
      have x0 := heapN_cellj HX.out (k := 0) rfl
      have x1 := heapN_cellj HX.out (k := 1) rfl
      have y0 := XI.out.c0
      have y1 := XI.out.c1
      have y2 := XI.out.c2
      have y3 := XI.out.c3
      have y4 := XI.out.c4
      dsimp only at y0 y1 y2 y3 y4
      by_cases hs : lo = 0 ∧ hi = 0
      ·replace hs := Lib.hid hs
       go_wp2_with (fail)
       refine (r2same_at lo hi 0 0 true _ (by simp [hs.out.1, hs.out.2])).mono ?_
       rintro e w6 ⟨rfl, hBn⟩
       replace XI := Lib.hid (XI.out.grow hBn)
       replace HX := Lib.hid ((hBn.block _ (Array.getElem?_eq_some_iff.1 HX.out).1).trans HX.out)
       replace HB := Lib.hid (HB.out.trans (hBn.mono HB.out.size))
       clear hBn x0 x1 y0 y1 y2 y3 y4
       have x0 := heapN_cellj HX.out (k := 0) rfl
       have x1 := heapN_cellj HX.out (k := 1) rfl
       have y0 := XI.out.c0
       have y1 := XI.out.c1
       have y2 := XI.out.c2
       have y3 := XI.out.c3
       have y4 := XI.out.c4
       dsimp only at y0 y1 y2 y3 y4
       by_cases hb : b = 0
       ·replace hb := Lib.hid hb
        go_wp2_with (fail)
        refine (rop_at b k false true _ (by simp [ropB, hb.out])).mono ?_
        rintro e w7 ⟨rfl, hBn⟩
        replace XI := Lib.hid (XI.out.grow hBn)
        replace HX := Lib.hid ((hBn.block _ (Array.getElem?_eq_some_iff.1 HX.out).1).trans HX.out)
        replace HB := Lib.hid (HB.out.trans (hBn.mono HB.out.size))
        clear hBn x0 x1 y0 y1 y2 y3 y4
        have x0 := heapN_cellj HX.out (k := 0) rfl
        have x1 := heapN_cellj HX.out (k := 1) rfl
        have y0 := XI.out.c0
        have y1 := XI.out.c1
        have y2 := XI.out.c2
        have y3 := XI.out.c3
        have y4 := XI.out.c4
        dsimp only at y0 y1 y2 y3 y4
        by_cases ha : a = 0
        ·replace ha := Lib.hid ha
         go_wp2_with (fail)
         refine (rop_at a k false true _ (by simp [ropB, ha.out])).mono ?_
         rintro e w8 ⟨rfl, hBn⟩
         replace XI := Lib.hid (XI.out.grow hBn)
         replace HX := Lib.hid ((hBn.block _ (Array.getElem?_eq_some_iff.1 HX.out).1).trans HX.out)
         replace HB := Lib.hid (HB.out.trans (hBn.mono HB.out.size))
         clear hBn x0 x1 y0 y1 y2 y3 y4
         have x0 := heapN_cellj HX.out (k := 0) rfl
         have x1 := heapN_cellj HX.out (k := 1) rfl
         have y0 := XI.out.c0
         have y1 := XI.out.c1
         have y2 := XI.out.c2
         have y3 := XI.out.c3
         have y4 := XI.out.c4
         dsimp only at y0 y1 y2 y3 y4
         have hT : vinB k n ⟨3, a, b, lo, hi⟩ = true := by
          simp [vinB, ha.out, hb.out, hs.out.1, hs.out.2]
         have hd := HD.out
         rw [hT, Bool.true_and] at hd
         have HD2 := Lib.hid hd
         clear hd hT
         go_wp2_with (fail)
         exact ⟨⟨k + 1, by go_num, by omega, HD2, HB.out, HX⟩, by simp [intOf]; omega⟩
        ·
         go_wp2_with (fail)
         refine (rop_at a k false false _ (by simpa [ropB] using ha)).mono ?_
         rintro e w8 ⟨rfl, hBn⟩
         replace XI := Lib.hid (XI.out.grow hBn)
         replace HX := Lib.hid ((hBn.block _ (Array.getElem?_eq_some_iff.1 HX.out).1).trans HX.out)
         replace HB := Lib.hid (HB.out.trans (hBn.mono HB.out.size))
         clear hBn x0 x1 y0 y1 y2 y3 y4
         have x0 := heapN_cellj HX.out (k := 0) rfl
         have x1 := heapN_cellj HX.out (k := 1) rfl
         have y0 := XI.out.c0
         have y1 := XI.out.c1
         have y2 := XI.out.c2
         have y3 := XI.out.c3
         have y4 := XI.out.c4
         dsimp only at y0 y1 y2 y3 y4
         have hT : vinB k n ⟨3, a, b, lo, hi⟩ = false := by
          simp [vinB, ixB, ha]
         have hd := HD.out
         rw [hT] at hd
         simp only [Bool.false_and] at hd
         subst hd
         go_wp2_with (fail)
         go_ret
         exact ⟨rfl, HB.out⟩
       ·
        go_wp2_with (fail)
        refine (rop_at b k false false _ (by simpa [ropB] using hb)).mono ?_
        rintro e w7 ⟨rfl, hBn⟩
        replace XI := Lib.hid (XI.out.grow hBn)
        replace HX := Lib.hid ((hBn.block _ (Array.getElem?_eq_some_iff.1 HX.out).1).trans HX.out)
        replace HB := Lib.hid (HB.out.trans (hBn.mono HB.out.size))
        clear hBn x0 x1 y0 y1 y2 y3 y4
        have x0 := heapN_cellj HX.out (k := 0) rfl
        have x1 := heapN_cellj HX.out (k := 1) rfl
        have y0 := XI.out.c0
        have y1 := XI.out.c1
        have y2 := XI.out.c2
        have y3 := XI.out.c3
        have y4 := XI.out.c4
        dsimp only at y0 y1 y2 y3 y4
        have hT : vinB k n ⟨3, a, b, lo, hi⟩ = false := by
         simp [vinB, ixB, hb]
        have hd := HD.out
        rw [hT] at hd
        simp only [Bool.false_and] at hd
        subst hd
        go_wp2_with (fail)
        go_ret
        exact ⟨rfl, HB.out⟩
      ·
       go_wp2_with (fail)
       refine (r2same_at lo hi 0 0 false _ (by simp; omega)).mono ?_
       rintro e w6 ⟨rfl, hBn⟩
       replace XI := Lib.hid (XI.out.grow hBn)
       replace HX := Lib.hid ((hBn.block _ (Array.getElem?_eq_some_iff.1 HX.out).1).trans HX.out)
       replace HB := Lib.hid (HB.out.trans (hBn.mono HB.out.size))
       clear hBn x0 x1 y0 y1 y2 y3 y4
       have x0 := heapN_cellj HX.out (k := 0) rfl
       have x1 := heapN_cellj HX.out (k := 1) rfl
       have y0 := XI.out.c0
       have y1 := XI.out.c1
       have y2 := XI.out.c2
       have y3 := XI.out.c3
       have y4 := XI.out.c4
       dsimp only at y0 y1 y2 y3 y4
       have hT : vinB k n ⟨3, a, b, lo, hi⟩ = false := by
        simp [vinB]
        omega
       have hd := HD.out
       rw [hT] at hd
       simp only [Bool.false_and] at hd
       subst hd
       go_wp2_with (fail)
       go_ret
       exact ⟨rfl, HB.out⟩
    ·rw [hr] at KA
     have e1 : (op == 1) = false := by simp; omega
     have e2 : (op == 2) = false := by simp; omega
     go_wp2_with (fail)
     refine (KA.out _).mono ?_
     rintro e w5 ⟨rfl, hBn⟩
     replace XI := Lib.hid (XI.out.grow hBn)
     replace HX := Lib.hid ((hBn.block _ (Array.getElem?_eq_some_iff.1 HX.out).1).trans HX.out)
     replace HB := Lib.hid (HB.out.trans (hBn.mono HB.out.size))
     clear hBn f0 f1 f2 f3 f4 x0 x1 x2
     have x0 := heapN_cellj HX.out (k := 0) rfl
     have x1 := heapN_cellj HX.out (k := 1) rfl
     have y0 := XI.out.c0
     have y1 := XI.out.c1
     have y2 := XI.out.c2
     have y3 := XI.out.c3
     have y4 := XI.out.c4
     dsimp only at y0 y1 y2 y3 y4
     by_cases hs : lo = 0 ∧ hi = 0
     ·replace hs := Lib.hid hs
      go_wp2_with (fail)
      refine (r2same_at lo hi 0 0 true _ (by simp [hs.out.1, hs.out.2])).mono ?_
      rintro e w6 ⟨rfl, hBn⟩
      replace XI := Lib.hid (XI.out.grow hBn)
      replace HX := Lib.hid ((hBn.block _ (Array.getElem?_eq_some_iff.1 HX.out).1).trans HX.out)
      replace HB := Lib.hid (HB.out.trans (hBn.mono HB.out.size))
      clear hBn x0 x1 y0 y1 y2 y3 y4
      have x0 := heapN_cellj HX.out (k := 0) rfl
      have x1 := heapN_cellj HX.out (k := 1) rfl
      have y0 := XI.out.c0
      have y1 := XI.out.c1
      have y2 := XI.out.c2
      have y3 := XI.out.c3
      have y4 := XI.out.c4
      dsimp only at y0 y1 y2 y3 y4
      by_cases hb : b = 0
      ·replace hb := Lib.hid hb
       go_wp2_with (fail)
       refine (rop_at b k false true _ (by simp [ropB, hb.out])).mono ?_
       rintro e w7 ⟨rfl, hBn⟩
       replace XI := Lib.hid (XI.out.grow hBn)
       replace HX := Lib.hid ((hBn.block _ (Array.getElem?_eq_some_iff.1 HX.out).1).trans HX.out)
       replace HB := Lib.hid (HB.out.trans (hBn.mono HB.out.size))
       clear hBn x0 x1 y0 y1 y2 y3 y4
       have x0 := heapN_cellj HX.out (k := 0) rfl
       have x1 := heapN_cellj HX.out (k := 1) rfl
       have y0 := XI.out.c0
       have y1 := XI.out.c1
       have y2 := XI.out.c2
       have y3 := XI.out.c3
       have y4 := XI.out.c4
       dsimp only at y0 y1 y2 y3 y4
       by_cases ha : ixB a k = true
       ·
        go_wp2_with (fail)
        refine (rop_at a k true true _ ha).mono ?_
        rintro e w8 ⟨rfl, hBn⟩
        replace XI := Lib.hid (XI.out.grow hBn)
        replace HX := Lib.hid ((hBn.block _ (Array.getElem?_eq_some_iff.1 HX.out).1).trans HX.out)
        replace HB := Lib.hid (HB.out.trans (hBn.mono HB.out.size))
        clear hBn x0 x1 y0 y1 y2 y3 y4
        have x0 := heapN_cellj HX.out (k := 0) rfl
        have x1 := heapN_cellj HX.out (k := 1) rfl
        have y0 := XI.out.c0
        have y1 := XI.out.c1
        have y2 := XI.out.c2
        have y3 := XI.out.c3
        have y4 := XI.out.c4
        dsimp only at y0 y1 y2 y3 y4
        have hT : vinB k n ⟨op, a, b, lo, hi⟩ = true := by
         unfold vinB
         dsimp only
         rw [if_neg (by omega), if_neg (by omega), if_neg (by omega), if_pos hop]
         simp [ha, hb.out, hs.out.1, hs.out.2]
        have hd := HD.out
        rw [hT, Bool.true_and] at hd
        have HD2 := Lib.hid hd
        clear hd hT
        go_wp2_with (fail)
        exact ⟨⟨k + 1, by go_num, by omega, HD2, HB.out, HX⟩, by simp [intOf]; omega⟩
       ·have ha : ixB a k = false := by simpa using ha
        go_wp2_with (fail)
        refine (rop_at a k true false _ ha).mono ?_
        rintro e w8 ⟨rfl, hBn⟩
        replace XI := Lib.hid (XI.out.grow hBn)
        replace HX := Lib.hid ((hBn.block _ (Array.getElem?_eq_some_iff.1 HX.out).1).trans HX.out)
        replace HB := Lib.hid (HB.out.trans (hBn.mono HB.out.size))
        clear hBn x0 x1 y0 y1 y2 y3 y4
        have x0 := heapN_cellj HX.out (k := 0) rfl
        have x1 := heapN_cellj HX.out (k := 1) rfl
        have y0 := XI.out.c0
        have y1 := XI.out.c1
        have y2 := XI.out.c2
        have y3 := XI.out.c3
        have y4 := XI.out.c4
        dsimp only at y0 y1 y2 y3 y4
        have hT : vinB k n ⟨op, a, b, lo, hi⟩ = false := by
         unfold vinB
         dsimp only
         rw [if_neg (by omega), if_neg (by omega), if_neg (by omega), if_pos hop]
         simp [ha]
        have hd := HD.out
        rw [hT] at hd
        simp only [Bool.false_and] at hd
        subst hd
        go_wp2_with (fail)
        go_ret
        exact ⟨rfl, HB.out⟩
      ·
       go_wp2_with (fail)
       refine (rop_at b k false false _ (by simpa [ropB] using hb)).mono ?_
       rintro e w7 ⟨rfl, hBn⟩
       replace XI := Lib.hid (XI.out.grow hBn)
       replace HX := Lib.hid ((hBn.block _ (Array.getElem?_eq_some_iff.1 HX.out).1).trans HX.out)
       replace HB := Lib.hid (HB.out.trans (hBn.mono HB.out.size))
       clear hBn x0 x1 y0 y1 y2 y3 y4
       have x0 := heapN_cellj HX.out (k := 0) rfl
       have x1 := heapN_cellj HX.out (k := 1) rfl
       have y0 := XI.out.c0
       have y1 := XI.out.c1
       have y2 := XI.out.c2
       have y3 := XI.out.c3
       have y4 := XI.out.c4
       dsimp only at y0 y1 y2 y3 y4
       have hT : vinB k n ⟨op, a, b, lo, hi⟩ = false := by
        unfold vinB
        dsimp only
        rw [if_neg (by omega), if_neg (by omega), if_neg (by omega), if_pos hop]
        simp [hb]
       have hd := HD.out
       rw [hT] at hd
       simp only [Bool.false_and] at hd
       subst hd
       go_wp2_with (fail)
       go_ret
       exact ⟨rfl, HB.out⟩
     ·
      go_wp2_with (fail)
      refine (r2same_at lo hi 0 0 false _ (by simp; omega)).mono ?_
      rintro e w6 ⟨rfl, hBn⟩
      replace XI := Lib.hid (XI.out.grow hBn)
      replace HX := Lib.hid ((hBn.block _ (Array.getElem?_eq_some_iff.1 HX.out).1).trans HX.out)
      replace HB := Lib.hid (HB.out.trans (hBn.mono HB.out.size))
      clear hBn x0 x1 y0 y1 y2 y3 y4
      have x0 := heapN_cellj HX.out (k := 0) rfl
      have x1 := heapN_cellj HX.out (k := 1) rfl
      have y0 := XI.out.c0
      have y1 := XI.out.c1
      have y2 := XI.out.c2
      have y3 := XI.out.c3
      have y4 := XI.out.c4
      dsimp only at y0 y1 y2 y3 y4
      have hT : vinB k n ⟨op, a, b, lo, hi⟩ = false := by
       unfold vinB
       dsimp only
       rw [if_neg (by omega), if_neg (by omega), if_neg (by omega), if_pos hop]
       simp
       omega
      have hd := HD.out
      rw [hT] at hd
      simp only [Bool.false_and] at hd
      subst hd
      go_wp2_with (fail)
      go_ret
      exact ⟨rfl, HB.out⟩
    ·rw [hr] at KA
     have e1 : (op == 1) = false := by simp; omega
     have e2 : (op == 2) = false := by simp; omega
     go_wp2_with (fail)
     refine (KA.out _).mono ?_
     rintro e w5 ⟨rfl, hBn⟩
     replace XI := Lib.hid (XI.out.grow hBn)
     replace HX := Lib.hid ((hBn.block _ (Array.getElem?_eq_some_iff.1 HX.out).1).trans HX.out)
     replace HB := Lib.hid (HB.out.trans (hBn.mono HB.out.size))
     clear hBn f0 f1 f2 f3 f4 x0 x1 x2
     have x0 := heapN_cellj HX.out (k := 0) rfl
     have x1 := heapN_cellj HX.out (k := 1) rfl
     have y0 := XI.out.c0
     have y1 := XI.out.c1
     have y2 := XI.out.c2
     have y3 := XI.out.c3
     have y4 := XI.out.c4
     dsimp only at y0 y1 y2 y3 y4
     by_cases hs : lo = 0 ∧ hi = 0
     ·replace hs := Lib.hid hs
      go_wp2_with (fail)
      refine (r2same_at lo hi 0 0 true _ (by simp [hs.out.1, hs.out.2])).mono ?_
      rintro e w6 ⟨rfl, hBn⟩
      replace XI := Lib.hid (XI.out.grow hBn)
      replace HX := Lib.hid ((hBn.block _ (Array.getElem?_eq_some_iff.1 HX.out).1).trans HX.out)
      replace HB := Lib.hid (HB.out.trans (hBn.mono HB.out.size))
      clear hBn x0 x1 y0 y1 y2 y3 y4
      have x0 := heapN_cellj HX.out (k := 0) rfl
      have x1 := heapN_cellj HX.out (k := 1) rfl
      have y0 := XI.out.c0
      have y1 := XI.out.c1
      have y2 := XI.out.c2
      have y3 := XI.out.c3
      have y4 := XI.out.c4
      dsimp only at y0 y1 y2 y3 y4
      by_cases hb : ixB b k = true
      ·
       go_wp2_with (fail)
       refine (rop_at b k true true _ hb).mono ?_
       rintro e w7 ⟨rfl, hBn⟩
       replace XI := Lib.hid (XI.out.grow hBn)
       replace HX := Lib.hid ((hBn.block _ (Array.getElem?_eq_some_iff.1 HX.out).1).trans HX.out)
       replace HB := Lib.hid (HB.out.trans (hBn.mono HB.out.size))
       clear hBn x0 x1 y0 y1 y2 y3 y4
       have x0 := heapN_cellj HX.out (k := 0) rfl
       have x1 := heapN_cellj HX.out (k := 1) rfl
       have y0 := XI.out.c0
       have y1 := XI.out.c1
       have y2 := XI.out.c2
       have y3 := XI.out.c3
       have y4 := XI.out.c4
       dsimp only at y0 y1 y2 y3 y4
       by_cases ha : ixB a k = true
       ·
        go_wp2_with (fail)
        refine (rop_at a k true true _ ha).mono ?_
        rintro e w8 ⟨rfl, hBn⟩
        replace XI := Lib.hid (XI.out.grow hBn)
        replace HX := Lib.hid ((hBn.block _ (Array.getElem?_eq_some_iff.1 HX.out).1).trans HX.out)
        replace HB := Lib.hid (HB.out.trans (hBn.mono HB.out.size))
        clear hBn x0 x1 y0 y1 y2 y3 y4
        have x0 := heapN_cellj HX.out (k := 0) rfl
        have x1 := heapN_cellj HX.out (k := 1) rfl
        have y0 := XI.out.c0
        have y1 := XI.out.c1
        have y2 := XI.out.c2
        have y3 := XI.out.c3
        have y4 := XI.out.c4
        dsimp only at y0 y1 y2 y3 y4
        have hT : vinB k n ⟨op, a, b, lo, hi⟩ = true := by
         unfold vinB
         dsimp only
         rw [if_neg (by omega), if_neg (by omega), if_neg (by omega), if_neg (by omega), if_pos hop]
         simp [ha, hb, hs.out.1, hs.out.2]
        have hd := HD.out
        rw [hT, Bool.true_and] at hd
        have HD2 := Lib.hid hd
        clear hd hT
        go_wp2_with (fail)
        exact ⟨⟨k + 1, by go_num, by omega, HD2, HB.out, HX⟩, by simp [intOf]; omega⟩
       ·have ha : ixB a k = false := by simpa using ha
        go_wp2_with (fail)
        refine (rop_at a k true false _ ha).mono ?_
        rintro e w8 ⟨rfl, hBn⟩
        replace XI := Lib.hid (XI.out.grow hBn)
        replace HX := Lib.hid ((hBn.block _ (Array.getElem?_eq_some_iff.1 HX.out).1).trans HX.out)
        replace HB := Lib.hid (HB.out.trans (hBn.mono HB.out.size))
        clear hBn x0 x1 y0 y1 y2 y3 y4
        have x0 := heapN_cellj HX.out (k := 0) rfl
        have x1 := heapN_cellj HX.out (k := 1) rfl
        have y0 := XI.out.c0
        have y1 := XI.out.c1
        have y2 := XI.out.c2
        have y3 := XI.out.c3
        have y4 := XI.out.c4
        dsimp only at y0 y1 y2 y3 y4
        have hT : vinB k n ⟨op, a, b, lo, hi⟩ = false := by
         unfold vinB
         dsimp only
         rw [if_neg (by omega), if_neg (by omega), if_neg (by omega), if_neg (by omega), if_pos hop]
         simp [ha]
        have hd := HD.out
        rw [hT] at hd
        simp only [Bool.false_and] at hd
        subst hd
        go_wp2_with (fail)
        go_ret
        exact ⟨rfl, HB.out⟩
      ·have hb : ixB b k = false := by simpa using hb
       go_wp2_with (fail)
       refine (rop_at b k true false _ hb).mono ?_
       rintro e w7 ⟨rfl, hBn⟩
       replace XI := Lib.hid (XI.out.grow hBn)
       replace HX := Lib.hid ((hBn.block _ (Array.getElem?_eq_some_iff.1 HX.out).1).trans HX.out)
       replace HB := Lib.hid (HB.out.trans (hBn.mono HB.out.size))
       clear hBn x0 x1 y0 y1 y2 y3 y4
       have x0 := heapN_cellj HX.out (k := 0) rfl
       have x1 := heapN_cellj HX.out (k := 1) rfl
       have y0 := XI.out.c0
       have y1 := XI.out.c1
       have y2 := XI.out.c2
       have y3 := XI.out.c3
       have y4 := XI.out.c4
       dsimp only at y0 y1 y2 y3 y4
       have hT : vinB k n ⟨op, a, b, lo, hi⟩ = false := by
        unfold vinB
        dsimp only
        rw [if_neg (by omega), if_neg (by omega), if_neg (by omega), if_neg (by omega), if_pos hop]
        simp [hb]
       have hd := HD.out
       rw [hT] at hd
       simp only [Bool.false_and] at hd
       subst hd
       go_wp2_with (fail)
       go_ret
       exact ⟨rfl, HB.out⟩
     ·
      go_wp2_with (fail)
      refine (r2same_at lo hi 0 0 false _ (by simp; omega)).mono ?_
      rintro e w6 ⟨rfl, hBn⟩
      replace XI := Lib.hid (XI.out.grow hBn)
      replace HX := Lib.hid ((hBn.block _ (Array.getElem?_eq_some_iff.1 HX.out).1).trans HX.out)
      replace HB := Lib.hid (HB.out.trans (hBn.mono HB.out.size))
      clear hBn x0 x1 y0 y1 y2 y3 y4
      have x0 := heapN_cellj HX.out (k := 0) rfl
      have x1 := heapN_cellj HX.out (k := 1) rfl
      have y0 := XI.out.c0
      have y1 := XI.out.c1
      have y2 := XI.out.c2
      have y3 := XI.out.c3
      have y4 := XI.out.c4
      dsimp only at y0 y1 y2 y3 y4
      have hT : vinB k n ⟨op, a, b, lo, hi⟩ = false := by
       unfold vinB
       dsimp only
       rw [if_neg (by omega), if_neg (by omega), if_neg (by omega), if_neg (by omega), if_pos hop]
       simp
       omega
      have hd := HD.out
      rw [hT] at hd
      simp only [Bool.false_and] at hd
      subst hd
      go_wp2_with (fail)
      go_ret
      exact ⟨rfl, HB.out⟩
   ·have hr : raI op = -1 := by unfold raI; rw [if_neg (by omega), if_neg (by omega), if_neg (by omega)]
    rw [hr] at KA
    go_wp2_with (fail)
    refine (KA.out _).mono ?_
    rintro e w5 ⟨rfl, hBn⟩
    replace XI := Lib.hid (XI.out.grow hBn)
    replace HX := Lib.hid ((hBn.block _ (Array.getElem?_eq_some_iff.1 HX.out).1).trans HX.out)
    replace HB := Lib.hid (HB.out.trans (hBn.mono HB.out.size))
    clear hBn f0 f1 f2 f3 f4 x0 x1 x2
    have x0 := heapN_cellj HX.out (k := 0) rfl
    have x1 := heapN_cellj HX.out (k := 1) rfl
    have y0 := XI.out.c0
    have y1 := XI.out.c1
    have y2 := XI.out.c2
    have y3 := XI.out.c3
    have y4 := XI.out.c4
    dsimp only at y0 y1 y2 y3 y4
    have hT : vinB k n ⟨op, a, b, lo, hi⟩ = false := by
     unfold vinB
     dsimp only
     rw [if_neg (by omega), if_neg (by omega), if_neg (by omega), if_neg (by omega), if_neg (by omega)]
    have hd := HD.out
    rw [hT] at hd
    simp only [Bool.false_and] at hd
    subst hd
    go_wp2_with (fail)
    go_ret
    exact ⟨rfl, HB.out⟩
  ·obtain rfl : k = L.length := by omega
   have i2 : ¬ (L.length : Int) < L.length := by omega
   have hd := HR.out
   rw [List.drop_length] at hd
   unfold vlGo at hd
   rw [Bool.true_and] at hd
   have HR2 := Lib.hid hd
   have HBr := Lib.hid hB
   clear hd HR hB
   go_wp2_with (fail)
   go_loopw [6] (fun i wr => ∃ k : Nat, i = .int .i64 k ∧ k ≤ out.length ∧ Hid ((out.drop k).all (fun k => ixB k L.length) = R) ∧ Below w.heap.size w wr ∧ Hid (wr.heap[w.heap.size]? = some (.cells #[.int .i64 n, .slice pl L.length cl, .slice po out.length co] 25 (0, 0)))) (fun i _ => out.length - (intOf i).toNat)
   case atStart => exact ⟨0, rfl, Nat.zero_le _, HR2, HBr.out, HX⟩
   case round =>
    clear HX HBr HR2 x0 x1 x2 hxs
    obtain ⟨k, rfl, hk, HR, hB, HX⟩ := hrel
    have x1 : wr.cell? ⟨w.heap.size, 1, none⟩ = some (.slice pl L.length cl) := heapN_cellj HX.out (k := 1) rfl
    have x2 : wr.cell? ⟨w.heap.size, 2, none⟩ = some (.slice po out.length co) := heapN_cellj HX.out (k := 2) rfl
    by_cases hlt : k < out.length
    ·have i3 : (k : Int) < out.length := by omega
     obtain ⟨y, hx⟩ : ∃ x, out[k]? = some x := ⟨_, List.getElem?_eq_getElem hlt⟩
     obtain ⟨bb, o, rfl, hbs, rd⟩ := px_rd HO.out hx
     have f0 := rd ⟨wr, hB⟩
     dsimp only at f0
     have hd := HR.out
     rw [drop_consG hx, List.all_cons] at hd
     have HD := Lib.hid hd
     clear hd rd hx HR
     by_cases h1 : y < 0
     ·have hT : ixB y L.length = false := by simp [ixB]; omega
      have hd := HD.out
      rw [hT, Bool.false_and] at hd
      subst hd
      clear hT
      go_wp2_with (fail)
      go_region
      go_wp2_with (fail)
      go_ret
      exact ⟨rfl, hB.drew⟩
     ·have e1 : decide (y < 0) = false := by simpa using h1
      by_cases h2 : y ≥ L.length
      ·have e2 : decide (y ≥ L.length) = true := by simpa using h2
       have hT : ixB y L.length = false := by simp [ixB]; omega
       have hd := HD.out
       rw [hT, Bool.false_and] at hd
       subst hd
       clear hT
       go_wp2_with (fail)
       go_region
       go_wp2_with (fail)
       go_ret
       exact ⟨rfl, hB.drew⟩
      ·have e2 : decide (y ≥ L.length) = false := by simpa using h2
       have hT : ixB y L.length = true := by simp [ixB]; omega
       have hd := HD.out
       rw [hT, Bool.true_and] at hd
       have HD2 := Lib.hid hd
       clear hd hT HD
       go_wp2_with (fail)
       go_region
       go_wp2_with (fail)
       exact ⟨⟨k + 1, by go_num, by omega, HD2, hB.drew, HX⟩, by simp [intOf]; omega⟩
    ·obtain rfl : k = out.length := by omega
     have i3 : ¬ (out.length : Int) < out.length := by omega
     have hd := HR.out
     rw [List.drop_length] at hd
     simp only [List.all_nil] at hd
     subst hd
     clear HR
     go_wp2_with (fail)
     go_ret
     exact ⟨rfl, hB⟩
end Go.Proofs.Ytajddejeglhbhaa
