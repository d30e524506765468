/-
  Package poly: compare, even, haveNumbers, plus, joined, termRange, roundingError.
-/
import Derived.Test.YthakeeinhgfbbaaGreatTp
import Derived.Test.YthakeeinhgfbbaaGreatIw7
import Derived.Test.YthakeeinhgfbbaaGreatIw8
import Derived.BigQuiet
import Derived.Sort.Grow
namespace Go.Proofs.YthakeeinhgfbbaaGreat
open Go.ChangeShapes Go.WideShapes Go.ChangeAt Go.RowKit
set_option linter.unusedVariables false
set_option linter.unusedSimpArgs false
set_option maxRecDepth 100000

attribute [local irreducible] Calls
def cmpI (x y : Int) : Int := if x < y then -1 else if y < x then 1 else 0
theorem nan_u8 (x : Int) (w : World) : Calls Tryz.prog 145 #[.int .u8 x] w fun e w' => e = .returned (.bool false) ∧ w' = w := by
  go_enter Tryz.func145, Tryz.ntmps145
  go_wp2_with (fail)
  go_ret
  exact ⟨by simp, rfl⟩
theorem cmp_u8 (x y : Int) (w : World) : Calls Tryz.prog 134 #[.int .u8 x, .int .u8 y] w fun e w' => e = .returned (.int .i64 (cmpI x y)) ∧ w' = w := by
  obtain ⟨c, hc⟩ : ∃ c, cmpI x y = c := ⟨_, rfl⟩
  rw [hc]
  unfold cmpI at hc
  by_cases h1 : x < y
  · rw [if_pos h1] at hc
    subst hc
    go_enter Tryz.func134, Tryz.ntmps134
    go_wp2_with (fail)
    refine (nan_u8 _ _).mono ?_
    rintro e w' ⟨rfl, rfl⟩
    go_wp2_with (fail)
    refine (nan_u8 _ _).mono ?_
    rintro e w' ⟨rfl, rfl⟩
    go_wp2_with (fail)
    go_ret
    exact ⟨rfl, rfl⟩
  · have h1' : y ≤ x := by omega
    rw [if_neg h1] at hc
    by_cases h2 : y < x
    · rw [if_pos h2] at hc
      subst hc
      go_enter Tryz.func134, Tryz.ntmps134
      go_wp2_with (fail)
      refine (nan_u8 _ _).mono ?_
      rintro e w' ⟨rfl, rfl⟩
      go_wp2_with (fail)
      refine (nan_u8 _ _).mono ?_
      rintro e w' ⟨rfl, rfl⟩
      go_wp2_with (fail)
      go_ret
      exact ⟨rfl, rfl⟩
    · have h2' : x ≤ y := by omega
      rw [if_neg h2] at hc
      subst hc
      go_enter Tryz.func134, Tryz.ntmps134
      go_wp2_with (fail)
      refine (nan_u8 _ _).mono ?_
      rintro e w' ⟨rfl, rfl⟩
      go_wp2_with (fail)
      refine (nan_u8 _ _).mono ?_
      rintro e w' ⟨rfl, rfl⟩
      go_wp2_with (fail)
      go_ret
      exact ⟨rfl, rfl⟩
theorem cmp_drop2 {d e : List Int} {k : Nat} {x y : Int} (hx : d[k]? = some x) (hy : e[k]? = some y) : cmpE (d.drop k) (e.drop k) = if cmpI x y = 0 then cmpE (d.drop (k + 1)) (e.drop (k + 1)) else cmpI x y := by
  rw [cmp_drop hx hy]
  unfold cmpI
  split
  · rfl
  · split
    · rfl
    · rfl
set_option maxHeartbeats 4000000 in
theorem slcmp_ok (b1 b2 : Nat) (d e : List Int) (w : World) (h1 : ExB w b1 d) (h2 : ExB w b2 e) (hd : d.length = 6) (he : e.length = 6) (hb1 : b1 < w.heap.size) (hb2 : b2 < w.heap.size) :
    Calls Tryz.prog 113 #[.slice (some ⟨b1, 0, none⟩) 6 6, .slice (some ⟨b2, 0, none⟩) 6 6] w fun r w' => r = .returned (.int .i64 (cmpE d e)) ∧ w' = w := by
  have H1 := Lib.hid h1
  have H2 := Lib.hid h2
  have HD := Lib.hid hd
  have HE := Lib.hid he
  obtain ⟨R, hR⟩ : ∃ R, cmpE d e = R := ⟨_, rfl⟩
  rw [hR]
  have HR := Lib.hid hR
  clear h1 h2 hd he hR
  go_enter Tryz.func113, Tryz.ntmps113
  go_wp2_with (fail)
  go_loopw [11] (fun i wr => ∃ k : Nat, i = .int .i64 k ∧ k ≤ 6 ∧ Hid (R = cmpE (d.drop k) (e.drop k)) ∧ w = wr) (fun i _ => 6 - (intOf i).toNat)
  case atStart => exact ⟨0, rfl, Nat.zero_le _, Lib.hid HR.out.symm, rfl⟩
  case round =>
    obtain ⟨k, rfl, hk, HK, rfl⟩ := hrel
    by_cases hlt : k < 6
    · have ik : (k : Int) < 6 := by omega
      obtain ⟨x, hx⟩ : ∃ x, d[k]? = some x := ⟨_, List.getElem?_eq_getElem (by rw [HD.out]; exact hlt)⟩
      obtain ⟨y, hy⟩ : ∃ y, e[k]? = some y := ⟨_, List.getElem?_eq_getElem (by rw [HE.out]; exact hlt)⟩
      have fx := H1.out ⟨w, Below.refl _ _⟩ k x hx
      have fy := H2.out ⟨w, Below.refl _ _⟩ k y hy
      dsimp only at fx fy
      have hcd := cmp_drop2 hx hy
      have hc := cmp_u8 x y
      obtain ⟨c, hcc⟩ : ∃ c, cmpI x y = c := ⟨_, rfl⟩
      rw [hcc] at hcd hc
      have HC := Lib.hid hcd
      have HCC := Lib.hid hc
      clear hcd hx hy hc hcc
      by_cases h0 : c = 0
      · have hr : R = cmpE (d.drop (k + 1)) (e.drop (k + 1)) := by rw [HK.out, HC.out, if_pos h0]
        have HR2 := Lib.hid hr
        subst h0
        clear hr
        go_wp2_with (fail)
        refine (HCC.out _).mono ?_
        rintro e2 w' ⟨rfl, rfl⟩
        go_wp2_with (fail)
        go_roundw
        case rel => exact ⟨k + 1, by go_num, by omega, HR2, by first | trivial | rfl⟩
        case measure => simp [intOf]; omega
      · have hr : R = c := by rw [HK.out, HC.out, if_neg h0]
        have hne : (c != 0) = true := by simpa using h0
        subst hr
        go_wp2_with (fail)
        refine (HCC.out _).mono ?_
        rintro e2 w' ⟨rfl, rfl⟩
        go_wp2_with (fail)
        go_ret
        exact ⟨rfl, rfl⟩
    · obtain rfl : k = 6 := by omega
      have hr : R = 0 := by
        rw [HK.out, List.drop_of_length_le (by rw [HD.out]; exact Nat.le_refl _), List.drop_of_length_le (by rw [HE.out]; exact Nat.le_refl _)]
        rfl
      subst hr
      rw [show ((6 : Nat) : Int) = 6 from rfl]
      go_wp2_with (fail)
      go_ret
      exact ⟨rfl, rfl⟩
set_option maxHeartbeats 4000000 in
theorem compare_ok (d e : List Int) (w : World) (hd : EV d) (he : EV e) :
    Calls Tryz.prog 92 #[valE d, valE e] w fun r w' => r = .returned (.int .i64 (cmpE d e)) ∧ Below w.heap.size w w' := by
  obtain ⟨a0, a1, a2, a3, a4, a5, hd'⟩ := six_of hd
  obtain ⟨b0, b1, b2, b3, b4, b5, he'⟩ := six_of he
  rw [show valE d = .agg #[.int .u8 a0, .int .u8 a1, .int .u8 a2, .int .u8 a3, .int .u8 a4, .int .u8 a5] by rw [hd']; rfl]
  rw [show valE e = .agg #[.int .u8 b0, .int .u8 b1, .int .u8 b2, .int .u8 b3, .int .u8 b4, .int .u8 b5] by rw [he']; rfl]
  have hba : Below w.heap.size w (w.alloc (.cells #[.int .u8 a0, .int .u8 a1, .int .u8 a2, .int .u8 a3, .int .u8 a4, .int .u8 a5] 61)) := (Below.refl _ _).alloc (Nat.le_refl _) _
  have hX1 : ExB (w.alloc (.cells #[.int .u8 a0, .int .u8 a1, .int .u8 a2, .int .u8 a3, .int .u8 a4, .int .u8 a5] 61)) w.heap.size d := by rw [hd']; exact ExB.new w _ _ _ _ _ _
  have hX2 : ExB ((w.alloc (.cells #[.int .u8 a0, .int .u8 a1, .int .u8 a2, .int .u8 a3, .int .u8 a4, .int .u8 a5] 61)).alloc (.cells #[.int .u8 b0, .int .u8 b1, .int .u8 b2, .int .u8 b3, .int .u8 b4, .int .u8 b5] 61)) (w.heap.size + 1) e := by
    have := ExB.new (w.alloc (.cells #[.int .u8 a0, .int .u8 a1, .int .u8 a2, .int .u8 a3, .int .u8 a4, .int .u8 a5] 61)) b0 b1 b2 b3 b4 b5 (t := 61)
    rw [he']
    simpa using this
  have hb2 : Below (w.alloc (.cells #[.int .u8 a0, .int .u8 a1, .int .u8 a2, .int .u8 a3, .int .u8 a4, .int .u8 a5] 61)).heap.size (w.alloc (.cells #[.int .u8 a0, .int .u8 a1, .int .u8 a2, .int .u8 a3, .int .u8 a4, .int .u8 a5] 61)) ((w.alloc (.cells #[.int .u8 a0, .int .u8 a1, .int .u8 a2, .int .u8 a3, .int .u8 a4, .int .u8 a5] 61)).alloc (.cells #[.int .u8 b0, .int .u8 b1, .int .u8 b2, .int .u8 b3, .int .u8 b4, .int .u8 b5] 61)) := (Below.refl _ _).alloc (Nat.le_refl _) _
  have hbb := below_then hba hb2
  have HX1 : Hid (ExB ((w.alloc (.cells #[.int .u8 a0, .int .u8 a1, .int .u8 a2, .int .u8 a3, .int .u8 a4, .int .u8 a5] 61)).alloc (.cells #[.int .u8 b0, .int .u8 b1, .int .u8 b2, .int .u8 b3, .int .u8 b4, .int .u8 b5] 61)) w.heap.size d) := Lib.hid (fun g k x hx => hX1 ⟨g.w, below_then hb2 g.h⟩ k x hx)
  have HX2 := Lib.hid hX2
  have HD := Lib.hid hd.1
  have HE := Lib.hid he.1
  clear hd' he' hd he hX1 hX2 hba hb2
  go_enter Tryz.func92, Tryz.ntmps92
  go_wp2_with (fail)
  generalize hW1 : (w.alloc (.cells #[.int .u8 a0, .int .u8 a1, .int .u8 a2, .int .u8 a3, .int .u8 a4, .int .u8 a5] 61)).alloc (.cells #[.int .u8 b0, .int .u8 b1, .int .u8 b2, .int .u8 b3, .int .u8 b4, .int .u8 b5] 61) = W1 at *
  have hsz : w.heap.size + 1 < W1.heap.size := by rw [← hW1]; simp
  clear hW1
  obtain ⟨g0, hg0⟩ : ∃ g : Grown W1, W1 = g.w := ⟨⟨W1, Below.refl _ _⟩, rfl⟩
  have HC : Hid (∀ g : Grown W1, Calls Tryz.prog 113 #[.slice (some ⟨w.heap.size, 0, none⟩) 6 6, .slice (some ⟨w.heap.size + 1, 0, none⟩) 6 6] g.w fun r w' => r = .returned (.int .i64 (cmpE d e)) ∧ Below g.w.heap.size g.w w') := Lib.hid (fun g => (slcmp_ok _ _ d e g.w (fun gg k x hx => HX1.out ⟨gg.w, below_then g.h gg.h⟩ k x hx) (fun gg k x hx => HX2.out ⟨gg.w, below_then g.h gg.h⟩ k x hx) HD.out HE.out (Nat.lt_of_lt_of_le (by omega) g.h.size) (Nat.lt_of_lt_of_le hsz g.h.size)).mono fun _ _ h => ⟨h.1, by rw [h.2]; exact Below.refl _ _⟩)
  obtain ⟨R, hR⟩ : ∃ R, cmpE d e = R := ⟨_, rfl⟩
  rw [hR] at HC
  have HRR := Lib.hid hR
  clear hR
  have hs0 : w.heap.size < W1.heap.size := by omega
  rw [hg0]
  refine region_quiet' g0 (by kernel_rfl) (by kernel_rfl) ?_
  repeat (go_big_quiet_step (first | exact qc (HC.out _)))
  refine wpQuiet_nil ?_
  rintro _ ⟨g1, rfl⟩
  go_wp2_with (fail)
  go_ret
  exact ⟨by rw [HRR.out]; rfl, below_then hbb g1.h⟩
set_option maxHeartbeats 4000000 in
/-- .. and what it does to the world: it draws, and lays two blocks. -/
theorem compare_q (d e : List Int) (w : World) (hd : EV d) (he : EV e) :
    Calls Tryz.prog 92 #[valE d, valE e] w fun r w' => r = .returned (.int .i64 (cmpE d e)) ∧ ∃ q os, w' = Go.Sort.grow (w.drewN q) os := by
  obtain ⟨a0, a1, a2, a3, a4, a5, hd'⟩ := six_of hd
  obtain ⟨b0, b1, b2, b3, b4, b5, he'⟩ := six_of he
  rw [show valE d = .agg #[.int .u8 a0, .int .u8 a1, .int .u8 a2, .int .u8 a3, .int .u8 a4, .int .u8 a5] by rw [hd']; rfl]
  rw [show valE e = .agg #[.int .u8 b0, .int .u8 b1, .int .u8 b2, .int .u8 b3, .int .u8 b4, .int .u8 b5] by rw [he']; rfl]
  have hba : Below w.heap.size w (w.alloc (.cells #[.int .u8 a0, .int .u8 a1, .int .u8 a2, .int .u8 a3, .int .u8 a4, .int .u8 a5] 61)) := (Below.refl _ _).alloc (Nat.le_refl _) _
  have hX1 : ExB (w.alloc (.cells #[.int .u8 a0, .int .u8 a1, .int .u8 a2, .int .u8 a3, .int .u8 a4, .int .u8 a5] 61)) w.heap.size d := by rw [hd']; exact ExB.new w _ _ _ _ _ _
  have hX2 : ExB ((w.alloc (.cells #[.int .u8 a0, .int .u8 a1, .int .u8 a2, .int .u8 a3, .int .u8 a4, .int .u8 a5] 61)).alloc (.cells #[.int .u8 b0, .int .u8 b1, .int .u8 b2, .int .u8 b3, .int .u8 b4, .int .u8 b5] 61)) (w.heap.size + 1) e := by
    have := ExB.new (w.alloc (.cells #[.int .u8 a0, .int .u8 a1, .int .u8 a2, .int .u8 a3, .int .u8 a4, .int .u8 a5] 61)) b0 b1 b2 b3 b4 b5 (t := 61)
    rw [he']
    simpa using this
  have hb2 : Below (w.alloc (.cells #[.int .u8 a0, .int .u8 a1, .int .u8 a2, .int .u8 a3, .int .u8 a4, .int .u8 a5] 61)).heap.size (w.alloc (.cells #[.int .u8 a0, .int .u8 a1, .int .u8 a2, .int .u8 a3, .int .u8 a4, .int .u8 a5] 61)) ((w.alloc (.cells #[.int .u8 a0, .int .u8 a1, .int .u8 a2, .int .u8 a3, .int .u8 a4, .int .u8 a5] 61)).alloc (.cells #[.int .u8 b0, .int .u8 b1, .int .u8 b2, .int .u8 b3, .int .u8 b4, .int .u8 b5] 61)) := (Below.refl _ _).alloc (Nat.le_refl _) _
  have HX1 : Hid (ExB ((w.alloc (.cells #[.int .u8 a0, .int .u8 a1, .int .u8 a2, .int .u8 a3, .int .u8 a4, .int .u8 a5] 61)).alloc (.cells #[.int .u8 b0, .int .u8 b1, .int .u8 b2, .int .u8 b3, .int .u8 b4, .int .u8 b5] 61)) w.heap.size d) := Lib.hid (fun g k x hx => hX1 ⟨g.w, below_then hb2 g.h⟩ k x hx)
  have HX2 := Lib.hid hX2
  have HD := Lib.hid hd.1
  have HE := Lib.hid he.1
  clear hd' he' hd he hX1 hX2 hba hb2
  have hG : Hid (∀ q, ((w.alloc (.cells #[.int .u8 a0, .int .u8 a1, .int .u8 a2, .int .u8 a3, .int .u8 a4, .int .u8 a5] 61)).alloc (.cells #[.int .u8 b0, .int .u8 b1, .int .u8 b2, .int .u8 b3, .int .u8 b4, .int .u8 b5] 61)).drewN q = Go.Sort.grow (w.drewN q) #[.cells #[.int .u8 a0, .int .u8 a1, .int .u8 a2, .int .u8 a3, .int .u8 a4, .int .u8 a5] 61, .cells #[.int .u8 b0, .int .u8 b1, .int .u8 b2, .int .u8 b3, .int .u8 b4, .int .u8 b5] 61]) := Lib.hid fun q => by rw [Go.Sort.alloc_eq_grow, Go.Sort.alloc_eq_grow, Go.Sort.grow_grow]; rfl
  go_enter Tryz.func92, Tryz.ntmps92
  go_wp2_with (fail)
  generalize hW1 : (w.alloc (.cells #[.int .u8 a0, .int .u8 a1, .int .u8 a2, .int .u8 a3, .int .u8 a4, .int .u8 a5] 61)).alloc (.cells #[.int .u8 b0, .int .u8 b1, .int .u8 b2, .int .u8 b3, .int .u8 b4, .int .u8 b5] 61) = W1 at *
  have hsz : w.heap.size + 1 < W1.heap.size := by rw [← hW1]; simp
  clear hW1
  have HC : Hid (∀ q, Calls Tryz.prog 113 #[.slice (some ⟨w.heap.size, 0, none⟩) 6 6, .slice (some ⟨w.heap.size + 1, 0, none⟩) 6 6] (W1.drewN q) fun r w' => r = .returned (.int .i64 (cmpE d e)) ∧ w' = W1.drewN q) := Lib.hid (fun q => slcmp_ok _ _ d e (W1.drewN q) (fun gg k x hx => HX1.out ⟨gg.w, ⟨gg.h.os, gg.h.tape, gg.h.output, gg.h.size, gg.h.block⟩⟩ k x hx) (fun gg k x hx => HX2.out ⟨gg.w, ⟨gg.h.os, gg.h.tape, gg.h.output, gg.h.size, gg.h.block⟩⟩ k x hx) HD.out HE.out (show w.heap.size < W1.heap.size by omega) hsz)
  obtain ⟨R, hR⟩ : ∃ R, cmpE d e = R := ⟨_, rfl⟩
  rw [hR] at HC
  have HRR := Lib.hid hR
  clear hR
  go_quiet (exact Calls.quiet_of_same (HC.out _))
  go_wp2_with (fail)
  go_ret
  exact ⟨by rw [HRR.out]; rfl, _, _, hG.out _⟩
end Go.Proofs.YthakeeinhgfbbaaGreat
