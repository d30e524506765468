/-
  law03: BoxIntersectIsGreatestLowerBound.
-/
import Derived.Test.YtpepgheocemjdaaBoxM
import Derived.Test.YtpepgheocemjdaaSan3
import Derived.Test.YtpepgheocemjdaaInputP
namespace Go.Proofs.Ytpepgheocemjdaa
open Go.ChangeShapes Go.WideShapes Go.ChangeAt Go.RowKit
set_option linter.unusedVariables false
set_option linter.unusedSimpArgs false
set_option maxRecDepth 100000

attribute [local irreducible] Calls
set_option maxHeartbeats 32000000 in
theorem glb_walk (vA vB vC p0 p1 : Value) (la lb lc : List (Int × Int)) (f f' : List Int) (n : Int) (w : World) (hA : Bx w vA la) (hB : Bx w vB lb) (hC : Bx w vC lc) (ba : I64 la) (bb : I64 lb) (bc : I64 lc) (hn0 : 0 ≤ n) (hn1 : n < 256) (hF : Us w p0 f) (bf : U16 f) (hF' : Us w p1 f') (bf' : U16 f') :
    Calls Try.prog 7 #[.agg #[vA, vB, vC, .int .u8 n, p0, p1]] w fun e w' => e = .returned (.bool true) ∧ Below w.heap.size w w' := by
  have hm0 : 0 ≤ n % 6 := Int.emod_nonneg _ (by decide)
  have hm1 : n % 6 < 6 := Int.emod_lt_of_pos _ (by decide)
  obtain ⟨k, hk⟩ : ∃ k : Nat, 1 + n % 6 = (k : Int) := ⟨(1 + n % 6).toNat, by omega⟩
  have hk1 : 1 ≤ k := by omega
  have hk6 : k ≤ 6 := by omega
  have HF := Lib.hid hF
  have BF := Lib.hid bf
  have HG := Lib.hid hF'
  have BG := Lib.hid bf'
  have HA := Lib.hid hA
  have HB := Lib.hid hB
  have HC := Lib.hid hC
  have BA := Lib.hid ba
  have BB := Lib.hid bb
  have BC := Lib.hid bc
  clear hA hB hC ba bb bc hF bf hF' bf'
  go_enter Try.func7, Try.ntmps7
  go_wp2_with (fail)
  generalize hW0 : World.alloc w _ = W0
  have hT0 : Below w.heap.size w W0 := by subst hW0; exact ((Below.refl w.heap.size w).alloc (by go_size) _)
  have Y0 : w.heap.size < W0.heap.size := by subst hW0; simp <;> omega
  have F0_0 : ∀ g : Grown W0, g.w.cell? ⟨w.heap.size, 0, none⟩ = some (vA) := fun g => (g.cell Y0).trans (by subst hW0; simp [go_sem])
  have F0_1 : ∀ g : Grown W0, g.w.cell? ⟨w.heap.size, 1, none⟩ = some (vB) := fun g => (g.cell Y0).trans (by subst hW0; simp [go_sem])
  have F0_2 : ∀ g : Grown W0, g.w.cell? ⟨w.heap.size, 2, none⟩ = some (vC) := fun g => (g.cell Y0).trans (by subst hW0; simp [go_sem])
  have F0_3 : ∀ g : Grown W0, g.w.cell? ⟨w.heap.size, 3, none⟩ = some (.int .u8 n) := fun g => (g.cell Y0).trans (by subst hW0; simp [go_sem])
  have F0_4 : ∀ g : Grown W0, g.w.cell? ⟨w.heap.size, 4, none⟩ = some (p0) := fun g => (g.cell Y0).trans (by subst hW0; simp [go_sem])
  have F0_5 : ∀ g : Grown W0, g.w.cell? ⟨w.heap.size, 5, none⟩ = some (p1) := fun g => (g.cell Y0).trans (by subst hW0; simp [go_sem])
  clear Y0 hW0
  obtain ⟨g0, hg0⟩ : ∃ g : Grown W0, W0 = g.w := ⟨⟨W0, Below.refl _ _⟩, rfl⟩
  rw [hg0]
  refine (sanity3 _).mono ?_
  rintro e w' ⟨rfl, hB⟩
  obtain ⟨g1, rfl⟩ := grow g0 hB
  clear hB hg0
  go_wp2_with (fail)
  refine (law_boxes vA vB vC p0 p1 la lb n k _ ((HA.out.grow hT0).grow g1.h) ((HB.out.grow hT0).grow g1.h) BA.out BB.out hn0 hn1 hk hk6).mono ?_
  rintro e w' ⟨va, vb, a, b, rfl, a1, b1, a2, b2, ha, hb, hB⟩
  obtain ⟨g2, rfl⟩ := grow g1 hB
  have LA := Lib.hid a1
  have LB := Lib.hid b1
  have VBa := Lib.hid a2
  have VBb := Lib.hid b2
  clear hB a1 b1 a2 b2
  go_wp2_with (fail)
  refine (r3made vC lc k _ ((HC.out.grow hT0).grow g2.h) hk6 BC.out).mono ?_
  rintro e w' ⟨vc, c, rfl, c1, c2, hc, hB⟩
  obtain ⟨g3, rfl⟩ := grow g2 hB
  replace ha := ha.grow hB
  replace hb := hb.grow hB
  clear hB
  have LC := Lib.hid c1
  have VBc := Lib.hid c2
  clear c1 c2
  go_wp2_with (fail)
  refine (r3point _ _ a f _ ha ((HF.out.grow hT0).grow g3.h) (by rw [LA.out]; omega) VBa.out BF.out).mono ?_
  rintro e w' ⟨vhp, m, rfl, m1, m2, m3, hp, hB⟩
  obtain ⟨g4, rfl⟩ := grow g3 hB
  replace ha := ha.grow hB
  replace hb := hb.grow hB
  replace hc := hc.grow hB
  clear hB
  have LM : Hid (m.length = k) := Lib.hid (by rw [m1, LA.out])
  have CM := Lib.hid m2
  have NM := Lib.hid m3
  clear m1 m2 m3
  have lab : b.length = a.length := by rw [LA.out, LB.out]
  have lac : a.length = c.length := by rw [LA.out, LC.out]
  have lbc : b.length = c.length := by rw [LB.out, LC.out]
  have lam : m.length = a.length := by rw [LA.out, LM.out]
  obtain ⟨ω, hω⟩ : ∃ x, (a.zip b).all okM = x := ⟨_, rfl⟩
  have Hω := Lib.hid hω
  obtain ⟨γ, hγ⟩ : ∃ x, (c.zip a).all sub1 = x := ⟨_, rfl⟩
  have Hγ := Lib.hid hγ
  obtain ⟨δ, hδ⟩ : ∃ x, (c.zip b).all sub1 = x := ⟨_, rfl⟩
  have Hδ := Lib.hid hδ
  obtain ⟨β, hβ⟩ : ∃ x, (b.zip m).all con1 = x := ⟨_, rfl⟩
  have Hβ := Lib.hid hβ
  have HW : Hid ((b.zip a).all okM = ω) := Lib.hid ((okm_comm a b).trans hω)
  have Z1 := Lib.hid (vb_zip a b VBa.out VBb.out)
  have Z2 := Lib.hid (vb_zip b a VBb.out VBa.out)
  have V1 := Lib.hid (show γ = true → δ = true → ω = true from fun x y => hω.symm.trans (meet_glb a b c VBc.out lac lbc (hγ.trans x) (hδ.trans y)).1)
  have V2 := Lib.hid (show γ = true → δ = true → (c.zip ((a.zip b).map meetI)).all sub1 = true from fun x y => (meet_glb a b c VBc.out lac lbc (hγ.trans x) (hδ.trans y)).2)
  have V3 := Lib.hid (show β = true → ω = true from fun x => hω.symm.trans (meet_no a b m lab lam NM.out CM.out (hβ.trans x)))
  have V4 := Lib.hid (show ω = true → ∀ p ∈ (a.zip b).map meetI, VB p from fun x => meet_vb a b VBa.out VBb.out (hω.trans x))
  have V5 := Lib.hid (meet_left a b)
  have V6 := Lib.hid (meet_right a b)
  have V7 := Lib.hid ((meet_con a b m lab NM.out CM.out).trans hβ)
  have E2 := Lib.hid (meet_comm a b)
  have H0 := Lib.hid (meet_len a b lab)
  clear hω hγ hδ hβ lab lac lbc lam
  obtain ⟨h, hh⟩ : ∃ h, (a.zip b).map meetI = h := ⟨_, rfl⟩
  rw [hh] at V2 V4 V5 V6 V7 E2 H0
  have E1 := Lib.hid hh
  clear hh
  have LH : Hid (h.length = k) := Lib.hid (by rw [H0.out, LA.out])
  cases ω
  · cases β
    · cases γ
      · skip
        go_wp2_with (fail)
        refine (meet_f _ _ a b _ ha hb (by rw [LA.out, LB.out]) Z1.out (by rw [LA.out]; omega) Hω.out).mono ?_
        rintro e w' ⟨he, hB⟩
        obtain rfl : e = .returned (.tuple #[.slice none 0 0, .bool false]) := by rw [he]
        clear he
        obtain ⟨g5, rfl⟩ := grow g4 hB
        replace ha := ha.grow hB
        replace hb := hb.grow hB
        replace hc := hc.grow hB
        replace hp := hp.grow hB
        clear hB
        go_wp2_with (fail)
        refine (meet_f _ _ b a _ hb ha (by rw [LA.out, LB.out]) Z2.out (by rw [LB.out]; omega) HW.out).mono ?_
        rintro e w' ⟨he, hB⟩
        obtain rfl : e = .returned (.tuple #[.slice none 0 0, .bool false]) := by rw [he]
        clear he
        obtain ⟨g6, rfl⟩ := grow g5 hB
        replace ha := ha.grow hB
        replace hb := hb.grow hB
        replace hc := hc.grow hB
        replace hp := hp.grow hB
        clear hB
        go_wp2_with (fail)
        refine (r3same _ _ [] [] _ Bx.nil Bx.nil).mono ?_
        rintro e w' ⟨he, hB⟩
        obtain rfl : e = .returned (.bool true) := by rw [he, show decide (([] : List (Int × Int)) = []) = true from decide_eq_true rfl]
        clear he
        obtain ⟨g7, rfl⟩ := grow g6 hB
        replace ha := ha.grow hB
        replace hb := hb.grow hB
        replace hc := hc.grow hB
        replace hp := hp.grow hB
        clear hB
        go_wp2_with (fail)
        refine (box_subset _ _ c a _ hc ha (by rw [LA.out, LC.out])).mono ?_
        rintro e w' ⟨he, hB⟩
        obtain rfl : e = .returned (.bool false) := by rw [he, Hγ.out]
        clear he
        obtain ⟨g8, rfl⟩ := grow g7 hB
        replace ha := ha.grow hB
        replace hb := hb.grow hB
        replace hc := hc.grow hB
        replace hp := hp.grow hB
        clear hB
        go_wp2_with (fail)
        refine (box_contains _ _ b m _ hb hp (by rw [LM.out, LB.out])).mono ?_
        rintro e w' ⟨he, hB⟩
        obtain rfl : e = .returned (.bool false) := by rw [he, Hβ.out]
        clear he
        obtain ⟨g9, rfl⟩ := grow g8 hB
        replace ha := ha.grow hB
        replace hb := hb.grow hB
        replace hc := hc.grow hB
        replace hp := hp.grow hB
        clear hB
        go_wp2_with (fail)
        go_ret
        exact ⟨rfl, below_then hT0 g9.h⟩
      · cases δ
        · skip
          go_wp2_with (fail)
          refine (meet_f _ _ a b _ ha hb (by rw [LA.out, LB.out]) Z1.out (by rw [LA.out]; omega) Hω.out).mono ?_
          rintro e w' ⟨he, hB⟩
          obtain rfl : e = .returned (.tuple #[.slice none 0 0, .bool false]) := by rw [he]
          clear he
          obtain ⟨g5, rfl⟩ := grow g4 hB
          replace ha := ha.grow hB
          replace hb := hb.grow hB
          replace hc := hc.grow hB
          replace hp := hp.grow hB
          clear hB
          go_wp2_with (fail)
          refine (meet_f _ _ b a _ hb ha (by rw [LA.out, LB.out]) Z2.out (by rw [LB.out]; omega) HW.out).mono ?_
          rintro e w' ⟨he, hB⟩
          obtain rfl : e = .returned (.tuple #[.slice none 0 0, .bool false]) := by rw [he]
          clear he
          obtain ⟨g6, rfl⟩ := grow g5 hB
          replace ha := ha.grow hB
          replace hb := hb.grow hB
          replace hc := hc.grow hB
          replace hp := hp.grow hB
          clear hB
          go_wp2_with (fail)
          refine (r3same _ _ [] [] _ Bx.nil Bx.nil).mono ?_
          rintro e w' ⟨he, hB⟩
          obtain rfl : e = .returned (.bool true) := by rw [he, show decide (([] : List (Int × Int)) = []) = true from decide_eq_true rfl]
          clear he
          obtain ⟨g7, rfl⟩ := grow g6 hB
          replace ha := ha.grow hB
          replace hb := hb.grow hB
          replace hc := hc.grow hB
          replace hp := hp.grow hB
          clear hB
          go_wp2_with (fail)
          refine (box_subset _ _ c a _ hc ha (by rw [LA.out, LC.out])).mono ?_
          rintro e w' ⟨he, hB⟩
          obtain rfl : e = .returned (.bool true) := by rw [he, Hγ.out]
          clear he
          obtain ⟨g8, rfl⟩ := grow g7 hB
          replace ha := ha.grow hB
          replace hb := hb.grow hB
          replace hc := hc.grow hB
          replace hp := hp.grow hB
          clear hB
          go_wp2_with (fail)
          refine (box_subset _ _ c b _ hc hb (by rw [LB.out, LC.out])).mono ?_
          rintro e w' ⟨he, hB⟩
          obtain rfl : e = .returned (.bool false) := by rw [he, Hδ.out]
          clear he
          obtain ⟨g9, rfl⟩ := grow g8 hB
          replace ha := ha.grow hB
          replace hb := hb.grow hB
          replace hc := hc.grow hB
          replace hp := hp.grow hB
          clear hB
          go_wp2_with (fail)
          refine (box_contains _ _ b m _ hb hp (by rw [LM.out, LB.out])).mono ?_
          rintro e w' ⟨he, hB⟩
          obtain rfl : e = .returned (.bool false) := by rw [he, Hβ.out]
          clear he
          obtain ⟨g10, rfl⟩ := grow g9 hB
          replace ha := ha.grow hB
          replace hb := hb.grow hB
          replace hc := hc.grow hB
          replace hp := hp.grow hB
          clear hB
          go_wp2_with (fail)
          go_ret
          exact ⟨rfl, below_then hT0 g10.h⟩
        · exact absurd (V1.out rfl rfl) (by decide)
    · exact absurd (V3.out rfl) (by decide)
  · skip
    cases β
    · cases γ
      · skip
        go_wp2_with (fail)
        refine (meet_t _ _ a b h _ ha hb (by rw [LA.out, LB.out]) Z1.out (by rw [LA.out]; omega) Hω.out E1.out).mono ?_
        rintro e w' ⟨v1, rfl, hm, hB⟩
        obtain ⟨g5, rfl⟩ := grow g4 hB
        replace ha := ha.grow hB
        replace hb := hb.grow hB
        replace hc := hc.grow hB
        replace hp := hp.grow hB
        clear hB
        go_wp2_with (fail)
        refine (meet_t _ _ b a h _ hb ha (by rw [LA.out, LB.out]) Z2.out (by rw [LB.out]; omega) HW.out E2.out).mono ?_
        rintro e w' ⟨v2, rfl, hn, hB⟩
        obtain ⟨g6, rfl⟩ := grow g5 hB
        replace ha := ha.grow hB
        replace hb := hb.grow hB
        replace hc := hc.grow hB
        replace hp := hp.grow hB
        replace hm := hm.grow hB
        clear hB
        go_wp2_with (fail)
        refine (r3same _ _ h h _ hm hn).mono ?_
        rintro e w' ⟨he, hB⟩
        obtain rfl : e = .returned (.bool true) := by rw [he, show decide (h = h) = true from decide_eq_true rfl]
        clear he
        obtain ⟨g7, rfl⟩ := grow g6 hB
        replace ha := ha.grow hB
        replace hb := hb.grow hB
        replace hc := hc.grow hB
        replace hp := hp.grow hB
        replace hm := hm.grow hB
        replace hn := hn.grow hB
        clear hB
        go_wp2_with (fail)
        refine (box_subset _ _ c a _ hc ha (by rw [LA.out, LC.out])).mono ?_
        rintro e w' ⟨he, hB⟩
        obtain rfl : e = .returned (.bool false) := by rw [he, Hγ.out]
        clear he
        obtain ⟨g8, rfl⟩ := grow g7 hB
        replace ha := ha.grow hB
        replace hb := hb.grow hB
        replace hc := hc.grow hB
        replace hp := hp.grow hB
        replace hm := hm.grow hB
        replace hn := hn.grow hB
        clear hB
        go_wp2_with (fail)
        refine (box_valid _ h _ hm).mono ?_
        rintro e w' ⟨he, hB⟩
        obtain rfl : e = .returned (.bool true) := by rw [he, all_valid h k (V4.out (by trivial)) LH.out hk1 hk6]
        clear he
        obtain ⟨g9, rfl⟩ := grow g8 hB
        replace ha := ha.grow hB
        replace hb := hb.grow hB
        replace hc := hc.grow hB
        replace hp := hp.grow hB
        replace hm := hm.grow hB
        replace hn := hn.grow hB
        clear hB
        go_wp2_with (fail)
        refine (box_subset _ _ h a _ hm ha (by rw [LA.out, LH.out])).mono ?_
        rintro e w' ⟨he, hB⟩
        obtain rfl : e = .returned (.bool true) := by rw [he, V5.out]
        clear he
        obtain ⟨g10, rfl⟩ := grow g9 hB
        replace ha := ha.grow hB
        replace hb := hb.grow hB
        replace hc := hc.grow hB
        replace hp := hp.grow hB
        replace hm := hm.grow hB
        replace hn := hn.grow hB
        clear hB
        go_wp2_with (fail)
        refine (box_subset _ _ h b _ hm hb (by rw [LB.out, LH.out])).mono ?_
        rintro e w' ⟨he, hB⟩
        obtain rfl : e = .returned (.bool true) := by rw [he, V6.out]
        clear he
        obtain ⟨g11, rfl⟩ := grow g10 hB
        replace ha := ha.grow hB
        replace hb := hb.grow hB
        replace hc := hc.grow hB
        replace hp := hp.grow hB
        replace hm := hm.grow hB
        replace hn := hn.grow hB
        clear hB
        go_wp2_with (fail)
        refine (box_contains _ _ h m _ hm hp (by rw [LM.out, LH.out])).mono ?_
        rintro e w' ⟨he, hB⟩
        obtain rfl : e = .returned (.bool false) := by rw [he, V7.out]
        clear he
        obtain ⟨g12, rfl⟩ := grow g11 hB
        replace ha := ha.grow hB
        replace hb := hb.grow hB
        replace hc := hc.grow hB
        replace hp := hp.grow hB
        replace hm := hm.grow hB
        replace hn := hn.grow hB
        clear hB
        go_wp2_with (fail)
        refine (box_contains _ _ b m _ hb hp (by rw [LM.out, LB.out])).mono ?_
        rintro e w' ⟨he, hB⟩
        obtain rfl : e = .returned (.bool false) := by rw [he, Hβ.out]
        clear he
        obtain ⟨g13, rfl⟩ := grow g12 hB
        replace ha := ha.grow hB
        replace hb := hb.grow hB
        replace hc := hc.grow hB
        replace hp := hp.grow hB
        replace hm := hm.grow hB
        replace hn := hn.grow hB
        clear hB
        go_wp2_with (fail)
        go_ret
        exact ⟨rfl, below_then hT0 g13.h⟩
      · cases δ
        · skip
          go_wp2_with (fail)
          refine (meet_t _ _ a b h _ ha hb (by rw [LA.out, LB.out]) Z1.out (by rw [LA.out]; omega) Hω.out E1.out).mono ?_
          rintro e w' ⟨v1, rfl, hm, hB⟩
          obtain ⟨g5, rfl⟩ := grow g4 hB
          replace ha := ha.grow hB
          replace hb := hb.grow hB
          replace hc := hc.grow hB
          replace hp := hp.grow hB
          clear hB
          go_wp2_with (fail)
          refine (meet_t _ _ b a h _ hb ha (by rw [LA.out, LB.out]) Z2.out (by rw [LB.out]; omega) HW.out E2.out).mono ?_
          rintro e w' ⟨v2, rfl, hn, hB⟩
          obtain ⟨g6, rfl⟩ := grow g5 hB
          replace ha := ha.grow hB
          replace hb := hb.grow hB
          replace hc := hc.grow hB
          replace hp := hp.grow hB
          replace hm := hm.grow hB
          clear hB
          go_wp2_with (fail)
          refine (r3same _ _ h h _ hm hn).mono ?_
          rintro e w' ⟨he, hB⟩
          obtain rfl : e = .returned (.bool true) := by rw [he, show decide (h = h) = true from decide_eq_true rfl]
          clear he
          obtain ⟨g7, rfl⟩ := grow g6 hB
          replace ha := ha.grow hB
          replace hb := hb.grow hB
          replace hc := hc.grow hB
          replace hp := hp.grow hB
          replace hm := hm.grow hB
          replace hn := hn.grow hB
          clear hB
          go_wp2_with (fail)
          refine (box_subset _ _ c a _ hc ha (by rw [LA.out, LC.out])).mono ?_
          rintro e w' ⟨he, hB⟩
          obtain rfl : e = .returned (.bool true) := by rw [he, Hγ.out]
          clear he
          obtain ⟨g8, rfl⟩ := grow g7 hB
          replace ha := ha.grow hB
          replace hb := hb.grow hB
          replace hc := hc.grow hB
          replace hp := hp.grow hB
          replace hm := hm.grow hB
          replace hn := hn.grow hB
          clear hB
          go_wp2_with (fail)
          refine (box_subset _ _ c b _ hc hb (by rw [LB.out, LC.out])).mono ?_
          rintro e w' ⟨he, hB⟩
          obtain rfl : e = .returned (.bool false) := by rw [he, Hδ.out]
          clear he
          obtain ⟨g9, rfl⟩ := grow g8 hB
          replace ha := ha.grow hB
          replace hb := hb.grow hB
          replace hc := hc.grow hB
          replace hp := hp.grow hB
          replace hm := hm.grow hB
          replace hn := hn.grow hB
          clear hB
          go_wp2_with (fail)
          refine (box_valid _ h _ hm).mono ?_
          rintro e w' ⟨he, hB⟩
          obtain rfl : e = .returned (.bool true) := by rw [he, all_valid h k (V4.out (by trivial)) LH.out hk1 hk6]
          clear he
          obtain ⟨g10, rfl⟩ := grow g9 hB
          replace ha := ha.grow hB
          replace hb := hb.grow hB
          replace hc := hc.grow hB
          replace hp := hp.grow hB
          replace hm := hm.grow hB
          replace hn := hn.grow hB
          clear hB
          go_wp2_with (fail)
          refine (box_subset _ _ h a _ hm ha (by rw [LA.out, LH.out])).mono ?_
          rintro e w' ⟨he, hB⟩
          obtain rfl : e = .returned (.bool true) := by rw [he, V5.out]
          clear he
          obtain ⟨g11, rfl⟩ := grow g10 hB
          replace ha := ha.grow hB
          replace hb := hb.grow hB
          replace hc := hc.grow hB
          replace hp := hp.grow hB
          replace hm := hm.grow hB
          replace hn := hn.grow hB
          clear hB
          go_wp2_with (fail)
          refine (box_subset _ _ h b _ hm hb (by rw [LB.out, LH.out])).mono ?_
          rintro e w' ⟨he, hB⟩
          obtain rfl : e = .returned (.bool true) := by rw [he, V6.out]
          clear he
          obtain ⟨g12, rfl⟩ := grow g11 hB
          replace ha := ha.grow hB
          replace hb := hb.grow hB
          replace hc := hc.grow hB
          replace hp := hp.grow hB
          replace hm := hm.grow hB
          replace hn := hn.grow hB
          clear hB
          go_wp2_with (fail)
          refine (box_contains _ _ h m _ hm hp (by rw [LM.out, LH.out])).mono ?_
          rintro e w' ⟨he, hB⟩
          obtain rfl : e = .returned (.bool false) := by rw [he, V7.out]
          clear he
          obtain ⟨g13, rfl⟩ := grow g12 hB
          replace ha := ha.grow hB
          replace hb := hb.grow hB
          replace hc := hc.grow hB
          replace hp := hp.grow hB
          replace hm := hm.grow hB
          replace hn := hn.grow hB
          clear hB
          go_wp2_with (fail)
          refine (box_contains _ _ b m _ hb hp (by rw [LM.out, LB.out])).mono ?_
          rintro e w' ⟨he, hB⟩
          obtain rfl : e = .returned (.bool false) := by rw [he, Hβ.out]
          clear he
          obtain ⟨g14, rfl⟩ := grow g13 hB
          replace ha := ha.grow hB
          replace hb := hb.grow hB
          replace hc := hc.grow hB
          replace hp := hp.grow hB
          replace hm := hm.grow hB
          replace hn := hn.grow hB
          clear hB
          go_wp2_with (fail)
          go_ret
          exact ⟨rfl, below_then hT0 g14.h⟩
        · skip
          go_wp2_with (fail)
          refine (meet_t _ _ a b h _ ha hb (by rw [LA.out, LB.out]) Z1.out (by rw [LA.out]; omega) Hω.out E1.out).mono ?_
          rintro e w' ⟨v1, rfl, hm, hB⟩
          obtain ⟨g5, rfl⟩ := grow g4 hB
          replace ha := ha.grow hB
          replace hb := hb.grow hB
          replace hc := hc.grow hB
          replace hp := hp.grow hB
          clear hB
          go_wp2_with (fail)
          refine (meet_t _ _ b a h _ hb ha (by rw [LA.out, LB.out]) Z2.out (by rw [LB.out]; omega) HW.out E2.out).mono ?_
          rintro e w' ⟨v2, rfl, hn, hB⟩
          obtain ⟨g6, rfl⟩ := grow g5 hB
          replace ha := ha.grow hB
          replace hb := hb.grow hB
          replace hc := hc.grow hB
          replace hp := hp.grow hB
          replace hm := hm.grow hB
          clear hB
          go_wp2_with (fail)
          refine (r3same _ _ h h _ hm hn).mono ?_
          rintro e w' ⟨he, hB⟩
          obtain rfl : e = .returned (.bool true) := by rw [he, show decide (h = h) = true from decide_eq_true rfl]
          clear he
          obtain ⟨g7, rfl⟩ := grow g6 hB
          replace ha := ha.grow hB
          replace hb := hb.grow hB
          replace hc := hc.grow hB
          replace hp := hp.grow hB
          replace hm := hm.grow hB
          replace hn := hn.grow hB
          clear hB
          go_wp2_with (fail)
          refine (box_subset _ _ c a _ hc ha (by rw [LA.out, LC.out])).mono ?_
          rintro e w' ⟨he, hB⟩
          obtain rfl : e = .returned (.bool true) := by rw [he, Hγ.out]
          clear he
          obtain ⟨g8, rfl⟩ := grow g7 hB
          replace ha := ha.grow hB
          replace hb := hb.grow hB
          replace hc := hc.grow hB
          replace hp := hp.grow hB
          replace hm := hm.grow hB
          replace hn := hn.grow hB
          clear hB
          go_wp2_with (fail)
          refine (box_subset _ _ c b _ hc hb (by rw [LB.out, LC.out])).mono ?_
          rintro e w' ⟨he, hB⟩
          obtain rfl : e = .returned (.bool true) := by rw [he, Hδ.out]
          clear he
          obtain ⟨g9, rfl⟩ := grow g8 hB
          replace ha := ha.grow hB
          replace hb := hb.grow hB
          replace hc := hc.grow hB
          replace hp := hp.grow hB
          replace hm := hm.grow hB
          replace hn := hn.grow hB
          clear hB
          go_wp2_with (fail)
          refine (box_subset _ _ c h _ hc hm (by rw [LH.out, LC.out])).mono ?_
          rintro e w' ⟨he, hB⟩
          obtain rfl : e = .returned (.bool true) := by rw [he, V2.out (by trivial) (by trivial)]
          clear he
          obtain ⟨g10, rfl⟩ := grow g9 hB
          replace ha := ha.grow hB
          replace hb := hb.grow hB
          replace hc := hc.grow hB
          replace hp := hp.grow hB
          replace hm := hm.grow hB
          replace hn := hn.grow hB
          clear hB
          go_wp2_with (fail)
          refine (box_valid _ h _ hm).mono ?_
          rintro e w' ⟨he, hB⟩
          obtain rfl : e = .returned (.bool true) := by rw [he, all_valid h k (V4.out (by trivial)) LH.out hk1 hk6]
          clear he
          obtain ⟨g11, rfl⟩ := grow g10 hB
          replace ha := ha.grow hB
          replace hb := hb.grow hB
          replace hc := hc.grow hB
          replace hp := hp.grow hB
          replace hm := hm.grow hB
          replace hn := hn.grow hB
          clear hB
          go_wp2_with (fail)
          refine (box_subset _ _ h a _ hm ha (by rw [LA.out, LH.out])).mono ?_
          rintro e w' ⟨he, hB⟩
          obtain rfl : e = .returned (.bool true) := by rw [he, V5.out]
          clear he
          obtain ⟨g12, rfl⟩ := grow g11 hB
          replace ha := ha.grow hB
          replace hb := hb.grow hB
          replace hc := hc.grow hB
          replace hp := hp.grow hB
          replace hm := hm.grow hB
          replace hn := hn.grow hB
          clear hB
          go_wp2_with (fail)
          refine (box_subset _ _ h b _ hm hb (by rw [LB.out, LH.out])).mono ?_
          rintro e w' ⟨he, hB⟩
          obtain rfl : e = .returned (.bool true) := by rw [he, V6.out]
          clear he
          obtain ⟨g13, rfl⟩ := grow g12 hB
          replace ha := ha.grow hB
          replace hb := hb.grow hB
          replace hc := hc.grow hB
          replace hp := hp.grow hB
          replace hm := hm.grow hB
          replace hn := hn.grow hB
          clear hB
          go_wp2_with (fail)
          refine (box_contains _ _ h m _ hm hp (by rw [LM.out, LH.out])).mono ?_
          rintro e w' ⟨he, hB⟩
          obtain rfl : e = .returned (.bool false) := by rw [he, V7.out]
          clear he
          obtain ⟨g14, rfl⟩ := grow g13 hB
          replace ha := ha.grow hB
          replace hb := hb.grow hB
          replace hc := hc.grow hB
          replace hp := hp.grow hB
          replace hm := hm.grow hB
          replace hn := hn.grow hB
          clear hB
          go_wp2_with (fail)
          refine (box_contains _ _ b m _ hb hp (by rw [LM.out, LB.out])).mono ?_
          rintro e w' ⟨he, hB⟩
          obtain rfl : e = .returned (.bool false) := by rw [he, Hβ.out]
          clear he
          obtain ⟨g15, rfl⟩ := grow g14 hB
          replace ha := ha.grow hB
          replace hb := hb.grow hB
          replace hc := hc.grow hB
          replace hp := hp.grow hB
          replace hm := hm.grow hB
          replace hn := hn.grow hB
          clear hB
          go_wp2_with (fail)
          go_ret
          exact ⟨rfl, below_then hT0 g15.h⟩
    · cases γ
      · skip
        go_wp2_with (fail)
        refine (meet_t _ _ a b h _ ha hb (by rw [LA.out, LB.out]) Z1.out (by rw [LA.out]; omega) Hω.out E1.out).mono ?_
        rintro e w' ⟨v1, rfl, hm, hB⟩
        obtain ⟨g5, rfl⟩ := grow g4 hB
        replace ha := ha.grow hB
        replace hb := hb.grow hB
        replace hc := hc.grow hB
        replace hp := hp.grow hB
        clear hB
        go_wp2_with (fail)
        refine (meet_t _ _ b a h _ hb ha (by rw [LA.out, LB.out]) Z2.out (by rw [LB.out]; omega) HW.out E2.out).mono ?_
        rintro e w' ⟨v2, rfl, hn, hB⟩
        obtain ⟨g6, rfl⟩ := grow g5 hB
        replace ha := ha.grow hB
        replace hb := hb.grow hB
        replace hc := hc.grow hB
        replace hp := hp.grow hB
        replace hm := hm.grow hB
        clear hB
        go_wp2_with (fail)
        refine (r3same _ _ h h _ hm hn).mono ?_
        rintro e w' ⟨he, hB⟩
        obtain rfl : e = .returned (.bool true) := by rw [he, show decide (h = h) = true from decide_eq_true rfl]
        clear he
        obtain ⟨g7, rfl⟩ := grow g6 hB
        replace ha := ha.grow hB
        replace hb := hb.grow hB
        replace hc := hc.grow hB
        replace hp := hp.grow hB
        replace hm := hm.grow hB
        replace hn := hn.grow hB
        clear hB
        go_wp2_with (fail)
        refine (box_subset _ _ c a _ hc ha (by rw [LA.out, LC.out])).mono ?_
        rintro e w' ⟨he, hB⟩
        obtain rfl : e = .returned (.bool false) := by rw [he, Hγ.out]
        clear he
        obtain ⟨g8, rfl⟩ := grow g7 hB
        replace ha := ha.grow hB
        replace hb := hb.grow hB
        replace hc := hc.grow hB
        replace hp := hp.grow hB
        replace hm := hm.grow hB
        replace hn := hn.grow hB
        clear hB
        go_wp2_with (fail)
        refine (box_valid _ h _ hm).mono ?_
        rintro e w' ⟨he, hB⟩
        obtain rfl : e = .returned (.bool true) := by rw [he, all_valid h k (V4.out (by trivial)) LH.out hk1 hk6]
        clear he
        obtain ⟨g9, rfl⟩ := grow g8 hB
        replace ha := ha.grow hB
        replace hb := hb.grow hB
        replace hc := hc.grow hB
        replace hp := hp.grow hB
        replace hm := hm.grow hB
        replace hn := hn.grow hB
        clear hB
        go_wp2_with (fail)
        refine (box_subset _ _ h a _ hm ha (by rw [LA.out, LH.out])).mono ?_
        rintro e w' ⟨he, hB⟩
        obtain rfl : e = .returned (.bool true) := by rw [he, V5.out]
        clear he
        obtain ⟨g10, rfl⟩ := grow g9 hB
        replace ha := ha.grow hB
        replace hb := hb.grow hB
        replace hc := hc.grow hB
        replace hp := hp.grow hB
        replace hm := hm.grow hB
        replace hn := hn.grow hB
        clear hB
        go_wp2_with (fail)
        refine (box_subset _ _ h b _ hm hb (by rw [LB.out, LH.out])).mono ?_
        rintro e w' ⟨he, hB⟩
        obtain rfl : e = .returned (.bool true) := by rw [he, V6.out]
        clear he
        obtain ⟨g11, rfl⟩ := grow g10 hB
        replace ha := ha.grow hB
        replace hb := hb.grow hB
        replace hc := hc.grow hB
        replace hp := hp.grow hB
        replace hm := hm.grow hB
        replace hn := hn.grow hB
        clear hB
        go_wp2_with (fail)
        refine (box_contains _ _ h m _ hm hp (by rw [LM.out, LH.out])).mono ?_
        rintro e w' ⟨he, hB⟩
        obtain rfl : e = .returned (.bool true) := by rw [he, V7.out]
        clear he
        obtain ⟨g12, rfl⟩ := grow g11 hB
        replace ha := ha.grow hB
        replace hb := hb.grow hB
        replace hc := hc.grow hB
        replace hp := hp.grow hB
        replace hm := hm.grow hB
        replace hn := hn.grow hB
        clear hB
        go_wp2_with (fail)
        refine (box_contains _ _ b m _ hb hp (by rw [LM.out, LB.out])).mono ?_
        rintro e w' ⟨he, hB⟩
        obtain rfl : e = .returned (.bool true) := by rw [he, Hβ.out]
        clear he
        obtain ⟨g13, rfl⟩ := grow g12 hB
        replace ha := ha.grow hB
        replace hb := hb.grow hB
        replace hc := hc.grow hB
        replace hp := hp.grow hB
        replace hm := hm.grow hB
        replace hn := hn.grow hB
        clear hB
        go_wp2_with (fail)
        go_ret
        exact ⟨rfl, below_then hT0 g13.h⟩
      · cases δ
        · skip
          go_wp2_with (fail)
          refine (meet_t _ _ a b h _ ha hb (by rw [LA.out, LB.out]) Z1.out (by rw [LA.out]; omega) Hω.out E1.out).mono ?_
          rintro e w' ⟨v1, rfl, hm, hB⟩
          obtain ⟨g5, rfl⟩ := grow g4 hB
          replace ha := ha.grow hB
          replace hb := hb.grow hB
          replace hc := hc.grow hB
          replace hp := hp.grow hB
          clear hB
          go_wp2_with (fail)
          refine (meet_t _ _ b a h _ hb ha (by rw [LA.out, LB.out]) Z2.out (by rw [LB.out]; omega) HW.out E2.out).mono ?_
          rintro e w' ⟨v2, rfl, hn, hB⟩
          obtain ⟨g6, rfl⟩ := grow g5 hB
          replace ha := ha.grow hB
          replace hb := hb.grow hB
          replace hc := hc.grow hB
          replace hp := hp.grow hB
          replace hm := hm.grow hB
          clear hB
          go_wp2_with (fail)
          refine (r3same _ _ h h _ hm hn).mono ?_
          rintro e w' ⟨he, hB⟩
          obtain rfl : e = .returned (.bool true) := by rw [he, show decide (h = h) = true from decide_eq_true rfl]
          clear he
          obtain ⟨g7, rfl⟩ := grow g6 hB
          replace ha := ha.grow hB
          replace hb := hb.grow hB
          replace hc := hc.grow hB
          replace hp := hp.grow hB
          replace hm := hm.grow hB
          replace hn := hn.grow hB
          clear hB
          go_wp2_with (fail)
          refine (box_subset _ _ c a _ hc ha (by rw [LA.out, LC.out])).mono ?_
          rintro e w' ⟨he, hB⟩
          obtain rfl : e = .returned (.bool true) := by rw [he, Hγ.out]
          clear he
          obtain ⟨g8, rfl⟩ := grow g7 hB
          replace ha := ha.grow hB
          replace hb := hb.grow hB
          replace hc := hc.grow hB
          replace hp := hp.grow hB
          replace hm := hm.grow hB
          replace hn := hn.grow hB
          clear hB
          go_wp2_with (fail)
          refine (box_subset _ _ c b _ hc hb (by rw [LB.out, LC.out])).mono ?_
          rintro e w' ⟨he, hB⟩
          obtain rfl : e = .returned (.bool false) := by rw [he, Hδ.out]
          clear he
          obtain ⟨g9, rfl⟩ := grow g8 hB
          replace ha := ha.grow hB
          replace hb := hb.grow hB
          replace hc := hc.grow hB
          replace hp := hp.grow hB
          replace hm := hm.grow hB
          replace hn := hn.grow hB
          clear hB
          go_wp2_with (fail)
          refine (box_valid _ h _ hm).mono ?_
          rintro e w' ⟨he, hB⟩
          obtain rfl : e = .returned (.bool true) := by rw [he, all_valid h k (V4.out (by trivial)) LH.out hk1 hk6]
          clear he
          obtain ⟨g10, rfl⟩ := grow g9 hB
          replace ha := ha.grow hB
          replace hb := hb.grow hB
          replace hc := hc.grow hB
          replace hp := hp.grow hB
          replace hm := hm.grow hB
          replace hn := hn.grow hB
          clear hB
          go_wp2_with (fail)
          refine (box_subset _ _ h a _ hm ha (by rw [LA.out, LH.out])).mono ?_
          rintro e w' ⟨he, hB⟩
          obtain rfl : e = .returned (.bool true) := by rw [he, V5.out]
          clear he
          obtain ⟨g11, rfl⟩ := grow g10 hB
          replace ha := ha.grow hB
          replace hb := hb.grow hB
          replace hc := hc.grow hB
          replace hp := hp.grow hB
          replace hm := hm.grow hB
          replace hn := hn.grow hB
          clear hB
          go_wp2_with (fail)
          refine (box_subset _ _ h b _ hm hb (by rw [LB.out, LH.out])).mono ?_
          rintro e w' ⟨he, hB⟩
          obtain rfl : e = .returned (.bool true) := by rw [he, V6.out]
          clear he
          obtain ⟨g12, rfl⟩ := grow g11 hB
          replace ha := ha.grow hB
          replace hb := hb.grow hB
          replace hc := hc.grow hB
          replace hp := hp.grow hB
          replace hm := hm.grow hB
          replace hn := hn.grow hB
          clear hB
          go_wp2_with (fail)
          refine (box_contains _ _ h m _ hm hp (by rw [LM.out, LH.out])).mono ?_
          rintro e w' ⟨he, hB⟩
          obtain rfl : e = .returned (.bool true) := by rw [he, V7.out]
          clear he
          obtain ⟨g13, rfl⟩ := grow g12 hB
          replace ha := ha.grow hB
          replace hb := hb.grow hB
          replace hc := hc.grow hB
          replace hp := hp.grow hB
          replace hm := hm.grow hB
          replace hn := hn.grow hB
          clear hB
          go_wp2_with (fail)
          refine (box_contains _ _ b m _ hb hp (by rw [LM.out, LB.out])).mono ?_
          rintro e w' ⟨he, hB⟩
          obtain rfl : e = .returned (.bool true) := by rw [he, Hβ.out]
          clear he
          obtain ⟨g14, rfl⟩ := grow g13 hB
          replace ha := ha.grow hB
          replace hb := hb.grow hB
          replace hc := hc.grow hB
          replace hp := hp.grow hB
          replace hm := hm.grow hB
          replace hn := hn.grow hB
          clear hB
          go_wp2_with (fail)
          go_ret
          exact ⟨rfl, below_then hT0 g14.h⟩
        · skip
          go_wp2_with (fail)
          refine (meet_t _ _ a b h _ ha hb (by rw [LA.out, LB.out]) Z1.out (by rw [LA.out]; omega) Hω.out E1.out).mono ?_
          rintro e w' ⟨v1, rfl, hm, hB⟩
          obtain ⟨g5, rfl⟩ := grow g4 hB
          replace ha := ha.grow hB
          replace hb := hb.grow hB
          replace hc := hc.grow hB
          replace hp := hp.grow hB
          clear hB
          go_wp2_with (fail)
          refine (meet_t _ _ b a h _ hb ha (by rw [LA.out, LB.out]) Z2.out (by rw [LB.out]; omega) HW.out E2.out).mono ?_
          rintro e w' ⟨v2, rfl, hn, hB⟩
          obtain ⟨g6, rfl⟩ := grow g5 hB
          replace ha := ha.grow hB
          replace hb := hb.grow hB
          replace hc := hc.grow hB
          replace hp := hp.grow hB
          replace hm := hm.grow hB
          clear hB
          go_wp2_with (fail)
          refine (r3same _ _ h h _ hm hn).mono ?_
          rintro e w' ⟨he, hB⟩
          obtain rfl : e = .returned (.bool true) := by rw [he, show decide (h = h) = true from decide_eq_true rfl]
          clear he
          obtain ⟨g7, rfl⟩ := grow g6 hB
          replace ha := ha.grow hB
          replace hb := hb.grow hB
          replace hc := hc.grow hB
          replace hp := hp.grow hB
          replace hm := hm.grow hB
          replace hn := hn.grow hB
          clear hB
          go_wp2_with (fail)
          refine (box_subset _ _ c a _ hc ha (by rw [LA.out, LC.out])).mono ?_
          rintro e w' ⟨he, hB⟩
          obtain rfl : e = .returned (.bool true) := by rw [he, Hγ.out]
          clear he
          obtain ⟨g8, rfl⟩ := grow g7 hB
          replace ha := ha.grow hB
          replace hb := hb.grow hB
          replace hc := hc.grow hB
          replace hp := hp.grow hB
          replace hm := hm.grow hB
          replace hn := hn.grow hB
          clear hB
          go_wp2_with (fail)
          refine (box_subset _ _ c b _ hc hb (by rw [LB.out, LC.out])).mono ?_
          rintro e w' ⟨he, hB⟩
          obtain rfl : e = .returned (.bool true) := by rw [he, Hδ.out]
          clear he
          obtain ⟨g9, rfl⟩ := grow g8 hB
          replace ha := ha.grow hB
          replace hb := hb.grow hB
          replace hc := hc.grow hB
          replace hp := hp.grow hB
          replace hm := hm.grow hB
          replace hn := hn.grow hB
          clear hB
          go_wp2_with (fail)
          refine (box_subset _ _ c h _ hc hm (by rw [LH.out, LC.out])).mono ?_
          rintro e w' ⟨he, hB⟩
          obtain rfl : e = .returned (.bool true) := by rw [he, V2.out (by trivial) (by trivial)]
          clear he
          obtain ⟨g10, rfl⟩ := grow g9 hB
          replace ha := ha.grow hB
          replace hb := hb.grow hB
          replace hc := hc.grow hB
          replace hp := hp.grow hB
          replace hm := hm.grow hB
          replace hn := hn.grow hB
          clear hB
          go_wp2_with (fail)
          refine (box_valid _ h _ hm).mono ?_
          rintro e w' ⟨he, hB⟩
          obtain rfl : e = .returned (.bool true) := by rw [he, all_valid h k (V4.out (by trivial)) LH.out hk1 hk6]
          clear he
          obtain ⟨g11, rfl⟩ := grow g10 hB
          replace ha := ha.grow hB
          replace hb := hb.grow hB
          replace hc := hc.grow hB
          replace hp := hp.grow hB
          replace hm := hm.grow hB
          replace hn := hn.grow hB
          clear hB
          go_wp2_with (fail)
          refine (box_subset _ _ h a _ hm ha (by rw [LA.out, LH.out])).mono ?_
          rintro e w' ⟨he, hB⟩
          obtain rfl : e = .returned (.bool true) := by rw [he, V5.out]
          clear he
          obtain ⟨g12, rfl⟩ := grow g11 hB
          replace ha := ha.grow hB
          replace hb := hb.grow hB
          replace hc := hc.grow hB
          replace hp := hp.grow hB
          replace hm := hm.grow hB
          replace hn := hn.grow hB
          clear hB
          go_wp2_with (fail)
          refine (box_subset _ _ h b _ hm hb (by rw [LB.out, LH.out])).mono ?_
          rintro e w' ⟨he, hB⟩
          obtain rfl : e = .returned (.bool true) := by rw [he, V6.out]
          clear he
          obtain ⟨g13, rfl⟩ := grow g12 hB
          replace ha := ha.grow hB
          replace hb := hb.grow hB
          replace hc := hc.grow hB
          replace hp := hp.grow hB
          replace hm := hm.grow hB
          replace hn := hn.grow hB
          clear hB
          go_wp2_with (fail)
          refine (box_contains _ _ h m _ hm hp (by rw [LM.out, LH.out])).mono ?_
          rintro e w' ⟨he, hB⟩
          obtain rfl : e = .returned (.bool true) := by rw [he, V7.out]
          clear he
          obtain ⟨g14, rfl⟩ := grow g13 hB
          replace ha := ha.grow hB
          replace hb := hb.grow hB
          replace hc := hc.grow hB
          replace hp := hp.grow hB
          replace hm := hm.grow hB
          replace hn := hn.grow hB
          clear hB
          go_wp2_with (fail)
          refine (box_contains _ _ b m _ hb hp (by rw [LM.out, LB.out])).mono ?_
          rintro e w' ⟨he, hB⟩
          obtain rfl : e = .returned (.bool true) := by rw [he, Hβ.out]
          clear he
          obtain ⟨g15, rfl⟩ := grow g14 hB
          replace ha := ha.grow hB
          replace hb := hb.grow hB
          replace hc := hc.grow hB
          replace hp := hp.grow hB
          replace hm := hm.grow hB
          replace hn := hn.grow hB
          clear hB
          go_wp2_with (fail)
          go_ret
          exact ⟨rfl, below_then hT0 g15.h⟩
theorem glb (w : World) (vA vB vC p0 p1 : Value) (n : Int) (la lb lc : List (Int × Int)) (f0 f1 : List Int) (hA : Bx w vA la ∧ I64 la) (hB : Bx w vB lb ∧ I64 lb) (hC : Bx w vC lc ∧ I64 lc) (hn : 0 ≤ n ∧ n < 256) (h0 : Us w p0 f0 ∧ U16 f0) (h1 : Us w p1 f1 ∧ U16 f1) :
    Calls Try.prog 7 #[.agg #[vA, vB, vC, .int .u8 n, p0, p1]] w fun e w' => e = .returned (.bool true) ∧ Below w.heap.size w w' :=
  glb_walk vA vB vC p0 p1 la lb lc f0 f1 n w hA.1 hB.1 hC.1 hA.2 hB.2 hC.2 hn.1 hn.2 h0.1 h0.2 h1.1 h1.2
end Go.Proofs.Ytpepgheocemjdaa
