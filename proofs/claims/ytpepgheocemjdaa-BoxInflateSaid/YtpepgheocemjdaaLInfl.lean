/-
  law03: BoxInflate.
-/
import Derived.Test.YtpepgheocemjdaaBoxM
import Derived.Test.YtpepgheocemjdaaSan3
import Derived.Test.YtpepgheocemjdaaInputP
namespace Go.Proofs.Ytpepgheocemjdaa
open Go.ChangeShapes Go.WideShapes Go.ChangeAt Go.RowKit
set_option linter.unusedVariables false
set_option linter.unusedSimpArgs false
set_option maxRecDepth 100000

attribute [local irreducible] Calls
theorem infl_as (v : Value) (l r : List (Int × Int)) (d : Int) (w : World) (hv : Bx w v l) (hsm : l.length ≤ 1000) (hd0 : 0 ≤ d) (hd1 : d ≤ 4294967296) (hv' : ∀ p ∈ l, VB p) (hr : l.map (inflI d) = r) :
    Calls Try.prog 42 #[v, .int .i64 d] w fun e W' => ∃ u, e = .returned u ∧ Bx W' u r ∧ Below w.heap.size w W' := by
  subst hr
  exact box_inflate v l d w hv hsm hd0 hd1 hv'
set_option maxHeartbeats 32000000 in
theorem infl_walk (vA vB vC p0 p1 : Value) (la lb lc : List (Int × Int)) (f f' : List Int) (n : Int) (w : World) (hA : Bx w vA la) (hB : Bx w vB lb) (hC : Bx w vC lc) (ba : I64 la) (bb : I64 lb) (bc : I64 lc) (hn0 : 0 ≤ n) (hn1 : n < 256) (hF : Us w p0 f) (bf : U16 f) (hF' : Us w p1 f') (bf' : U16 f') (d e' : Int) (hd0 : -9223372036854775808 ≤ d) (hd1 : d ≤ 9223372036854775807) (he0 : -9223372036854775808 ≤ e') (he1 : e' ≤ 9223372036854775807) :
    Calls Try.prog 11 #[.agg #[vA, vB, vC, .int .u8 n, p0, p1], .int .i64 d, .int .i64 e'] w fun e w' => e = .returned (.bool true) ∧ Below w.heap.size w w' := by
  have hm0 : 0 ≤ n % 6 := Int.emod_nonneg _ (by decide)
  have hm1 : n % 6 < 6 := Int.emod_lt_of_pos _ (by decide)
  obtain ⟨k, hk⟩ : ∃ k : Nat, 1 + n % 6 = (k : Int) := ⟨(1 + n % 6).toNat, by omega⟩
  have hk1 : 1 ≤ k := by omega
  have hk6 : k ≤ 6 := by omega
  have HF := Lib.hid hF
  have BF := Lib.hid bf
  have HG := Lib.hid hF'
  have BG := Lib.hid bf'
  have HA := Lib.hid hA
  have HB := Lib.hid hB
  have HC := Lib.hid hC
  have BA := Lib.hid ba
  have BB := Lib.hid bb
  have BC := Lib.hid bc
  clear hA hB hC ba bb bc hF bf hF' bf'
  go_enter Try.func11, Try.ntmps11
  go_wp2_with (fail)
  generalize hW0 : World.alloc w _ = W0
  have hT0 : Below w.heap.size w W0 := by subst hW0; exact ((Below.refl w.heap.size w).alloc (by go_size) _)
  have Y0 : w.heap.size < W0.heap.size := by subst hW0; simp <;> omega
  have F0_0 : ∀ g : Grown W0, g.w.cell? ⟨w.heap.size, 0, none⟩ = some (vA) := fun g => (g.cell Y0).trans (by subst hW0; simp [go_sem])
  have F0_1 : ∀ g : Grown W0, g.w.cell? ⟨w.heap.size, 1, none⟩ = some (vB) := fun g => (g.cell Y0).trans (by subst hW0; simp [go_sem])
  have F0_2 : ∀ g : Grown W0, g.w.cell? ⟨w.heap.size, 2, none⟩ = some (vC) := fun g => (g.cell Y0).trans (by subst hW0; simp [go_sem])
  have F0_3 : ∀ g : Grown W0, g.w.cell? ⟨w.heap.size, 3, none⟩ = some (.int .u8 n) := fun g => (g.cell Y0).trans (by subst hW0; simp [go_sem])
  have F0_4 : ∀ g : Grown W0, g.w.cell? ⟨w.heap.size, 4, none⟩ = some (p0) := fun g => (g.cell Y0).trans (by subst hW0; simp [go_sem])
  have F0_5 : ∀ g : Grown W0, g.w.cell? ⟨w.heap.size, 5, none⟩ = some (p1) := fun g => (g.cell Y0).trans (by subst hW0; simp [go_sem])
  clear Y0 hW0
  obtain ⟨g0, hg0⟩ : ∃ g : Grown W0, W0 = g.w := ⟨⟨W0, Below.refl _ _⟩, rfl⟩
  rw [hg0]
  refine (sanity3 _).mono ?_
  rintro e w' ⟨rfl, hB⟩
  obtain ⟨g1, rfl⟩ := grow g0 hB
  clear hB hg0
  go_wp2_with (fail)
  refine (law_boxes vA vB vC p0 p1 la lb n k _ ((HA.out.grow hT0).grow g1.h) ((HB.out.grow hT0).grow g1.h) BA.out BB.out hn0 hn1 hk hk6).mono ?_
  rintro e w' ⟨va, vb, a, b, rfl, a1, b1, a2, b2, ha, hb, hB⟩
  obtain ⟨g2, rfl⟩ := grow g1 hB
  have LA := Lib.hid a1
  have LB := Lib.hid b1
  have VBa := Lib.hid a2
  have VBb := Lib.hid b2
  clear hB a1 b1 a2 b2
  go_wp2_with (fail)
  refine (law_mag d _ hd0 hd1).mono ?_
  rintro e w' ⟨rfl, rfl⟩
  go_wp2_with (fail)
  refine (law_mag e' _ he0 he1).mono ?_
  rintro e w' ⟨rfl, rfl⟩
  have lab : b.length = a.length := by rw [LA.out, LB.out]
  obtain ⟨M1, hM1⟩ : ∃ x, mag d = x := ⟨_, rfl⟩
  obtain ⟨N1, hN1⟩ : ∃ x, mag e' = x := ⟨_, rfl⟩
  have bM := mag_bd d
  have bN := mag_bd e'
  rw [hM1] at bM
  rw [hN1] at bN
  rw [hM1, hN1]
  clear hM1 hN1
  have bM0 := bM.1
  have bM1 := bM.2
  have bN0 := bN.1
  have bN1 := bN.2
  clear bM bN
  have bM2 : M1 ≤ 4294967296 := by omega
  have bN2 : N1 ≤ 4294967296 := by omega
  have V2 := Lib.hid (infl_sup M1 a VBa.out bM0)
  have V3 := Lib.hid (show decide (a.map (inflI 0) = a) = true from decide_eq_true (infl_zero a VBa.out))
  have V4 := Lib.hid (show decide ((a.map (inflI M1)).map (inflI N1) = a.map (inflI (M1 + N1))) = true from decide_eq_true (infl_add M1 N1 a VBa.out bM0 bN0))
  have V5 := Lib.hid (infl_meet M1 a b bM0 VBa.out VBb.out)
  have V6 := Lib.hid (infl_mono M1 a b bM0 VBa.out VBb.out)
  have VS := Lib.hid (infl_vb M1 a VBa.out bM0)
  have VT := Lib.hid (infl_vb M1 b VBb.out bM0)
  have LS : Hid ((a.map (inflI M1)).length = k) := Lib.hid (by rw [List.length_map, LA.out])
  have LT : Hid ((b.map (inflI M1)).length = k) := Lib.hid (by rw [List.length_map, LB.out])
  clear lab
  obtain ⟨S, hS⟩ : ∃ x, a.map (inflI M1) = x := ⟨_, rfl⟩
  obtain ⟨T, hT⟩ : ∃ x, b.map (inflI M1) = x := ⟨_, rfl⟩
  rw [hS] at V2 V4 V5 V6 VS LS
  rw [hT] at V5 V6 VT LT
  have ES := Lib.hid hS
  have ET := Lib.hid hT
  clear hS hT
  have V1 := Lib.hid (all_valid S k VS.out LS.out hk1 hk6)
  have Z1 := Lib.hid (vb_zip S b VS.out VBb.out)
  have Z2 := Lib.hid (vb_zip a T VBa.out VT.out)
  obtain ⟨φ, hφ⟩ : ∃ x, (S.zip b).all okM = x := ⟨_, rfl⟩
  have Hφ := Lib.hid hφ
  obtain ⟨ψ, hψ⟩ : ∃ x, (a.zip T).all okM = x := ⟨_, rfl⟩
  have Hψ := Lib.hid hψ
  obtain ⟨μ, hμ⟩ : ∃ x, unb S = x := ⟨_, rfl⟩
  have Hμ := Lib.hid hμ
  obtain ⟨ν, hν⟩ : ∃ x, unb T = x := ⟨_, rfl⟩
  have Hν := Lib.hid hν
  obtain ⟨δ, hδ⟩ : ∃ x, (a.zip b).all sub1 = x := ⟨_, rfl⟩
  have Hδ := Lib.hid hδ
  replace V5 := Lib.hid (show μ = false → ν = false → φ = ψ from fun x y => (hφ.symm.trans (V5.out (hμ.trans x) (hν.trans y))).trans hψ)
  replace V6 := Lib.hid (show δ = true → (S.zip T).all sub1 = true from fun x => V6.out (hδ.trans x))
  clear hφ hψ hμ hν hδ
  go_wp2_with (fail)
  refine (infl_as _ a S M1 _ ha (by rw [LA.out]; omega) bM0 bM2 VBa.out ES.out).mono ?_
  rintro e w' ⟨v1, rfl, hs, hB⟩
  obtain ⟨g3, rfl⟩ := grow g2 hB
  replace ha := ha.grow hB
  replace hb := hb.grow hB
  clear hB
  go_wp2_with (fail)
  refine (box_valid _ S _ hs).mono ?_
  rintro e w' ⟨he, hB⟩
  obtain rfl : e = .returned (.bool true) := by rw [he, V1.out]
  clear he
  obtain ⟨g4, rfl⟩ := grow g3 hB
  replace ha := ha.grow hB
  replace hb := hb.grow hB
  replace hs := hs.grow hB
  clear hB
  go_wp2_with (fail)
  refine (box_subset _ _ a S _ ha hs (by rw [LA.out, LS.out])).mono ?_
  rintro e w' ⟨he, hB⟩
  obtain rfl : e = .returned (.bool true) := by rw [he, V2.out]
  clear he
  obtain ⟨g5, rfl⟩ := grow g4 hB
  replace ha := ha.grow hB
  replace hb := hb.grow hB
  replace hs := hs.grow hB
  clear hB
  go_wp2_with (fail)
  refine (infl_as _ a (a.map (inflI 0)) 0 _ ha (by rw [LA.out]; omega) (by decide) (by decide) VBa.out rfl).mono ?_
  rintro e w' ⟨v2, rfl, hx, hB⟩
  obtain ⟨g6, rfl⟩ := grow g5 hB
  replace ha := ha.grow hB
  replace hb := hb.grow hB
  replace hs := hs.grow hB
  clear hB
  go_wp2_with (fail)
  refine (r3same _ _ _ a _ hx ha).mono ?_
  rintro e w' ⟨he, hB⟩
  obtain rfl : e = .returned (.bool true) := by rw [he, V3.out]
  clear he
  obtain ⟨g7, rfl⟩ := grow g6 hB
  replace ha := ha.grow hB
  replace hb := hb.grow hB
  replace hs := hs.grow hB
  replace hx := hx.grow hB
  clear hB
  clear hx
  go_wp2_with (fail)
  refine (infl_as _ S (S.map (inflI N1)) N1 _ hs (by rw [LS.out]; omega) bN0 bN2 VS.out rfl).mono ?_
  rintro e w' ⟨v3, rfl, hx, hB⟩
  obtain ⟨g8, rfl⟩ := grow g7 hB
  replace ha := ha.grow hB
  replace hb := hb.grow hB
  replace hs := hs.grow hB
  clear hB
  go_wp2_with (fail)
  refine (infl_as _ a (a.map (inflI (M1 + N1))) (M1 + N1) _ ha (by rw [LA.out]; omega) (by omega) (by omega) VBa.out rfl).mono ?_
  rintro e w' ⟨v4, rfl, hy, hB⟩
  obtain ⟨g9, rfl⟩ := grow g8 hB
  replace ha := ha.grow hB
  replace hb := hb.grow hB
  replace hs := hs.grow hB
  replace hx := hx.grow hB
  clear hB
  go_wp2_with (fail)
  refine (r3same _ _ _ _ _ hx hy).mono ?_
  rintro e w' ⟨he, hB⟩
  obtain rfl : e = .returned (.bool true) := by rw [he, V4.out]
  clear he
  obtain ⟨g10, rfl⟩ := grow g9 hB
  replace ha := ha.grow hB
  replace hb := hb.grow hB
  replace hs := hs.grow hB
  replace hx := hx.grow hB
  replace hy := hy.grow hB
  clear hB
  clear hx hy
  cases φ
  · cases ψ
    · cases δ
      · skip
        go_wp2_with (fail)
        refine (meet_f _ _ S b _ hs hb (by rw [LS.out, LB.out]) Z1.out (by rw [LS.out]; omega) Hφ.out).mono ?_
        rintro e w' ⟨he, hB⟩
        obtain rfl : e = .returned (.tuple #[.slice none 0 0, .bool false]) := by rw [he]
        clear he
        obtain ⟨g11, rfl⟩ := grow g10 hB
        replace ha := ha.grow hB
        replace hb := hb.grow hB
        replace hs := hs.grow hB
        clear hB
        go_wp2_with (fail)
        refine (infl_as _ b T M1 _ hb (by rw [LB.out]; omega) bM0 bM2 VBb.out ET.out).mono ?_
        rintro e w' ⟨v5, rfl, ht, hB⟩
        obtain ⟨g12, rfl⟩ := grow g11 hB
        replace ha := ha.grow hB
        replace hb := hb.grow hB
        replace hs := hs.grow hB
        clear hB
        go_wp2_with (fail)
        refine (meet_f _ _ a T _ ha ht (by rw [LA.out, LT.out]) Z2.out (by rw [LA.out]; omega) Hψ.out).mono ?_
        rintro e w' ⟨he, hB⟩
        obtain rfl : e = .returned (.tuple #[.slice none 0 0, .bool false]) := by rw [he]
        clear he
        obtain ⟨g13, rfl⟩ := grow g12 hB
        replace ha := ha.grow hB
        replace hb := hb.grow hB
        replace hs := hs.grow hB
        replace ht := ht.grow hB
        clear hB
        go_wp2_with (fail)
        refine (box_subset _ _ a b _ ha hb (by rw [LA.out, LB.out])).mono ?_
        rintro e w' ⟨he, hB⟩
        obtain rfl : e = .returned (.bool false) := by rw [he, Hδ.out]
        clear he
        obtain ⟨g14, rfl⟩ := grow g13 hB
        replace ha := ha.grow hB
        replace hb := hb.grow hB
        replace hs := hs.grow hB
        replace ht := ht.grow hB
        clear hB
        go_wp2_with (fail)
        go_ret
        exact ⟨rfl, below_then hT0 g14.h⟩
      · skip
        go_wp2_with (fail)
        refine (meet_f _ _ S b _ hs hb (by rw [LS.out, LB.out]) Z1.out (by rw [LS.out]; omega) Hφ.out).mono ?_
        rintro e w' ⟨he, hB⟩
        obtain rfl : e = .returned (.tuple #[.slice none 0 0, .bool false]) := by rw [he]
        clear he
        obtain ⟨g11, rfl⟩ := grow g10 hB
        replace ha := ha.grow hB
        replace hb := hb.grow hB
        replace hs := hs.grow hB
        clear hB
        go_wp2_with (fail)
        refine (infl_as _ b T M1 _ hb (by rw [LB.out]; omega) bM0 bM2 VBb.out ET.out).mono ?_
        rintro e w' ⟨v5, rfl, ht, hB⟩
        obtain ⟨g12, rfl⟩ := grow g11 hB
        replace ha := ha.grow hB
        replace hb := hb.grow hB
        replace hs := hs.grow hB
        clear hB
        go_wp2_with (fail)
        refine (meet_f _ _ a T _ ha ht (by rw [LA.out, LT.out]) Z2.out (by rw [LA.out]; omega) Hψ.out).mono ?_
        rintro e w' ⟨he, hB⟩
        obtain rfl : e = .returned (.tuple #[.slice none 0 0, .bool false]) := by rw [he]
        clear he
        obtain ⟨g13, rfl⟩ := grow g12 hB
        replace ha := ha.grow hB
        replace hb := hb.grow hB
        replace hs := hs.grow hB
        replace ht := ht.grow hB
        clear hB
        go_wp2_with (fail)
        refine (box_subset _ _ a b _ ha hb (by rw [LA.out, LB.out])).mono ?_
        rintro e w' ⟨he, hB⟩
        obtain rfl : e = .returned (.bool true) := by rw [he, Hδ.out]
        clear he
        obtain ⟨g14, rfl⟩ := grow g13 hB
        replace ha := ha.grow hB
        replace hb := hb.grow hB
        replace hs := hs.grow hB
        replace ht := ht.grow hB
        clear hB
        go_wp2_with (fail)
        refine (infl_as _ b T M1 _ hb (by rw [LB.out]; omega) bM0 bM2 VBb.out ET.out).mono ?_
        rintro e w' ⟨v7, rfl, ht3, hB⟩
        obtain ⟨g15, rfl⟩ := grow g14 hB
        replace ha := ha.grow hB
        replace hb := hb.grow hB
        replace hs := hs.grow hB
        replace ht := ht.grow hB
        clear hB
        go_wp2_with (fail)
        refine (box_subset _ _ S T _ hs ht3 (by rw [LS.out, LT.out])).mono ?_
        rintro e w' ⟨he, hB⟩
        obtain rfl : e = .returned (.bool true) := by rw [he, V6.out (by trivial)]
        clear he
        obtain ⟨g16, rfl⟩ := grow g15 hB
        replace ha := ha.grow hB
        replace hb := hb.grow hB
        replace hs := hs.grow hB
        replace ht := ht.grow hB
        replace ht3 := ht3.grow hB
        clear hB
        go_wp2_with (fail)
        go_ret
        exact ⟨rfl, below_then hT0 g16.h⟩
    · cases μ
      · cases ν
        · exact absurd (V5.out rfl rfl) (by decide)
        · cases δ
          · skip
            go_wp2_with (fail)
            refine (meet_f _ _ S b _ hs hb (by rw [LS.out, LB.out]) Z1.out (by rw [LS.out]; omega) Hφ.out).mono ?_
            rintro e w' ⟨he, hB⟩
            obtain rfl : e = .returned (.tuple #[.slice none 0 0, .bool false]) := by rw [he]
            clear he
            obtain ⟨g11, rfl⟩ := grow g10 hB
            replace ha := ha.grow hB
            replace hb := hb.grow hB
            replace hs := hs.grow hB
            clear hB
            go_wp2_with (fail)
            refine (infl_as _ b T M1 _ hb (by rw [LB.out]; omega) bM0 bM2 VBb.out ET.out).mono ?_
            rintro e w' ⟨v5, rfl, ht, hB⟩
            obtain ⟨g12, rfl⟩ := grow g11 hB
            replace ha := ha.grow hB
            replace hb := hb.grow hB
            replace hs := hs.grow hB
            clear hB
            go_wp2_with (fail)
            refine (meet_t _ _ a T _ _ ha ht (by rw [LA.out, LT.out]) Z2.out (by rw [LA.out]; omega) Hψ.out rfl).mono ?_
            rintro e w' ⟨vq, rfl, hq, hB⟩
            obtain ⟨g13, rfl⟩ := grow g12 hB
            replace ha := ha.grow hB
            replace hb := hb.grow hB
            replace hs := hs.grow hB
            replace ht := ht.grow hB
            clear hB
            clear hq
            go_wp2_with (fail)
            refine (law_unb _ S _ hs).mono ?_
            rintro e w' ⟨he, hB⟩
            obtain rfl : e = .returned (.bool false) := by rw [he, Hμ.out]
            clear he
            obtain ⟨g14, rfl⟩ := grow g13 hB
            replace ha := ha.grow hB
            replace hb := hb.grow hB
            replace hs := hs.grow hB
            replace ht := ht.grow hB
            clear hB
            go_wp2_with (fail)
            refine (infl_as _ b T M1 _ hb (by rw [LB.out]; omega) bM0 bM2 VBb.out ET.out).mono ?_
            rintro e w' ⟨v6, rfl, ht2, hB⟩
            obtain ⟨g15, rfl⟩ := grow g14 hB
            replace ha := ha.grow hB
            replace hb := hb.grow hB
            replace hs := hs.grow hB
            replace ht := ht.grow hB
            clear hB
            go_wp2_with (fail)
            refine (law_unb _ T _ ht2).mono ?_
            rintro e w' ⟨he, hB⟩
            obtain rfl : e = .returned (.bool true) := by rw [he, Hν.out]
            clear he
            obtain ⟨g16, rfl⟩ := grow g15 hB
            replace ha := ha.grow hB
            replace hb := hb.grow hB
            replace hs := hs.grow hB
            replace ht := ht.grow hB
            replace ht2 := ht2.grow hB
            clear hB
            go_wp2_with (fail)
            refine (box_subset _ _ a b _ ha hb (by rw [LA.out, LB.out])).mono ?_
            rintro e w' ⟨he, hB⟩
            obtain rfl : e = .returned (.bool false) := by rw [he, Hδ.out]
            clear he
            obtain ⟨g17, rfl⟩ := grow g16 hB
            replace ha := ha.grow hB
            replace hb := hb.grow hB
            replace hs := hs.grow hB
            replace ht := ht.grow hB
            replace ht2 := ht2.grow hB
            clear hB
            go_wp2_with (fail)
            go_ret
            exact ⟨rfl, below_then hT0 g17.h⟩
          · skip
            go_wp2_with (fail)
            refine (meet_f _ _ S b _ hs hb (by rw [LS.out, LB.out]) Z1.out (by rw [LS.out]; omega) Hφ.out).mono ?_
            rintro e w' ⟨he, hB⟩
            obtain rfl : e = .returned (.tuple #[.slice none 0 0, .bool false]) := by rw [he]
            clear he
            obtain ⟨g11, rfl⟩ := grow g10 hB
            replace ha := ha.grow hB
            replace hb := hb.grow hB
            replace hs := hs.grow hB
            clear hB
            go_wp2_with (fail)
            refine (infl_as _ b T M1 _ hb (by rw [LB.out]; omega) bM0 bM2 VBb.out ET.out).mono ?_
            rintro e w' ⟨v5, rfl, ht, hB⟩
            obtain ⟨g12, rfl⟩ := grow g11 hB
            replace ha := ha.grow hB
            replace hb := hb.grow hB
            replace hs := hs.grow hB
            clear hB
            go_wp2_with (fail)
            refine (meet_t _ _ a T _ _ ha ht (by rw [LA.out, LT.out]) Z2.out (by rw [LA.out]; omega) Hψ.out rfl).mono ?_
            rintro e w' ⟨vq, rfl, hq, hB⟩
            obtain ⟨g13, rfl⟩ := grow g12 hB
            replace ha := ha.grow hB
            replace hb := hb.grow hB
            replace hs := hs.grow hB
            replace ht := ht.grow hB
            clear hB
            clear hq
            go_wp2_with (fail)
            refine (law_unb _ S _ hs).mono ?_
            rintro e w' ⟨he, hB⟩
            obtain rfl : e = .returned (.bool false) := by rw [he, Hμ.out]
            clear he
            obtain ⟨g14, rfl⟩ := grow g13 hB
            replace ha := ha.grow hB
            replace hb := hb.grow hB
            replace hs := hs.grow hB
            replace ht := ht.grow hB
            clear hB
            go_wp2_with (fail)
            refine (infl_as _ b T M1 _ hb (by rw [LB.out]; omega) bM0 bM2 VBb.out ET.out).mono ?_
            rintro e w' ⟨v6, rfl, ht2, hB⟩
            obtain ⟨g15, rfl⟩ := grow g14 hB
            replace ha := ha.grow hB
            replace hb := hb.grow hB
            replace hs := hs.grow hB
            replace ht := ht.grow hB
            clear hB
            go_wp2_with (fail)
            refine (law_unb _ T _ ht2).mono ?_
            rintro e w' ⟨he, hB⟩
            obtain rfl : e = .returned (.bool true) := by rw [he, Hν.out]
            clear he
            obtain ⟨g16, rfl⟩ := grow g15 hB
            replace ha := ha.grow hB
            replace hb := hb.grow hB
            replace hs := hs.grow hB
            replace ht := ht.grow hB
            replace ht2 := ht2.grow hB
            clear hB
            go_wp2_with (fail)
            refine (box_subset _ _ a b _ ha hb (by rw [LA.out, LB.out])).mono ?_
            rintro e w' ⟨he, hB⟩
            obtain rfl : e = .returned (.bool true) := by rw [he, Hδ.out]
            clear he
            obtain ⟨g17, rfl⟩ := grow g16 hB
            replace ha := ha.grow hB
            replace hb := hb.grow hB
            replace hs := hs.grow hB
            replace ht := ht.grow hB
            replace ht2 := ht2.grow hB
            clear hB
            go_wp2_with (fail)
            refine (infl_as _ b T M1 _ hb (by rw [LB.out]; omega) bM0 bM2 VBb.out ET.out).mono ?_
            rintro e w' ⟨v7, rfl, ht3, hB⟩
            obtain ⟨g18, rfl⟩ := grow g17 hB
            replace ha := ha.grow hB
            replace hb := hb.grow hB
            replace hs := hs.grow hB
            replace ht := ht.grow hB
            replace ht2 := ht2.grow hB
            clear hB
            go_wp2_with (fail)
            refine (box_subset _ _ S T _ hs ht3 (by rw [LS.out, LT.out])).mono ?_
            rintro e w' ⟨he, hB⟩
            obtain rfl : e = .returned (.bool true) := by rw [he, V6.out (by trivial)]
            clear he
            obtain ⟨g19, rfl⟩ := grow g18 hB
            replace ha := ha.grow hB
            replace hb := hb.grow hB
            replace hs := hs.grow hB
            replace ht := ht.grow hB
            replace ht2 := ht2.grow hB
            replace ht3 := ht3.grow hB
            clear hB
            go_wp2_with (fail)
            go_ret
            exact ⟨rfl, below_then hT0 g19.h⟩
      · cases δ
        · skip
          go_wp2_with (fail)
          refine (meet_f _ _ S b _ hs hb (by rw [LS.out, LB.out]) Z1.out (by rw [LS.out]; omega) Hφ.out).mono ?_
          rintro e w' ⟨he, hB⟩
          obtain rfl : e = .returned (.tuple #[.slice none 0 0, .bool false]) := by rw [he]
          clear he
          obtain ⟨g11, rfl⟩ := grow g10 hB
          replace ha := ha.grow hB
          replace hb := hb.grow hB
          replace hs := hs.grow hB
          clear hB
          go_wp2_with (fail)
          refine (infl_as _ b T M1 _ hb (by rw [LB.out]; omega) bM0 bM2 VBb.out ET.out).mono ?_
          rintro e w' ⟨v5, rfl, ht, hB⟩
          obtain ⟨g12, rfl⟩ := grow g11 hB
          replace ha := ha.grow hB
          replace hb := hb.grow hB
          replace hs := hs.grow hB
          clear hB
          go_wp2_with (fail)
          refine (meet_t _ _ a T _ _ ha ht (by rw [LA.out, LT.out]) Z2.out (by rw [LA.out]; omega) Hψ.out rfl).mono ?_
          rintro e w' ⟨vq, rfl, hq, hB⟩
          obtain ⟨g13, rfl⟩ := grow g12 hB
          replace ha := ha.grow hB
          replace hb := hb.grow hB
          replace hs := hs.grow hB
          replace ht := ht.grow hB
          clear hB
          clear hq
          go_wp2_with (fail)
          refine (law_unb _ S _ hs).mono ?_
          rintro e w' ⟨he, hB⟩
          obtain rfl : e = .returned (.bool true) := by rw [he, Hμ.out]
          clear he
          obtain ⟨g14, rfl⟩ := grow g13 hB
          replace ha := ha.grow hB
          replace hb := hb.grow hB
          replace hs := hs.grow hB
          replace ht := ht.grow hB
          clear hB
          go_wp2_with (fail)
          refine (box_subset _ _ a b _ ha hb (by rw [LA.out, LB.out])).mono ?_
          rintro e w' ⟨he, hB⟩
          obtain rfl : e = .returned (.bool false) := by rw [he, Hδ.out]
          clear he
          obtain ⟨g15, rfl⟩ := grow g14 hB
          replace ha := ha.grow hB
          replace hb := hb.grow hB
          replace hs := hs.grow hB
          replace ht := ht.grow hB
          clear hB
          go_wp2_with (fail)
          go_ret
          exact ⟨rfl, below_then hT0 g15.h⟩
        · skip
          go_wp2_with (fail)
          refine (meet_f _ _ S b _ hs hb (by rw [LS.out, LB.out]) Z1.out (by rw [LS.out]; omega) Hφ.out).mono ?_
          rintro e w' ⟨he, hB⟩
          obtain rfl : e = .returned (.tuple #[.slice none 0 0, .bool false]) := by rw [he]
          clear he
          obtain ⟨g11, rfl⟩ := grow g10 hB
          replace ha := ha.grow hB
          replace hb := hb.grow hB
          replace hs := hs.grow hB
          clear hB
          go_wp2_with (fail)
          refine (infl_as _ b T M1 _ hb (by rw [LB.out]; omega) bM0 bM2 VBb.out ET.out).mono ?_
          rintro e w' ⟨v5, rfl, ht, hB⟩
          obtain ⟨g12, rfl⟩ := grow g11 hB
          replace ha := ha.grow hB
          replace hb := hb.grow hB
          replace hs := hs.grow hB
          clear hB
          go_wp2_with (fail)
          refine (meet_t _ _ a T _ _ ha ht (by rw [LA.out, LT.out]) Z2.out (by rw [LA.out]; omega) Hψ.out rfl).mono ?_
          rintro e w' ⟨vq, rfl, hq, hB⟩
          obtain ⟨g13, rfl⟩ := grow g12 hB
          replace ha := ha.grow hB
          replace hb := hb.grow hB
          replace hs := hs.grow hB
          replace ht := ht.grow hB
          clear hB
          clear hq
          go_wp2_with (fail)
          refine (law_unb _ S _ hs).mono ?_
          rintro e w' ⟨he, hB⟩
          obtain rfl : e = .returned (.bool true) := by rw [he, Hμ.out]
          clear he
          obtain ⟨g14, rfl⟩ := grow g13 hB
          replace ha := ha.grow hB
          replace hb := hb.grow hB
          replace hs := hs.grow hB
          replace ht := ht.grow hB
          clear hB
          go_wp2_with (fail)
          refine (box_subset _ _ a b _ ha hb (by rw [LA.out, LB.out])).mono ?_
          rintro e w' ⟨he, hB⟩
          obtain rfl : e = .returned (.bool true) := by rw [he, Hδ.out]
          clear he
          obtain ⟨g15, rfl⟩ := grow g14 hB
          replace ha := ha.grow hB
          replace hb := hb.grow hB
          replace hs := hs.grow hB
          replace ht := ht.grow hB
          clear hB
          go_wp2_with (fail)
          refine (infl_as _ b T M1 _ hb (by rw [LB.out]; omega) bM0 bM2 VBb.out ET.out).mono ?_
          rintro e w' ⟨v7, rfl, ht3, hB⟩
          obtain ⟨g16, rfl⟩ := grow g15 hB
          replace ha := ha.grow hB
          replace hb := hb.grow hB
          replace hs := hs.grow hB
          replace ht := ht.grow hB
          clear hB
          go_wp2_with (fail)
          refine (box_subset _ _ S T _ hs ht3 (by rw [LS.out, LT.out])).mono ?_
          rintro e w' ⟨he, hB⟩
          obtain rfl : e = .returned (.bool true) := by rw [he, V6.out (by trivial)]
          clear he
          obtain ⟨g17, rfl⟩ := grow g16 hB
          replace ha := ha.grow hB
          replace hb := hb.grow hB
          replace hs := hs.grow hB
          replace ht := ht.grow hB
          replace ht3 := ht3.grow hB
          clear hB
          go_wp2_with (fail)
          go_ret
          exact ⟨rfl, below_then hT0 g17.h⟩
  · cases ψ
    · cases μ
      · cases ν
        · exact absurd (V5.out rfl rfl) (by decide)
        · cases δ
          · skip
            go_wp2_with (fail)
            refine (meet_t _ _ S b _ _ hs hb (by rw [LS.out, LB.out]) Z1.out (by rw [LS.out]; omega) Hφ.out rfl).mono ?_
            rintro e w' ⟨vp, rfl, hp, hB⟩
            obtain ⟨g11, rfl⟩ := grow g10 hB
            replace ha := ha.grow hB
            replace hb := hb.grow hB
            replace hs := hs.grow hB
            clear hB
            clear hp
            go_wp2_with (fail)
            refine (infl_as _ b T M1 _ hb (by rw [LB.out]; omega) bM0 bM2 VBb.out ET.out).mono ?_
            rintro e w' ⟨v5, rfl, ht, hB⟩
            obtain ⟨g12, rfl⟩ := grow g11 hB
            replace ha := ha.grow hB
            replace hb := hb.grow hB
            replace hs := hs.grow hB
            clear hB
            go_wp2_with (fail)
            refine (meet_f _ _ a T _ ha ht (by rw [LA.out, LT.out]) Z2.out (by rw [LA.out]; omega) Hψ.out).mono ?_
            rintro e w' ⟨he, hB⟩
            obtain rfl : e = .returned (.tuple #[.slice none 0 0, .bool false]) := by rw [he]
            clear he
            obtain ⟨g13, rfl⟩ := grow g12 hB
            replace ha := ha.grow hB
            replace hb := hb.grow hB
            replace hs := hs.grow hB
            replace ht := ht.grow hB
            clear hB
            go_wp2_with (fail)
            refine (law_unb _ S _ hs).mono ?_
            rintro e w' ⟨he, hB⟩
            obtain rfl : e = .returned (.bool false) := by rw [he, Hμ.out]
            clear he
            obtain ⟨g14, rfl⟩ := grow g13 hB
            replace ha := ha.grow hB
            replace hb := hb.grow hB
            replace hs := hs.grow hB
            replace ht := ht.grow hB
            clear hB
            go_wp2_with (fail)
            refine (infl_as _ b T M1 _ hb (by rw [LB.out]; omega) bM0 bM2 VBb.out ET.out).mono ?_
            rintro e w' ⟨v6, rfl, ht2, hB⟩
            obtain ⟨g15, rfl⟩ := grow g14 hB
            replace ha := ha.grow hB
            replace hb := hb.grow hB
            replace hs := hs.grow hB
            replace ht := ht.grow hB
            clear hB
            go_wp2_with (fail)
            refine (law_unb _ T _ ht2).mono ?_
            rintro e w' ⟨he, hB⟩
            obtain rfl : e = .returned (.bool true) := by rw [he, Hν.out]
            clear he
            obtain ⟨g16, rfl⟩ := grow g15 hB
            replace ha := ha.grow hB
            replace hb := hb.grow hB
            replace hs := hs.grow hB
            replace ht := ht.grow hB
            replace ht2 := ht2.grow hB
            clear hB
            go_wp2_with (fail)
            refine (box_subset _ _ a b _ ha hb (by rw [LA.out, LB.out])).mono ?_
            rintro e w' ⟨he, hB⟩
            obtain rfl : e = .returned (.bool false) := by rw [he, Hδ.out]
            clear he
            obtain ⟨g17, rfl⟩ := grow g16 hB
            replace ha := ha.grow hB
            replace hb := hb.grow hB
            replace hs := hs.grow hB
            replace ht := ht.grow hB
            replace ht2 := ht2.grow hB
            clear hB
            go_wp2_with (fail)
            go_ret
            exact ⟨rfl, below_then hT0 g17.h⟩
          · skip
            go_wp2_with (fail)
            refine (meet_t _ _ S b _ _ hs hb (by rw [LS.out, LB.out]) Z1.out (by rw [LS.out]; omega) Hφ.out rfl).mono ?_
            rintro e w' ⟨vp, rfl, hp, hB⟩
            obtain ⟨g11, rfl⟩ := grow g10 hB
            replace ha := ha.grow hB
            replace hb := hb.grow hB
            replace hs := hs.grow hB
            clear hB
            clear hp
            go_wp2_with (fail)
            refine (infl_as _ b T M1 _ hb (by rw [LB.out]; omega) bM0 bM2 VBb.out ET.out).mono ?_
            rintro e w' ⟨v5, rfl, ht, hB⟩
            obtain ⟨g12, rfl⟩ := grow g11 hB
            replace ha := ha.grow hB
            replace hb := hb.grow hB
            replace hs := hs.grow hB
            clear hB
            go_wp2_with (fail)
            refine (meet_f _ _ a T _ ha ht (by rw [LA.out, LT.out]) Z2.out (by rw [LA.out]; omega) Hψ.out).mono ?_
            rintro e w' ⟨he, hB⟩
            obtain rfl : e = .returned (.tuple #[.slice none 0 0, .bool false]) := by rw [he]
            clear he
            obtain ⟨g13, rfl⟩ := grow g12 hB
            replace ha := ha.grow hB
            replace hb := hb.grow hB
            replace hs := hs.grow hB
            replace ht := ht.grow hB
            clear hB
            go_wp2_with (fail)
            refine (law_unb _ S _ hs).mono ?_
            rintro e w' ⟨he, hB⟩
            obtain rfl : e = .returned (.bool false) := by rw [he, Hμ.out]
            clear he
            obtain ⟨g14, rfl⟩ := grow g13 hB
            replace ha := ha.grow hB
            replace hb := hb.grow hB
            replace hs := hs.grow hB
            replace ht := ht.grow hB
            clear hB
            go_wp2_with (fail)
            refine (infl_as _ b T M1 _ hb (by rw [LB.out]; omega) bM0 bM2 VBb.out ET.out).mono ?_
            rintro e w' ⟨v6, rfl, ht2, hB⟩
            obtain ⟨g15, rfl⟩ := grow g14 hB
            replace ha := ha.grow hB
            replace hb := hb.grow hB
            replace hs := hs.grow hB
            replace ht := ht.grow hB
            clear hB
            go_wp2_with (fail)
            refine (law_unb _ T _ ht2).mono ?_
            rintro e w' ⟨he, hB⟩
            obtain rfl : e = .returned (.bool true) := by rw [he, Hν.out]
            clear he
            obtain ⟨g16, rfl⟩ := grow g15 hB
            replace ha := ha.grow hB
            replace hb := hb.grow hB
            replace hs := hs.grow hB
            replace ht := ht.grow hB
            replace ht2 := ht2.grow hB
            clear hB
            go_wp2_with (fail)
            refine (box_subset _ _ a b _ ha hb (by rw [LA.out, LB.out])).mono ?_
            rintro e w' ⟨he, hB⟩
            obtain rfl : e = .returned (.bool true) := by rw [he, Hδ.out]
            clear he
            obtain ⟨g17, rfl⟩ := grow g16 hB
            replace ha := ha.grow hB
            replace hb := hb.grow hB
            replace hs := hs.grow hB
            replace ht := ht.grow hB
            replace ht2 := ht2.grow hB
            clear hB
            go_wp2_with (fail)
            refine (infl_as _ b T M1 _ hb (by rw [LB.out]; omega) bM0 bM2 VBb.out ET.out).mono ?_
            rintro e w' ⟨v7, rfl, ht3, hB⟩
            obtain ⟨g18, rfl⟩ := grow g17 hB
            replace ha := ha.grow hB
            replace hb := hb.grow hB
            replace hs := hs.grow hB
            replace ht := ht.grow hB
            replace ht2 := ht2.grow hB
            clear hB
            go_wp2_with (fail)
            refine (box_subset _ _ S T _ hs ht3 (by rw [LS.out, LT.out])).mono ?_
            rintro e w' ⟨he, hB⟩
            obtain rfl : e = .returned (.bool true) := by rw [he, V6.out (by trivial)]
            clear he
            obtain ⟨g19, rfl⟩ := grow g18 hB
            replace ha := ha.grow hB
            replace hb := hb.grow hB
            replace hs := hs.grow hB
            replace ht := ht.grow hB
            replace ht2 := ht2.grow hB
            replace ht3 := ht3.grow hB
            clear hB
            go_wp2_with (fail)
            go_ret
            exact ⟨rfl, below_then hT0 g19.h⟩
      · cases δ
        · skip
          go_wp2_with (fail)
          refine (meet_t _ _ S b _ _ hs hb (by rw [LS.out, LB.out]) Z1.out (by rw [LS.out]; omega) Hφ.out rfl).mono ?_
          rintro e w' ⟨vp, rfl, hp, hB⟩
          obtain ⟨g11, rfl⟩ := grow g10 hB
          replace ha := ha.grow hB
          replace hb := hb.grow hB
          replace hs := hs.grow hB
          clear hB
          clear hp
          go_wp2_with (fail)
          refine (infl_as _ b T M1 _ hb (by rw [LB.out]; omega) bM0 bM2 VBb.out ET.out).mono ?_
          rintro e w' ⟨v5, rfl, ht, hB⟩
          obtain ⟨g12, rfl⟩ := grow g11 hB
          replace ha := ha.grow hB
          replace hb := hb.grow hB
          replace hs := hs.grow hB
          clear hB
          go_wp2_with (fail)
          refine (meet_f _ _ a T _ ha ht (by rw [LA.out, LT.out]) Z2.out (by rw [LA.out]; omega) Hψ.out).mono ?_
          rintro e w' ⟨he, hB⟩
          obtain rfl : e = .returned (.tuple #[.slice none 0 0, .bool false]) := by rw [he]
          clear he
          obtain ⟨g13, rfl⟩ := grow g12 hB
          replace ha := ha.grow hB
          replace hb := hb.grow hB
          replace hs := hs.grow hB
          replace ht := ht.grow hB
          clear hB
          go_wp2_with (fail)
          refine (law_unb _ S _ hs).mono ?_
          rintro e w' ⟨he, hB⟩
          obtain rfl : e = .returned (.bool true) := by rw [he, Hμ.out]
          clear he
          obtain ⟨g14, rfl⟩ := grow g13 hB
          replace ha := ha.grow hB
          replace hb := hb.grow hB
          replace hs := hs.grow hB
          replace ht := ht.grow hB
          clear hB
          go_wp2_with (fail)
          refine (box_subset _ _ a b _ ha hb (by rw [LA.out, LB.out])).mono ?_
          rintro e w' ⟨he, hB⟩
          obtain rfl : e = .returned (.bool false) := by rw [he, Hδ.out]
          clear he
          obtain ⟨g15, rfl⟩ := grow g14 hB
          replace ha := ha.grow hB
          replace hb := hb.grow hB
          replace hs := hs.grow hB
          replace ht := ht.grow hB
          clear hB
          go_wp2_with (fail)
          go_ret
          exact ⟨rfl, below_then hT0 g15.h⟩
        · skip
          go_wp2_with (fail)
          refine (meet_t _ _ S b _ _ hs hb (by rw [LS.out, LB.out]) Z1.out (by rw [LS.out]; omega) Hφ.out rfl).mono ?_
          rintro e w' ⟨vp, rfl, hp, hB⟩
          obtain ⟨g11, rfl⟩ := grow g10 hB
          replace ha := ha.grow hB
          replace hb := hb.grow hB
          replace hs := hs.grow hB
          clear hB
          clear hp
          go_wp2_with (fail)
          refine (infl_as _ b T M1 _ hb (by rw [LB.out]; omega) bM0 bM2 VBb.out ET.out).mono ?_
          rintro e w' ⟨v5, rfl, ht, hB⟩
          obtain ⟨g12, rfl⟩ := grow g11 hB
          replace ha := ha.grow hB
          replace hb := hb.grow hB
          replace hs := hs.grow hB
          clear hB
          go_wp2_with (fail)
          refine (meet_f _ _ a T _ ha ht (by rw [LA.out, LT.out]) Z2.out (by rw [LA.out]; omega) Hψ.out).mono ?_
          rintro e w' ⟨he, hB⟩
          obtain rfl : e = .returned (.tuple #[.slice none 0 0, .bool false]) := by rw [he]
          clear he
          obtain ⟨g13, rfl⟩ := grow g12 hB
          replace ha := ha.grow hB
          replace hb := hb.grow hB
          replace hs := hs.grow hB
          replace ht := ht.grow hB
          clear hB
          go_wp2_with (fail)
          refine (law_unb _ S _ hs).mono ?_
          rintro e w' ⟨he, hB⟩
          obtain rfl : e = .returned (.bool true) := by rw [he, Hμ.out]
          clear he
          obtain ⟨g14, rfl⟩ := grow g13 hB
          replace ha := ha.grow hB
          replace hb := hb.grow hB
          replace hs := hs.grow hB
          replace ht := ht.grow hB
          clear hB
          go_wp2_with (fail)
          refine (box_subset _ _ a b _ ha hb (by rw [LA.out, LB.out])).mono ?_
          rintro e w' ⟨he, hB⟩
          obtain rfl : e = .returned (.bool true) := by rw [he, Hδ.out]
          clear he
          obtain ⟨g15, rfl⟩ := grow g14 hB
          replace ha := ha.grow hB
          replace hb := hb.grow hB
          replace hs := hs.grow hB
          replace ht := ht.grow hB
          clear hB
          go_wp2_with (fail)
          refine (infl_as _ b T M1 _ hb (by rw [LB.out]; omega) bM0 bM2 VBb.out ET.out).mono ?_
          rintro e w' ⟨v7, rfl, ht3, hB⟩
          obtain ⟨g16, rfl⟩ := grow g15 hB
          replace ha := ha.grow hB
          replace hb := hb.grow hB
          replace hs := hs.grow hB
          replace ht := ht.grow hB
          clear hB
          go_wp2_with (fail)
          refine (box_subset _ _ S T _ hs ht3 (by rw [LS.out, LT.out])).mono ?_
          rintro e w' ⟨he, hB⟩
          obtain rfl : e = .returned (.bool true) := by rw [he, V6.out (by trivial)]
          clear he
          obtain ⟨g17, rfl⟩ := grow g16 hB
          replace ha := ha.grow hB
          replace hb := hb.grow hB
          replace hs := hs.grow hB
          replace ht := ht.grow hB
          replace ht3 := ht3.grow hB
          clear hB
          go_wp2_with (fail)
          go_ret
          exact ⟨rfl, below_then hT0 g17.h⟩
    · cases δ
      · skip
        go_wp2_with (fail)
        refine (meet_t _ _ S b _ _ hs hb (by rw [LS.out, LB.out]) Z1.out (by rw [LS.out]; omega) Hφ.out rfl).mono ?_
        rintro e w' ⟨vp, rfl, hp, hB⟩
        obtain ⟨g11, rfl⟩ := grow g10 hB
        replace ha := ha.grow hB
        replace hb := hb.grow hB
        replace hs := hs.grow hB
        clear hB
        clear hp
        go_wp2_with (fail)
        refine (infl_as _ b T M1 _ hb (by rw [LB.out]; omega) bM0 bM2 VBb.out ET.out).mono ?_
        rintro e w' ⟨v5, rfl, ht, hB⟩
        obtain ⟨g12, rfl⟩ := grow g11 hB
        replace ha := ha.grow hB
        replace hb := hb.grow hB
        replace hs := hs.grow hB
        clear hB
        go_wp2_with (fail)
        refine (meet_t _ _ a T _ _ ha ht (by rw [LA.out, LT.out]) Z2.out (by rw [LA.out]; omega) Hψ.out rfl).mono ?_
        rintro e w' ⟨vq, rfl, hq, hB⟩
        obtain ⟨g13, rfl⟩ := grow g12 hB
        replace ha := ha.grow hB
        replace hb := hb.grow hB
        replace hs := hs.grow hB
        replace ht := ht.grow hB
        clear hB
        clear hq
        go_wp2_with (fail)
        refine (box_subset _ _ a b _ ha hb (by rw [LA.out, LB.out])).mono ?_
        rintro e w' ⟨he, hB⟩
        obtain rfl : e = .returned (.bool false) := by rw [he, Hδ.out]
        clear he
        obtain ⟨g14, rfl⟩ := grow g13 hB
        replace ha := ha.grow hB
        replace hb := hb.grow hB
        replace hs := hs.grow hB
        replace ht := ht.grow hB
        clear hB
        go_wp2_with (fail)
        go_ret
        exact ⟨rfl, below_then hT0 g14.h⟩
      · skip
        go_wp2_with (fail)
        refine (meet_t _ _ S b _ _ hs hb (by rw [LS.out, LB.out]) Z1.out (by rw [LS.out]; omega) Hφ.out rfl).mono ?_
        rintro e w' ⟨vp, rfl, hp, hB⟩
        obtain ⟨g11, rfl⟩ := grow g10 hB
        replace ha := ha.grow hB
        replace hb := hb.grow hB
        replace hs := hs.grow hB
        clear hB
        clear hp
        go_wp2_with (fail)
        refine (infl_as _ b T M1 _ hb (by rw [LB.out]; omega) bM0 bM2 VBb.out ET.out).mono ?_
        rintro e w' ⟨v5, rfl, ht, hB⟩
        obtain ⟨g12, rfl⟩ := grow g11 hB
        replace ha := ha.grow hB
        replace hb := hb.grow hB
        replace hs := hs.grow hB
        clear hB
        go_wp2_with (fail)
        refine (meet_t _ _ a T _ _ ha ht (by rw [LA.out, LT.out]) Z2.out (by rw [LA.out]; omega) Hψ.out rfl).mono ?_
        rintro e w' ⟨vq, rfl, hq, hB⟩
        obtain ⟨g13, rfl⟩ := grow g12 hB
        replace ha := ha.grow hB
        replace hb := hb.grow hB
        replace hs := hs.grow hB
        replace ht := ht.grow hB
        clear hB
        clear hq
        go_wp2_with (fail)
        refine (box_subset _ _ a b _ ha hb (by rw [LA.out, LB.out])).mono ?_
        rintro e w' ⟨he, hB⟩
        obtain rfl : e = .returned (.bool true) := by rw [he, Hδ.out]
        clear he
        obtain ⟨g14, rfl⟩ := grow g13 hB
        replace ha := ha.grow hB
        replace hb := hb.grow hB
        replace hs := hs.grow hB
        replace ht := ht.grow hB
        clear hB
        go_wp2_with (fail)
        refine (infl_as _ b T M1 _ hb (by rw [LB.out]; omega) bM0 bM2 VBb.out ET.out).mono ?_
        rintro e w' ⟨v7, rfl, ht3, hB⟩
        obtain ⟨g15, rfl⟩ := grow g14 hB
        replace ha := ha.grow hB
        replace hb := hb.grow hB
        replace hs := hs.grow hB
        replace ht := ht.grow hB
        clear hB
        go_wp2_with (fail)
        refine (box_subset _ _ S T _ hs ht3 (by rw [LS.out, LT.out])).mono ?_
        rintro e w' ⟨he, hB⟩
        obtain rfl : e = .returned (.bool true) := by rw [he, V6.out (by trivial)]
        clear he
        obtain ⟨g16, rfl⟩ := grow g15 hB
        replace ha := ha.grow hB
        replace hb := hb.grow hB
        replace hs := hs.grow hB
        replace ht := ht.grow hB
        replace ht3 := ht3.grow hB
        clear hB
        go_wp2_with (fail)
        go_ret
        exact ⟨rfl, below_then hT0 g16.h⟩
theorem infl (w : World) (vA vB vC p0 p1 : Value) (n : Int) (la lb lc : List (Int × Int)) (f0 f1 : List Int) (hA : Bx w vA la ∧ I64 la) (hB : Bx w vB lb ∧ I64 lb) (hC : Bx w vC lc ∧ I64 lc) (hn : 0 ≤ n ∧ n < 256) (h0 : Us w p0 f0 ∧ U16 f0) (h1 : Us w p1 f1 ∧ U16 f1) (a1 : Int) (w1 : (Lit.int .i64 a1).wf = true) (a2 : Int) (w2 : (Lit.int .i64 a2).wf = true) :
    Calls Try.prog 11 #[.agg #[vA, vB, vC, .int .u8 n, p0, p1], .int .i64 a1, .int .i64 a2] w fun e w' => e = .returned (.bool true) ∧ Below w.heap.size w w' :=
  infl_walk vA vB vC p0 p1 la lb lc f0 f1 n w hA.1 hB.1 hC.1 hA.2 hB.2 hC.2 hn.1 hn.2 h0.1 h0.2 h1.1 h1.2 a1 a2 (bounds_i64 w1).1 (bounds_i64 w1).2 (bounds_i64 w2).1 (bounds_i64 w2).2
end Go.Proofs.Ytpepgheocemjdaa
