/-
  law03: BoxSeparatedIsMonotone.
-/
import Derived.Test.YtpepgheocemjdaaBoxM
import Derived.Test.YtpepgheocemjdaaSan3
import Derived.Test.YtpepgheocemjdaaInputP
namespace Go.Proofs.Ytpepgheocemjdaa
open Go.ChangeShapes Go.WideShapes Go.ChangeAt Go.RowKit
set_option linter.unusedVariables false
set_option linter.unusedSimpArgs false
set_option maxRecDepth 100000

attribute [local irreducible] Calls
set_option maxHeartbeats 32000000 in
theorem sepm_walk (vA vB vC p0 p1 : Value) (la lb lc : List (Int × Int)) (f f' : List Int) (n : Int) (w : World) (hA : Bx w vA la) (hB : Bx w vB lb) (hC : Bx w vC lc) (ba : I64 la) (bb : I64 lb) (bc : I64 lc) (hn0 : 0 ≤ n) (hn1 : n < 256) (hF : Us w p0 f) (bf : U16 f) (hF' : Us w p1 f') (bf' : U16 f') (d e' : Int) (hd0 : -9223372036854775808 ≤ d) (hd1 : d ≤ 9223372036854775807) (he0 : -9223372036854775808 ≤ e') (he1 : e' ≤ 9223372036854775807) :
    Calls Try.prog 10 #[.agg #[vA, vB, vC, .int .u8 n, p0, p1], .int .i64 d, .int .i64 e'] w fun e w' => e = .returned (.bool true) ∧ Below w.heap.size w w' := by
  have hm0 : 0 ≤ n % 6 := Int.emod_nonneg _ (by decide)
  have hm1 : n % 6 < 6 := Int.emod_lt_of_pos _ (by decide)
  obtain ⟨k, hk⟩ : ∃ k : Nat, 1 + n % 6 = (k : Int) := ⟨(1 + n % 6).toNat, by omega⟩
  have hk1 : 1 ≤ k := by omega
  have hk6 : k ≤ 6 := by omega
  have HF := Lib.hid hF
  have BF := Lib.hid bf
  have HG := Lib.hid hF'
  have BG := Lib.hid bf'
  have HA := Lib.hid hA
  have HB := Lib.hid hB
  have HC := Lib.hid hC
  have BA := Lib.hid ba
  have BB := Lib.hid bb
  have BC := Lib.hid bc
  clear hA hB hC ba bb bc hF bf hF' bf'
  go_enter Try.func10, Try.ntmps10
  go_wp2_with (fail)
  generalize hW0 : World.alloc w _ = W0
  have hT0 : Below w.heap.size w W0 := by subst hW0; exact ((Below.refl w.heap.size w).alloc (by go_size) _)
  have Y0 : w.heap.size < W0.heap.size := by subst hW0; simp <;> omega
  have F0_0 : ∀ g : Grown W0, g.w.cell? ⟨w.heap.size, 0, none⟩ = some (vA) := fun g => (g.cell Y0).trans (by subst hW0; simp [go_sem])
  have F0_1 : ∀ g : Grown W0, g.w.cell? ⟨w.heap.size, 1, none⟩ = some (vB) := fun g => (g.cell Y0).trans (by subst hW0; simp [go_sem])
  have F0_2 : ∀ g : Grown W0, g.w.cell? ⟨w.heap.size, 2, none⟩ = some (vC) := fun g => (g.cell Y0).trans (by subst hW0; simp [go_sem])
  have F0_3 : ∀ g : Grown W0, g.w.cell? ⟨w.heap.size, 3, none⟩ = some (.int .u8 n) := fun g => (g.cell Y0).trans (by subst hW0; simp [go_sem])
  have F0_4 : ∀ g : Grown W0, g.w.cell? ⟨w.heap.size, 4, none⟩ = some (p0) := fun g => (g.cell Y0).trans (by subst hW0; simp [go_sem])
  have F0_5 : ∀ g : Grown W0, g.w.cell? ⟨w.heap.size, 5, none⟩ = some (p1) := fun g => (g.cell Y0).trans (by subst hW0; simp [go_sem])
  clear Y0 hW0
  obtain ⟨g0, hg0⟩ : ∃ g : Grown W0, W0 = g.w := ⟨⟨W0, Below.refl _ _⟩, rfl⟩
  rw [hg0]
  refine (sanity3 _).mono ?_
  rintro e w' ⟨rfl, hB⟩
  obtain ⟨g1, rfl⟩ := grow g0 hB
  clear hB hg0
  go_wp2_with (fail)
  refine (law_boxes vA vB vC p0 p1 la lb n k _ ((HA.out.grow hT0).grow g1.h) ((HB.out.grow hT0).grow g1.h) BA.out BB.out hn0 hn1 hk hk6).mono ?_
  rintro e w' ⟨va, vb, a, b, rfl, a1, b1, a2, b2, ha, hb, hB⟩
  obtain ⟨g2, rfl⟩ := grow g1 hB
  have LA := Lib.hid a1
  have LB := Lib.hid b1
  have VBa := Lib.hid a2
  have VBb := Lib.hid b2
  clear hB a1 b1 a2 b2
  go_wp2_with (fail)
  refine (law_mag d _ hd0 hd1).mono ?_
  rintro e w' ⟨rfl, rfl⟩
  go_wp2_with (fail)
  refine (law_mag e' _ he0 he1).mono ?_
  rintro e w' ⟨rfl, rfl⟩
  have lab : b.length = a.length := by rw [LA.out, LB.out]
  obtain ⟨M1, hM1⟩ : ∃ x, mag d = x := ⟨_, rfl⟩
  obtain ⟨N1, hN1⟩ : ∃ x, mag e' = x := ⟨_, rfl⟩
  have bM := mag_bd d
  have bN := mag_bd e'
  rw [hM1] at bM
  rw [hN1] at bN
  rw [hM1, hN1]
  clear hM1 hN1
  have bM0 := bM.1
  have bM1 := bM.2
  have bN0 := bN.1
  have bN1 := bN.2
  clear bM bN
  have bM2 : M1 ≤ 2147483648 := by omega
  have bN2 : N1 ≤ 2147483648 := by omega
  have Z1 := Lib.hid (vb_zip a b VBa.out VBb.out)
  have Z2 := Lib.hid (vb_zip b a VBb.out VBa.out)
  have Z3 := Lib.hid (vb_zip a a VBa.out VBa.out)
  have V2 := Lib.hid (show sepI N1 (sdist (a.zip a)) = false from sep_low (sdist_low a a VBa.out VBa.out (okm_self a VBa.out)))
  obtain ⟨σ, hσ⟩ : ∃ x, sepI M1 (sdist (a.zip b)) = x := ⟨_, rfl⟩
  have Hσ := Lib.hid hσ
  have HS : Hid (sepI M1 (sdist (b.zip a)) = σ) := Lib.hid ((show sepI M1 (sdist (b.zip a)) = sepI M1 (sdist (a.zip b)) by rw [sdist_comm]).trans hσ)
  have V3 := Lib.hid (show σ = true → (a.zip b).all okM = false from fun x => Bool.eq_false_iff.2 fun y => by
    have z := hσ.trans x
    rw [sep_low (sdist_low a b VBa.out VBb.out y)] at z
    cases z)
  have V5 := Lib.hid (show σ = true → N1 ≤ M1 → sepI N1 (sdist (a.zip b)) = true from fun x y => sep_mono bN0 y (hσ.trans x))
  have V4 := Lib.hid (show σ = true → ∀ p q : List Int, p.length = a.length → q.length = a.length → (∀ x ∈ p, Num x) → (∀ x ∈ q, Num x) → (a.zip p).all con1 = true → (b.zip q).all con1 = true → sepI M1 (sdist ((p.map ptI).zip (q.map ptI))) = true from fun x p q l1 l2 n1 n2 c1 c2 => sep_points M1 a b p q lab l1 l2 VBa.out VBb.out n1 n2 c1 c2 (hσ.trans x))
  have V6 := Lib.hid (show (a.zip b).all okM = false → ∀ p : List Int, p.length = a.length → (∀ x ∈ p, Num x) → (a.zip p).all con1 = true → ((p.map ptI).zip b).all sub1 = false from fun x p l1 n1 c1 => Bool.eq_false_iff.2 fun y => by
    rw [meet_no a b p lab l1 n1 c1 (in_pt b p n1 y)] at x
    cases x)
  clear hσ lab
  cases σ
  · skip
    go_wp2_with (fail)
    refine (box_sep _ _ a b M1 _ ha hb (by rw [LA.out, LB.out]) Z1.out bM0 bM2).mono ?_
    rintro e w' ⟨he, hB⟩
    obtain rfl : e = .returned (.bool false) := by rw [he, Hσ.out]
    clear he
    obtain ⟨g3, rfl⟩ := grow g2 hB
    replace ha := ha.grow hB
    replace hb := hb.grow hB
    clear hB
    go_wp2_with (fail)
    refine (box_sep _ _ b a M1 _ hb ha (by rw [LA.out, LB.out]) Z2.out bM0 bM2).mono ?_
    rintro e w' ⟨he, hB⟩
    obtain rfl : e = .returned (.bool false) := by rw [he, HS.out]
    clear he
    obtain ⟨g4, rfl⟩ := grow g3 hB
    replace ha := ha.grow hB
    replace hb := hb.grow hB
    clear hB
    go_wp2_with (fail)
    refine (box_sep _ _ a a N1 _ ha ha rfl Z3.out bN0 bN2).mono ?_
    rintro e w' ⟨he, hB⟩
    obtain rfl : e = .returned (.bool false) := by rw [he, V2.out]
    clear he
    obtain ⟨g5, rfl⟩ := grow g4 hB
    replace ha := ha.grow hB
    replace hb := hb.grow hB
    clear hB
    go_wp2_with (fail)
    go_ret
    exact ⟨rfl, below_then hT0 g5.h⟩
  · have W3 := Lib.hid (V3.out (by trivial))
    go_wp2_with (fail)
    refine (box_sep _ _ a b M1 _ ha hb (by rw [LA.out, LB.out]) Z1.out bM0 bM2).mono ?_
    rintro e w' ⟨he, hB⟩
    obtain rfl : e = .returned (.bool true) := by rw [he, Hσ.out]
    clear he
    obtain ⟨g3, rfl⟩ := grow g2 hB
    replace ha := ha.grow hB
    replace hb := hb.grow hB
    clear hB
    go_wp2_with (fail)
    refine (box_sep _ _ b a M1 _ hb ha (by rw [LA.out, LB.out]) Z2.out bM0 bM2).mono ?_
    rintro e w' ⟨he, hB⟩
    obtain rfl : e = .returned (.bool true) := by rw [he, HS.out]
    clear he
    obtain ⟨g4, rfl⟩ := grow g3 hB
    replace ha := ha.grow hB
    replace hb := hb.grow hB
    clear hB
    go_wp2_with (fail)
    refine (box_sep _ _ a a N1 _ ha ha rfl Z3.out bN0 bN2).mono ?_
    rintro e w' ⟨he, hB⟩
    obtain rfl : e = .returned (.bool false) := by rw [he, V2.out]
    clear he
    obtain ⟨g5, rfl⟩ := grow g4 hB
    replace ha := ha.grow hB
    replace hb := hb.grow hB
    clear hB
    go_wp2_with (fail)
    refine (meet_f _ _ a b _ ha hb (by rw [LA.out, LB.out]) Z1.out (by rw [LA.out]; omega) W3.out).mono ?_
    rintro e w' ⟨he, hB⟩
    obtain rfl : e = .returned (.tuple #[.slice none 0 0, .bool false]) := by rw [he]
    clear he
    obtain ⟨g6, rfl⟩ := grow g5 hB
    replace ha := ha.grow hB
    replace hb := hb.grow hB
    clear hB
    go_wp2_with (fail)
    refine (r3point _ _ a f _ ha ((HF.out.grow hT0).grow g6.h) (by rw [LA.out]; omega) VBa.out BF.out).mono ?_
    rintro e w' ⟨vhp, m, rfl, m1, m2, m3, hp, hB⟩
    obtain ⟨g7, rfl⟩ := grow g6 hB
    replace ha := ha.grow hB
    replace hb := hb.grow hB
    clear hB
    have LM : Hid (m.length = k) := Lib.hid (by rw [m1, LA.out])
    have CM := Lib.hid m2
    have NM := Lib.hid m3
    clear m1 m2 m3
    go_wp2_with (fail)
    refine (box_point _ m _ hp (by rw [LM.out]; omega)).mono ?_
    rintro e w' ⟨v1, rfl, hi, hB⟩
    obtain ⟨g8, rfl⟩ := grow g7 hB
    replace ha := ha.grow hB
    replace hb := hb.grow hB
    replace hp := hp.grow hB
    clear hB
    go_wp2_with (fail)
    refine (r3point _ _ b f' _ hb ((HG.out.grow hT0).grow g8.h) (by rw [LB.out]; omega) VBb.out BG.out).mono ?_
    rintro e w' ⟨vhq, q, rfl, m1, m2, m3, hq, hB⟩
    obtain ⟨g9, rfl⟩ := grow g8 hB
    replace ha := ha.grow hB
    replace hb := hb.grow hB
    replace hp := hp.grow hB
    replace hi := hi.grow hB
    clear hB
    have LQ : Hid (q.length = k) := Lib.hid (by rw [m1, LB.out])
    have CQ := Lib.hid m2
    have NQ := Lib.hid m3
    clear m1 m2 m3
    go_wp2_with (fail)
    refine (box_point _ q _ hq (by rw [LQ.out]; omega)).mono ?_
    rintro e w' ⟨v2, rfl, hj, hB⟩
    obtain ⟨g10, rfl⟩ := grow g9 hB
    replace ha := ha.grow hB
    replace hb := hb.grow hB
    replace hp := hp.grow hB
    replace hi := hi.grow hB
    replace hq := hq.grow hB
    clear hB
    have W4 := Lib.hid (V4.out (by trivial) m q (by rw [LM.out, LA.out]) (by rw [LQ.out, LA.out]) NM.out NQ.out CM.out CQ.out)
    have W6 := Lib.hid (V6.out W3.out m (by rw [LM.out, LA.out]) NM.out CM.out)
    have Z4 := Lib.hid (vb_zip (m.map ptI) (q.map ptI) (pt_vb m) (pt_vb q))
    have L1 : Hid ((m.map ptI).length = k) := Lib.hid (by rw [List.length_map, LM.out])
    have L2 : Hid ((q.map ptI).length = k) := Lib.hid (by rw [List.length_map, LQ.out])
    go_wp2_with (fail)
    refine (box_sep _ _ (m.map ptI) (q.map ptI) M1 _ hi hj (by rw [L1.out, L2.out]) Z4.out bM0 bM2).mono ?_
    rintro e w' ⟨he, hB⟩
    obtain rfl : e = .returned (.bool true) := by rw [he, W4.out]
    clear he
    obtain ⟨g11, rfl⟩ := grow g10 hB
    replace ha := ha.grow hB
    replace hb := hb.grow hB
    replace hp := hp.grow hB
    replace hi := hi.grow hB
    replace hq := hq.grow hB
    replace hj := hj.grow hB
    clear hB
    by_cases hle : N1 ≤ M1
    · have hlt : decide (M1 < N1) = false := decide_eq_false (by omega)
      go_wp2_with (fail)
      refine (box_sep _ _ a b N1 _ ha hb (by rw [LA.out, LB.out]) Z1.out bN0 bN2).mono ?_
      rintro e w' ⟨he, hB⟩
      obtain rfl : e = .returned (.bool true) := by rw [he, V5.out (by trivial) hle]
      clear he
      obtain ⟨g12, rfl⟩ := grow g11 hB
      replace ha := ha.grow hB
      replace hb := hb.grow hB
      replace hp := hp.grow hB
      replace hi := hi.grow hB
      replace hq := hq.grow hB
      replace hj := hj.grow hB
      clear hB
      go_wp2_with (fail)
      refine (box_subset _ _ (m.map ptI) b _ hi hb (by rw [L1.out, LB.out])).mono ?_
      rintro e w' ⟨he, hB⟩
      obtain rfl : e = .returned (.bool false) := by rw [he, W6.out]
      clear he
      obtain ⟨g13, rfl⟩ := grow g12 hB
      replace ha := ha.grow hB
      replace hb := hb.grow hB
      replace hp := hp.grow hB
      replace hi := hi.grow hB
      replace hq := hq.grow hB
      replace hj := hj.grow hB
      clear hB
      go_wp2_with (fail)
      go_ret
      exact ⟨rfl, below_then hT0 g13.h⟩
    · have hlt : decide (M1 < N1) = true := decide_eq_true (by omega)
      go_wp2_with (fail)
      refine (box_subset _ _ (m.map ptI) b _ hi hb (by rw [L1.out, LB.out])).mono ?_
      rintro e w' ⟨he, hB⟩
      obtain rfl : e = .returned (.bool false) := by rw [he, W6.out]
      clear he
      obtain ⟨g12, rfl⟩ := grow g11 hB
      replace ha := ha.grow hB
      replace hb := hb.grow hB
      replace hp := hp.grow hB
      replace hi := hi.grow hB
      replace hq := hq.grow hB
      replace hj := hj.grow hB
      clear hB
      go_wp2_with (fail)
      go_ret
      exact ⟨rfl, below_then hT0 g12.h⟩
theorem sepm (w : World) (vA vB vC p0 p1 : Value) (n : Int) (la lb lc : List (Int × Int)) (f0 f1 : List Int) (hA : Bx w vA la ∧ I64 la) (hB : Bx w vB lb ∧ I64 lb) (hC : Bx w vC lc ∧ I64 lc) (hn : 0 ≤ n ∧ n < 256) (h0 : Us w p0 f0 ∧ U16 f0) (h1 : Us w p1 f1 ∧ U16 f1) (a1 : Int) (w1 : (Lit.int .i64 a1).wf = true) (a2 : Int) (w2 : (Lit.int .i64 a2).wf = true) :
    Calls Try.prog 10 #[.agg #[vA, vB, vC, .int .u8 n, p0, p1], .int .i64 a1, .int .i64 a2] w fun e w' => e = .returned (.bool true) ∧ Below w.heap.size w w' :=
  sepm_walk vA vB vC p0 p1 la lb lc f0 f1 n w hA.1 hB.1 hC.1 hA.2 hB.2 hC.2 hn.1 hn.2 h0.1 h0.2 h1.1 h1.2 a1 a2 (bounds_i64 w1).1 (bounds_i64 w1).2 (bounds_i64 w2).1 (bounds_i64 w2).2
end Go.Proofs.Ytpepgheocemjdaa
