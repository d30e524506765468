/-
  law03: BoxSubsetOrder.
-/
import Derived.Test.YtpepgheocemjdaaBoxes
import Derived.Test.YtpepgheocemjdaaSan3
import Derived.Test.YtpepgheocemjdaaInputP
namespace Go.Proofs.Ytpepgheocemjdaa
open Go.ChangeShapes Go.WideShapes Go.ChangeAt Go.RowKit
set_option linter.unusedVariables false
set_option linter.unusedSimpArgs false
set_option maxRecDepth 100000

attribute [local irreducible] Calls
theorem sub_anti : ∀ (a b : List (Int × Int)), b.length = a.length → (a.zip b).all sub1 = true → (b.zip a).all sub1 = true → a = b
  | [], [], _, _, _ => rfl
  | [], _ :: _, h, _, _ => by simp at h
  | _ :: _, [], h, _, _ => by simp at h
  | x :: a, y :: b, h, g, k => by
    rw [List.zip_cons_cons, List.all_cons, Bool.and_eq_true] at g k
    have g1 := g.1
    have k1 := k.1
    simp only [sub1, Bool.and_eq_true, decide_eq_true_eq] at g1 k1
    have : x = y := Prod.ext (by omega) (by omega)
    rw [this, sub_anti a b (by simpa using h) g.2 k.2]
theorem sub_trans' : ∀ (a b c : List (Int × Int)), b.length = a.length → (a.zip b).all sub1 = true → (b.zip c).all sub1 = true → (a.zip c).all sub1 = true
  | [], _, _, _, _, _ => by simp
  | _ :: _, _, [], _, _, _ => by simp
  | _ :: _, [], _ :: _, h, _, _ => by simp at h
  | x :: a, y :: b, z :: c, h, g, k => by
    rw [List.zip_cons_cons, List.all_cons, Bool.and_eq_true] at g k
    have g1 := g.1
    have k1 := k.1
    simp only [sub1, Bool.and_eq_true, decide_eq_true_eq] at g1 k1
    rw [List.zip_cons_cons, List.all_cons, sub_trans' a b c (by simpa using h) g.2 k.2]
    have e1 : z.1 ≤ x.1 ∧ x.2 ≤ z.2 := by omega
    simp only [sub1, e1.1, e1.2, decide_true, Bool.and_self]
theorem con_sub : ∀ (a b : List (Int × Int)) (m : List Int), (∀ p ∈ b, VB p) → b.length = a.length → (a.zip b).all sub1 = true → (a.zip m).all con1 = true → (b.zip m).all con1 = true
  | [], [], _, _, _, _, _ => by simp
  | [], _ :: _, _, _, h, _, _ => by simp at h
  | _ :: _, [], _, _, h, _, _ => by simp at h
  | _ :: _, _ :: _, [], _, _, _, _ => by simp
  | x :: a, y :: b, z :: m, hv, h, g, k => by
    rw [List.zip_cons_cons, List.all_cons, Bool.and_eq_true] at g k
    have g1 := g.1
    have k1 := k.1
    have hy : VI y.1 y.2 := hv y (by simp)
    simp only [sub1, con1, Bool.and_eq_true, Bool.or_eq_true, decide_eq_true_eq] at g1 k1
    rw [List.zip_cons_cons, List.all_cons, con_sub a b m (fun p hp => hv p (by simp [hp])) (by simpa using h) g.2 k.2]
    have e1 : Ent y.1 y.2 ∨ (y.1 ≤ z ∧ z ≤ y.2) := by
      unfold VI Ent Num at *
      omega
    simp only [con1, Bool.and_true, Bool.or_eq_true, Bool.and_eq_true, decide_eq_true_eq]
    exact e1
theorem pt_sub : ∀ (a : List (Int × Int)) (m : List Int), (∀ x ∈ m, Num x) → (a.zip m).all con1 = true → ((m.map ptI).zip a).all sub1 = true
  | _, [], _, _ => by simp
  | [], _ :: _, _, _ => by simp
  | x :: a, z :: m, hn, k => by
    rw [List.zip_cons_cons, List.all_cons, Bool.and_eq_true] at k
    have k1 := k.1
    have hz : Num z := hn z (by simp)
    simp only [con1, Bool.and_eq_true, Bool.or_eq_true, decide_eq_true_eq] at k1
    rw [List.map_cons, List.zip_cons_cons, List.all_cons, pt_sub a m (fun p hp => hn p (by simp [hp])) k.2]
    have e1 : x.1 ≤ z ∧ z ≤ x.2 := by
      unfold Ent Num at *
      omega
    have e2 : mkLo z z = z ∧ mkHi z z = z := by
      unfold mkLo mkHi
      simp [hz]
    simp only [sub1, ptI, e2.1, e2.2, e1.1, e1.2, decide_true, Bool.and_self]
set_option maxHeartbeats 16000000 in
theorem subo_walk (vA vB vC p0 p1 : Value) (la lb lc : List (Int × Int)) (f : List Int) (n : Int) (w : World) (hA : Bx w vA la) (hB : Bx w vB lb) (hC : Bx w vC lc) (ba : I64 la) (bb : I64 lb) (bc : I64 lc) (hn0 : 0 ≤ n) (hn1 : n < 256) (hF : Us w p0 f) (bf : U16 f) :
    Calls Try.prog 6 #[.agg #[vA, vB, vC, .int .u8 n, p0, p1]] w fun e w' => e = .returned (.bool true) ∧ Below w.heap.size w w' := by
  have hm0 : 0 ≤ n % 6 := Int.emod_nonneg _ (by decide)
  have hm1 : n % 6 < 6 := Int.emod_lt_of_pos _ (by decide)
  obtain ⟨k, hk⟩ : ∃ k : Nat, 1 + n % 6 = (k : Int) := ⟨(1 + n % 6).toNat, by omega⟩
  have hk1 : 1 ≤ k := by omega
  have hk6 : k ≤ 6 := by omega
  have HF := Lib.hid hF
  have BF := Lib.hid bf
  clear hF bf
  have HA := Lib.hid hA
  have HB := Lib.hid hB
  have HC := Lib.hid hC
  have BA := Lib.hid ba
  have BB := Lib.hid bb
  have BC := Lib.hid bc
  clear hA hB hC ba bb bc
  go_enter Try.func6, Try.ntmps6
  go_wp2_with (fail)
  generalize hW0 : World.alloc w _ = W0
  have hT0 : Below w.heap.size w W0 := by subst hW0; exact ((Below.refl w.heap.size w).alloc (by go_size) _)
  have Y0 : w.heap.size < W0.heap.size := by subst hW0; simp <;> omega
  have F0_0 : ∀ g : Grown W0, g.w.cell? ⟨w.heap.size, 0, none⟩ = some (vA) := fun g => (g.cell Y0).trans (by subst hW0; simp [go_sem])
  have F0_1 : ∀ g : Grown W0, g.w.cell? ⟨w.heap.size, 1, none⟩ = some (vB) := fun g => (g.cell Y0).trans (by subst hW0; simp [go_sem])
  have F0_2 : ∀ g : Grown W0, g.w.cell? ⟨w.heap.size, 2, none⟩ = some (vC) := fun g => (g.cell Y0).trans (by subst hW0; simp [go_sem])
  have F0_3 : ∀ g : Grown W0, g.w.cell? ⟨w.heap.size, 3, none⟩ = some (.int .u8 n) := fun g => (g.cell Y0).trans (by subst hW0; simp [go_sem])
  have F0_4 : ∀ g : Grown W0, g.w.cell? ⟨w.heap.size, 4, none⟩ = some (p0) := fun g => (g.cell Y0).trans (by subst hW0; simp [go_sem])
  have F0_5 : ∀ g : Grown W0, g.w.cell? ⟨w.heap.size, 5, none⟩ = some (p1) := fun g => (g.cell Y0).trans (by subst hW0; simp [go_sem])
  clear Y0 hW0
  obtain ⟨g0, hg0⟩ : ∃ g : Grown W0, W0 = g.w := ⟨⟨W0, Below.refl _ _⟩, rfl⟩
  rw [hg0]
  refine (sanity3 _).mono ?_
  rintro e w' ⟨rfl, hB⟩
  obtain ⟨g1, rfl⟩ := grow g0 hB
  clear hB hg0
  go_wp2_with (fail)
  refine (law_boxes vA vB vC p0 p1 la lb n k _ ((HA.out.grow hT0).grow g1.h) ((HB.out.grow hT0).grow g1.h) BA.out BB.out hn0 hn1 hk hk6).mono ?_
  rintro e w' ⟨va, vb, a, b, rfl, a1, b1, a2, b2, ha, hb, hB⟩
  obtain ⟨g2, rfl⟩ := grow g1 hB
  have LA := Lib.hid a1
  have LB := Lib.hid b1
  have VBa := Lib.hid a2
  have VBb := Lib.hid b2
  clear hB a1 b1 a2 b2
  go_wp2_with (fail)
  refine (r3made vC lc k _ ((HC.out.grow hT0).grow g2.h) hk6 BC.out).mono ?_
  rintro e w' ⟨vc, c, rfl, c1, c2, hc, hB⟩
  obtain ⟨g3, rfl⟩ := grow g2 hB
  have LC := Lib.hid c1
  replace ha := ha.grow hB
  replace hb := hb.grow hB
  clear hB c1 c2
  go_wp2_with (fail)
  refine (r3point _ _ a f _ ha ((HF.out.grow hT0).grow g3.h) (by rw [LA.out]; omega) VBa.out BF.out).mono ?_
  rintro e w' ⟨vp, m, rfl, m1, m2, m3, hp, hB⟩
  obtain ⟨g4, rfl⟩ := grow g3 hB
  replace ha := ha.grow hB
  replace hb := hb.grow hB
  replace hc := hc.grow hB
  have LM : Hid (m.length = k) := Lib.hid (by rw [m1, LA.out])
  have lab : b.length = a.length := by rw [LA.out, LB.out]
  have V1 := Lib.hid (sub_refl a)
  have V4 := Lib.hid m2
  have V6 := Lib.hid (pt_sub a m m3 m2)
  obtain ⟨δ, hδ⟩ : ∃ x, (a.zip b).all sub1 = x := ⟨_, rfl⟩
  obtain ⟨ε, hε⟩ : ∃ x, (b.zip a).all sub1 = x := ⟨_, rfl⟩
  obtain ⟨β, hβ⟩ : ∃ x, (b.zip c).all sub1 = x := ⟨_, rfl⟩
  have V2 := Lib.hid (show δ = true → ε = true → decide (a = b) = true from fun x y => decide_eq_true (sub_anti a b lab (hδ.trans x) (hε.trans y)))
  have V3 := Lib.hid (show δ = true → β = true → (a.zip c).all sub1 = true from fun x y => sub_trans' a b c lab (hδ.trans x) (hβ.trans y))
  have V5 := Lib.hid (show δ = true → (b.zip m).all con1 = true from fun x => con_sub a b m VBb.out lab (hδ.trans x) m2)
  have Hδ := Lib.hid hδ
  have Hε := Lib.hid hε
  have Hβ := Lib.hid hβ
  clear hδ hε hβ lab m1 m2 m3 hB
  cases δ
  · skip
    go_wp2_with (fail)
    refine (box_subset _ _ a a _ ha ha rfl).mono ?_
    rintro e w' ⟨he, hB⟩
    obtain rfl : e = .returned (.bool true) := by rw [he, V1.out]
    clear he
    obtain ⟨g5, rfl⟩ := grow g4 hB
    replace ha := ha.grow hB
    replace hb := hb.grow hB
    replace hc := hc.grow hB
    replace hp := hp.grow hB
    clear hB
    go_wp2_with (fail)
    refine (box_subset _ _ a b _ ha hb (by rw [LA.out, LB.out])).mono ?_
    rintro e w' ⟨he, hB⟩
    obtain rfl : e = .returned (.bool false) := by rw [he, Hδ.out]
    clear he
    obtain ⟨g6, rfl⟩ := grow g5 hB
    replace ha := ha.grow hB
    replace hb := hb.grow hB
    replace hc := hc.grow hB
    replace hp := hp.grow hB
    clear hB
    go_wp2_with (fail)
    refine (box_subset _ _ a b _ ha hb (by rw [LA.out, LB.out])).mono ?_
    rintro e w' ⟨he, hB⟩
    obtain rfl : e = .returned (.bool false) := by rw [he, Hδ.out]
    clear he
    obtain ⟨g7, rfl⟩ := grow g6 hB
    replace ha := ha.grow hB
    replace hb := hb.grow hB
    replace hc := hc.grow hB
    replace hp := hp.grow hB
    clear hB
    go_wp2_with (fail)
    refine (box_contains _ _ a m _ ha hp (by rw [LM.out, LA.out])).mono ?_
    rintro e w' ⟨he, hB⟩
    obtain rfl : e = .returned (.bool true) := by rw [he, V4.out]
    clear he
    obtain ⟨g8, rfl⟩ := grow g7 hB
    replace ha := ha.grow hB
    replace hb := hb.grow hB
    replace hc := hc.grow hB
    replace hp := hp.grow hB
    clear hB
    go_wp2_with (fail)
    refine (box_subset _ _ a b _ ha hb (by rw [LA.out, LB.out])).mono ?_
    rintro e w' ⟨he, hB⟩
    obtain rfl : e = .returned (.bool false) := by rw [he, Hδ.out]
    clear he
    obtain ⟨g9, rfl⟩ := grow g8 hB
    replace ha := ha.grow hB
    replace hb := hb.grow hB
    replace hc := hc.grow hB
    replace hp := hp.grow hB
    clear hB
    go_wp2_with (fail)
    refine (box_point _ m _ hp (by rw [LM.out]; omega)).mono ?_
    rintro e w' ⟨v1, rfl, hi, hB⟩
    obtain ⟨g10, rfl⟩ := grow g9 hB
    replace ha := ha.grow hB
    replace hb := hb.grow hB
    replace hc := hc.grow hB
    replace hp := hp.grow hB
    clear hB
    go_wp2_with (fail)
    refine (box_subset _ _ (m.map ptI) a _ hi ha (by rw [List.length_map, LM.out, LA.out])).mono ?_
    rintro e w' ⟨he, hB⟩
    obtain rfl : e = .returned (.bool true) := by rw [he, V6.out]
    clear he
    obtain ⟨g11, rfl⟩ := grow g10 hB
    replace ha := ha.grow hB
    replace hb := hb.grow hB
    replace hc := hc.grow hB
    replace hp := hp.grow hB
    replace hi := hi.grow hB
    clear hB
    go_wp2_with (fail)
    go_ret
    exact ⟨rfl, below_then hT0 g11.h⟩
  · cases ε
    · cases β
      · skip
        go_wp2_with (fail)
        refine (box_subset _ _ a a _ ha ha rfl).mono ?_
        rintro e w' ⟨he, hB⟩
        obtain rfl : e = .returned (.bool true) := by rw [he, V1.out]
        clear he
        obtain ⟨g5, rfl⟩ := grow g4 hB
        replace ha := ha.grow hB
        replace hb := hb.grow hB
        replace hc := hc.grow hB
        replace hp := hp.grow hB
        clear hB
        go_wp2_with (fail)
        refine (box_subset _ _ a b _ ha hb (by rw [LA.out, LB.out])).mono ?_
        rintro e w' ⟨he, hB⟩
        obtain rfl : e = .returned (.bool true) := by rw [he, Hδ.out]
        clear he
        obtain ⟨g6, rfl⟩ := grow g5 hB
        replace ha := ha.grow hB
        replace hb := hb.grow hB
        replace hc := hc.grow hB
        replace hp := hp.grow hB
        clear hB
        go_wp2_with (fail)
        refine (box_subset _ _ b a _ hb ha (by rw [LB.out, LA.out])).mono ?_
        rintro e w' ⟨he, hB⟩
        obtain rfl : e = .returned (.bool false) := by rw [he, Hε.out]
        clear he
        obtain ⟨g7, rfl⟩ := grow g6 hB
        replace ha := ha.grow hB
        replace hb := hb.grow hB
        replace hc := hc.grow hB
        replace hp := hp.grow hB
        clear hB
        go_wp2_with (fail)
        refine (box_subset _ _ a b _ ha hb (by rw [LA.out, LB.out])).mono ?_
        rintro e w' ⟨he, hB⟩
        obtain rfl : e = .returned (.bool true) := by rw [he, Hδ.out]
        clear he
        obtain ⟨g8, rfl⟩ := grow g7 hB
        replace ha := ha.grow hB
        replace hb := hb.grow hB
        replace hc := hc.grow hB
        replace hp := hp.grow hB
        clear hB
        go_wp2_with (fail)
        refine (box_subset _ _ b c _ hb hc (by rw [LB.out, LC.out])).mono ?_
        rintro e w' ⟨he, hB⟩
        obtain rfl : e = .returned (.bool false) := by rw [he, Hβ.out]
        clear he
        obtain ⟨g9, rfl⟩ := grow g8 hB
        replace ha := ha.grow hB
        replace hb := hb.grow hB
        replace hc := hc.grow hB
        replace hp := hp.grow hB
        clear hB
        go_wp2_with (fail)
        refine (box_contains _ _ a m _ ha hp (by rw [LM.out, LA.out])).mono ?_
        rintro e w' ⟨he, hB⟩
        obtain rfl : e = .returned (.bool true) := by rw [he, V4.out]
        clear he
        obtain ⟨g10, rfl⟩ := grow g9 hB
        replace ha := ha.grow hB
        replace hb := hb.grow hB
        replace hc := hc.grow hB
        replace hp := hp.grow hB
        clear hB
        go_wp2_with (fail)
        refine (box_subset _ _ a b _ ha hb (by rw [LA.out, LB.out])).mono ?_
        rintro e w' ⟨he, hB⟩
        obtain rfl : e = .returned (.bool true) := by rw [he, Hδ.out]
        clear he
        obtain ⟨g11, rfl⟩ := grow g10 hB
        replace ha := ha.grow hB
        replace hb := hb.grow hB
        replace hc := hc.grow hB
        replace hp := hp.grow hB
        clear hB
        go_wp2_with (fail)
        refine (box_contains _ _ b m _ hb hp (by rw [LM.out, LB.out])).mono ?_
        rintro e w' ⟨he, hB⟩
        obtain rfl : e = .returned (.bool true) := by rw [he, V5.out (by trivial)]
        clear he
        obtain ⟨g12, rfl⟩ := grow g11 hB
        replace ha := ha.grow hB
        replace hb := hb.grow hB
        replace hc := hc.grow hB
        replace hp := hp.grow hB
        clear hB
        go_wp2_with (fail)
        refine (box_point _ m _ hp (by rw [LM.out]; omega)).mono ?_
        rintro e w' ⟨v1, rfl, hi, hB⟩
        obtain ⟨g13, rfl⟩ := grow g12 hB
        replace ha := ha.grow hB
        replace hb := hb.grow hB
        replace hc := hc.grow hB
        replace hp := hp.grow hB
        clear hB
        go_wp2_with (fail)
        refine (box_subset _ _ (m.map ptI) a _ hi ha (by rw [List.length_map, LM.out, LA.out])).mono ?_
        rintro e w' ⟨he, hB⟩
        obtain rfl : e = .returned (.bool true) := by rw [he, V6.out]
        clear he
        obtain ⟨g14, rfl⟩ := grow g13 hB
        replace ha := ha.grow hB
        replace hb := hb.grow hB
        replace hc := hc.grow hB
        replace hp := hp.grow hB
        replace hi := hi.grow hB
        clear hB
        go_wp2_with (fail)
        go_ret
        exact ⟨rfl, below_then hT0 g14.h⟩
      · skip
        go_wp2_with (fail)
        refine (box_subset _ _ a a _ ha ha rfl).mono ?_
        rintro e w' ⟨he, hB⟩
        obtain rfl : e = .returned (.bool true) := by rw [he, V1.out]
        clear he
        obtain ⟨g5, rfl⟩ := grow g4 hB
        replace ha := ha.grow hB
        replace hb := hb.grow hB
        replace hc := hc.grow hB
        replace hp := hp.grow hB
        clear hB
        go_wp2_with (fail)
        refine (box_subset _ _ a b _ ha hb (by rw [LA.out, LB.out])).mono ?_
        rintro e w' ⟨he, hB⟩
        obtain rfl : e = .returned (.bool true) := by rw [he, Hδ.out]
        clear he
        obtain ⟨g6, rfl⟩ := grow g5 hB
        replace ha := ha.grow hB
        replace hb := hb.grow hB
        replace hc := hc.grow hB
        replace hp := hp.grow hB
        clear hB
        go_wp2_with (fail)
        refine (box_subset _ _ b a _ hb ha (by rw [LB.out, LA.out])).mono ?_
        rintro e w' ⟨he, hB⟩
        obtain rfl : e = .returned (.bool false) := by rw [he, Hε.out]
        clear he
        obtain ⟨g7, rfl⟩ := grow g6 hB
        replace ha := ha.grow hB
        replace hb := hb.grow hB
        replace hc := hc.grow hB
        replace hp := hp.grow hB
        clear hB
        go_wp2_with (fail)
        refine (box_subset _ _ a b _ ha hb (by rw [LA.out, LB.out])).mono ?_
        rintro e w' ⟨he, hB⟩
        obtain rfl : e = .returned (.bool true) := by rw [he, Hδ.out]
        clear he
        obtain ⟨g8, rfl⟩ := grow g7 hB
        replace ha := ha.grow hB
        replace hb := hb.grow hB
        replace hc := hc.grow hB
        replace hp := hp.grow hB
        clear hB
        go_wp2_with (fail)
        refine (box_subset _ _ b c _ hb hc (by rw [LB.out, LC.out])).mono ?_
        rintro e w' ⟨he, hB⟩
        obtain rfl : e = .returned (.bool true) := by rw [he, Hβ.out]
        clear he
        obtain ⟨g9, rfl⟩ := grow g8 hB
        replace ha := ha.grow hB
        replace hb := hb.grow hB
        replace hc := hc.grow hB
        replace hp := hp.grow hB
        clear hB
        go_wp2_with (fail)
        refine (box_subset _ _ a c _ ha hc (by rw [LA.out, LC.out])).mono ?_
        rintro e w' ⟨he, hB⟩
        obtain rfl : e = .returned (.bool true) := by rw [he, V3.out (by trivial) (by trivial)]
        clear he
        obtain ⟨g10, rfl⟩ := grow g9 hB
        replace ha := ha.grow hB
        replace hb := hb.grow hB
        replace hc := hc.grow hB
        replace hp := hp.grow hB
        clear hB
        go_wp2_with (fail)
        refine (box_contains _ _ a m _ ha hp (by rw [LM.out, LA.out])).mono ?_
        rintro e w' ⟨he, hB⟩
        obtain rfl : e = .returned (.bool true) := by rw [he, V4.out]
        clear he
        obtain ⟨g11, rfl⟩ := grow g10 hB
        replace ha := ha.grow hB
        replace hb := hb.grow hB
        replace hc := hc.grow hB
        replace hp := hp.grow hB
        clear hB
        go_wp2_with (fail)
        refine (box_subset _ _ a b _ ha hb (by rw [LA.out, LB.out])).mono ?_
        rintro e w' ⟨he, hB⟩
        obtain rfl : e = .returned (.bool true) := by rw [he, Hδ.out]
        clear he
        obtain ⟨g12, rfl⟩ := grow g11 hB
        replace ha := ha.grow hB
        replace hb := hb.grow hB
        replace hc := hc.grow hB
        replace hp := hp.grow hB
        clear hB
        go_wp2_with (fail)
        refine (box_contains _ _ b m _ hb hp (by rw [LM.out, LB.out])).mono ?_
        rintro e w' ⟨he, hB⟩
        obtain rfl : e = .returned (.bool true) := by rw [he, V5.out (by trivial)]
        clear he
        obtain ⟨g13, rfl⟩ := grow g12 hB
        replace ha := ha.grow hB
        replace hb := hb.grow hB
        replace hc := hc.grow hB
        replace hp := hp.grow hB
        clear hB
        go_wp2_with (fail)
        refine (box_point _ m _ hp (by rw [LM.out]; omega)).mono ?_
        rintro e w' ⟨v1, rfl, hi, hB⟩
        obtain ⟨g14, rfl⟩ := grow g13 hB
        replace ha := ha.grow hB
        replace hb := hb.grow hB
        replace hc := hc.grow hB
        replace hp := hp.grow hB
        clear hB
        go_wp2_with (fail)
        refine (box_subset _ _ (m.map ptI) a _ hi ha (by rw [List.length_map, LM.out, LA.out])).mono ?_
        rintro e w' ⟨he, hB⟩
        obtain rfl : e = .returned (.bool true) := by rw [he, V6.out]
        clear he
        obtain ⟨g15, rfl⟩ := grow g14 hB
        replace ha := ha.grow hB
        replace hb := hb.grow hB
        replace hc := hc.grow hB
        replace hp := hp.grow hB
        replace hi := hi.grow hB
        clear hB
        go_wp2_with (fail)
        go_ret
        exact ⟨rfl, below_then hT0 g15.h⟩
    · cases β
      · skip
        go_wp2_with (fail)
        refine (box_subset _ _ a a _ ha ha rfl).mono ?_
        rintro e w' ⟨he, hB⟩
        obtain rfl : e = .returned (.bool true) := by rw [he, V1.out]
        clear he
        obtain ⟨g5, rfl⟩ := grow g4 hB
        replace ha := ha.grow hB
        replace hb := hb.grow hB
        replace hc := hc.grow hB
        replace hp := hp.grow hB
        clear hB
        go_wp2_with (fail)
        refine (box_subset _ _ a b _ ha hb (by rw [LA.out, LB.out])).mono ?_
        rintro e w' ⟨he, hB⟩
        obtain rfl : e = .returned (.bool true) := by rw [he, Hδ.out]
        clear he
        obtain ⟨g6, rfl⟩ := grow g5 hB
        replace ha := ha.grow hB
        replace hb := hb.grow hB
        replace hc := hc.grow hB
        replace hp := hp.grow hB
        clear hB
        go_wp2_with (fail)
        refine (box_subset _ _ b a _ hb ha (by rw [LB.out, LA.out])).mono ?_
        rintro e w' ⟨he, hB⟩
        obtain rfl : e = .returned (.bool true) := by rw [he, Hε.out]
        clear he
        obtain ⟨g7, rfl⟩ := grow g6 hB
        replace ha := ha.grow hB
        replace hb := hb.grow hB
        replace hc := hc.grow hB
        replace hp := hp.grow hB
        clear hB
        go_wp2_with (fail)
        refine (r3same _ _ a b _ ha hb).mono ?_
        rintro e w' ⟨he, hB⟩
        obtain rfl : e = .returned (.bool true) := by rw [he, V2.out (by trivial) (by trivial)]
        clear he
        obtain ⟨g8, rfl⟩ := grow g7 hB
        replace ha := ha.grow hB
        replace hb := hb.grow hB
        replace hc := hc.grow hB
        replace hp := hp.grow hB
        clear hB
        go_wp2_with (fail)
        refine (box_subset _ _ a b _ ha hb (by rw [LA.out, LB.out])).mono ?_
        rintro e w' ⟨he, hB⟩
        obtain rfl : e = .returned (.bool true) := by rw [he, Hδ.out]
        clear he
        obtain ⟨g9, rfl⟩ := grow g8 hB
        replace ha := ha.grow hB
        replace hb := hb.grow hB
        replace hc := hc.grow hB
        replace hp := hp.grow hB
        clear hB
        go_wp2_with (fail)
        refine (box_subset _ _ b c _ hb hc (by rw [LB.out, LC.out])).mono ?_
        rintro e w' ⟨he, hB⟩
        obtain rfl : e = .returned (.bool false) := by rw [he, Hβ.out]
        clear he
        obtain ⟨g10, rfl⟩ := grow g9 hB
        replace ha := ha.grow hB
        replace hb := hb.grow hB
        replace hc := hc.grow hB
        replace hp := hp.grow hB
        clear hB
        go_wp2_with (fail)
        refine (box_contains _ _ a m _ ha hp (by rw [LM.out, LA.out])).mono ?_
        rintro e w' ⟨he, hB⟩
        obtain rfl : e = .returned (.bool true) := by rw [he, V4.out]
        clear he
        obtain ⟨g11, rfl⟩ := grow g10 hB
        replace ha := ha.grow hB
        replace hb := hb.grow hB
        replace hc := hc.grow hB
        replace hp := hp.grow hB
        clear hB
        go_wp2_with (fail)
        refine (box_subset _ _ a b _ ha hb (by rw [LA.out, LB.out])).mono ?_
        rintro e w' ⟨he, hB⟩
        obtain rfl : e = .returned (.bool true) := by rw [he, Hδ.out]
        clear he
        obtain ⟨g12, rfl⟩ := grow g11 hB
        replace ha := ha.grow hB
        replace hb := hb.grow hB
        replace hc := hc.grow hB
        replace hp := hp.grow hB
        clear hB
        go_wp2_with (fail)
        refine (box_contains _ _ b m _ hb hp (by rw [LM.out, LB.out])).mono ?_
        rintro e w' ⟨he, hB⟩
        obtain rfl : e = .returned (.bool true) := by rw [he, V5.out (by trivial)]
        clear he
        obtain ⟨g13, rfl⟩ := grow g12 hB
        replace ha := ha.grow hB
        replace hb := hb.grow hB
        replace hc := hc.grow hB
        replace hp := hp.grow hB
        clear hB
        go_wp2_with (fail)
        refine (box_point _ m _ hp (by rw [LM.out]; omega)).mono ?_
        rintro e w' ⟨v1, rfl, hi, hB⟩
        obtain ⟨g14, rfl⟩ := grow g13 hB
        replace ha := ha.grow hB
        replace hb := hb.grow hB
        replace hc := hc.grow hB
        replace hp := hp.grow hB
        clear hB
        go_wp2_with (fail)
        refine (box_subset _ _ (m.map ptI) a _ hi ha (by rw [List.length_map, LM.out, LA.out])).mono ?_
        rintro e w' ⟨he, hB⟩
        obtain rfl : e = .returned (.bool true) := by rw [he, V6.out]
        clear he
        obtain ⟨g15, rfl⟩ := grow g14 hB
        replace ha := ha.grow hB
        replace hb := hb.grow hB
        replace hc := hc.grow hB
        replace hp := hp.grow hB
        replace hi := hi.grow hB
        clear hB
        go_wp2_with (fail)
        go_ret
        exact ⟨rfl, below_then hT0 g15.h⟩
      · skip
        go_wp2_with (fail)
        refine (box_subset _ _ a a _ ha ha rfl).mono ?_
        rintro e w' ⟨he, hB⟩
        obtain rfl : e = .returned (.bool true) := by rw [he, V1.out]
        clear he
        obtain ⟨g5, rfl⟩ := grow g4 hB
        replace ha := ha.grow hB
        replace hb := hb.grow hB
        replace hc := hc.grow hB
        replace hp := hp.grow hB
        clear hB
        go_wp2_with (fail)
        refine (box_subset _ _ a b _ ha hb (by rw [LA.out, LB.out])).mono ?_
        rintro e w' ⟨he, hB⟩
        obtain rfl : e = .returned (.bool true) := by rw [he, Hδ.out]
        clear he
        obtain ⟨g6, rfl⟩ := grow g5 hB
        replace ha := ha.grow hB
        replace hb := hb.grow hB
        replace hc := hc.grow hB
        replace hp := hp.grow hB
        clear hB
        go_wp2_with (fail)
        refine (box_subset _ _ b a _ hb ha (by rw [LB.out, LA.out])).mono ?_
        rintro e w' ⟨he, hB⟩
        obtain rfl : e = .returned (.bool true) := by rw [he, Hε.out]
        clear he
        obtain ⟨g7, rfl⟩ := grow g6 hB
        replace ha := ha.grow hB
        replace hb := hb.grow hB
        replace hc := hc.grow hB
        replace hp := hp.grow hB
        clear hB
        go_wp2_with (fail)
        refine (r3same _ _ a b _ ha hb).mono ?_
        rintro e w' ⟨he, hB⟩
        obtain rfl : e = .returned (.bool true) := by rw [he, V2.out (by trivial) (by trivial)]
        clear he
        obtain ⟨g8, rfl⟩ := grow g7 hB
        replace ha := ha.grow hB
        replace hb := hb.grow hB
        replace hc := hc.grow hB
        replace hp := hp.grow hB
        clear hB
        go_wp2_with (fail)
        refine (box_subset _ _ a b _ ha hb (by rw [LA.out, LB.out])).mono ?_
        rintro e w' ⟨he, hB⟩
        obtain rfl : e = .returned (.bool true) := by rw [he, Hδ.out]
        clear he
        obtain ⟨g9, rfl⟩ := grow g8 hB
        replace ha := ha.grow hB
        replace hb := hb.grow hB
        replace hc := hc.grow hB
        replace hp := hp.grow hB
        clear hB
        go_wp2_with (fail)
        refine (box_subset _ _ b c _ hb hc (by rw [LB.out, LC.out])).mono ?_
        rintro e w' ⟨he, hB⟩
        obtain rfl : e = .returned (.bool true) := by rw [he, Hβ.out]
        clear he
        obtain ⟨g10, rfl⟩ := grow g9 hB
        replace ha := ha.grow hB
        replace hb := hb.grow hB
        replace hc := hc.grow hB
        replace hp := hp.grow hB
        clear hB
        go_wp2_with (fail)
        refine (box_subset _ _ a c _ ha hc (by rw [LA.out, LC.out])).mono ?_
        rintro e w' ⟨he, hB⟩
        obtain rfl : e = .returned (.bool true) := by rw [he, V3.out (by trivial) (by trivial)]
        clear he
        obtain ⟨g11, rfl⟩ := grow g10 hB
        replace ha := ha.grow hB
        replace hb := hb.grow hB
        replace hc := hc.grow hB
        replace hp := hp.grow hB
        clear hB
        go_wp2_with (fail)
        refine (box_contains _ _ a m _ ha hp (by rw [LM.out, LA.out])).mono ?_
        rintro e w' ⟨he, hB⟩
        obtain rfl : e = .returned (.bool true) := by rw [he, V4.out]
        clear he
        obtain ⟨g12, rfl⟩ := grow g11 hB
        replace ha := ha.grow hB
        replace hb := hb.grow hB
        replace hc := hc.grow hB
        replace hp := hp.grow hB
        clear hB
        go_wp2_with (fail)
        refine (box_subset _ _ a b _ ha hb (by rw [LA.out, LB.out])).mono ?_
        rintro e w' ⟨he, hB⟩
        obtain rfl : e = .returned (.bool true) := by rw [he, Hδ.out]
        clear he
        obtain ⟨g13, rfl⟩ := grow g12 hB
        replace ha := ha.grow hB
        replace hb := hb.grow hB
        replace hc := hc.grow hB
        replace hp := hp.grow hB
        clear hB
        go_wp2_with (fail)
        refine (box_contains _ _ b m _ hb hp (by rw [LM.out, LB.out])).mono ?_
        rintro e w' ⟨he, hB⟩
        obtain rfl : e = .returned (.bool true) := by rw [he, V5.out (by trivial)]
        clear he
        obtain ⟨g14, rfl⟩ := grow g13 hB
        replace ha := ha.grow hB
        replace hb := hb.grow hB
        replace hc := hc.grow hB
        replace hp := hp.grow hB
        clear hB
        go_wp2_with (fail)
        refine (box_point _ m _ hp (by rw [LM.out]; omega)).mono ?_
        rintro e w' ⟨v1, rfl, hi, hB⟩
        obtain ⟨g15, rfl⟩ := grow g14 hB
        replace ha := ha.grow hB
        replace hb := hb.grow hB
        replace hc := hc.grow hB
        replace hp := hp.grow hB
        clear hB
        go_wp2_with (fail)
        refine (box_subset _ _ (m.map ptI) a _ hi ha (by rw [List.length_map, LM.out, LA.out])).mono ?_
        rintro e w' ⟨he, hB⟩
        obtain rfl : e = .returned (.bool true) := by rw [he, V6.out]
        clear he
        obtain ⟨g16, rfl⟩ := grow g15 hB
        replace ha := ha.grow hB
        replace hb := hb.grow hB
        replace hc := hc.grow hB
        replace hp := hp.grow hB
        replace hi := hi.grow hB
        clear hB
        go_wp2_with (fail)
        go_ret
        exact ⟨rfl, below_then hT0 g16.h⟩
theorem subo (w : World) (vA vB vC p0 p1 : Value) (n : Int) (la lb lc : List (Int × Int)) (f0 f1 : List Int) (hA : Bx w vA la ∧ I64 la) (hB : Bx w vB lb ∧ I64 lb) (hC : Bx w vC lc ∧ I64 lc) (hn : 0 ≤ n ∧ n < 256) (h0 : Us w p0 f0 ∧ U16 f0) (h1 : Us w p1 f1 ∧ U16 f1) :
    Calls Try.prog 6 #[.agg #[vA, vB, vC, .int .u8 n, p0, p1]] w fun e w' => e = .returned (.bool true) ∧ Below w.heap.size w w' :=
  subo_walk vA vB vC p0 p1 la lb lc f0 n w hA.1 hB.1 hC.1 hA.2 hB.2 hC.2 hn.1 hn.2 h0.1 h0.2
end Go.Proofs.Ytpepgheocemjdaa
