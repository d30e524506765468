/-
  law03: BoxHullIsLeastUpperBound.
-/
import Derived.Test.YtdnndmpdlelliaaHullM
import Derived.Test.YtdnndmpdlelliaaSan3
namespace Go.Proofs.Ytdnndmpdlelliaa
open Go.ChangeShapes Go.WideShapes Go.ChangeAt Go.RowKit
set_option linter.unusedVariables false
set_option linter.unusedSimpArgs false
set_option maxRecDepth 100000

attribute [local irreducible] Calls
set_option maxHeartbeats 16000000 in
theorem hull_walk (vA vB vC p0 p1 : Value) (la lb lc : List (Int × Int)) (n : Int) (w : World) (hA : Bx w vA la) (hB : Bx w vB lb) (hC : Bx w vC lc) (ba : I64 la) (bb : I64 lb) (bc : I64 lc) (hn0 : 0 ≤ n) (hn1 : n < 256) :
    Calls Try.prog 8 #[.agg #[vA, vB, vC, .int .u8 n, p0, p1]] w fun e w' => e = .returned (.bool true) ∧ Below w.heap.size w w' := by
  have hm0 : 0 ≤ n % 6 := Int.emod_nonneg _ (by decide)
  have hm1 : n % 6 < 6 := Int.emod_lt_of_pos _ (by decide)
  obtain ⟨k, hk⟩ : ∃ k : Nat, 1 + n % 6 = (k : Int) := ⟨(1 + n % 6).toNat, by omega⟩
  have hk1 : 1 ≤ k := by omega
  have hk6 : k ≤ 6 := by omega
  have HA := Lib.hid hA
  have HB := Lib.hid hB
  have HC := Lib.hid hC
  have BA := Lib.hid ba
  have BB := Lib.hid bb
  have BC := Lib.hid bc
  clear hA hB hC ba bb bc
  go_enter Try.func8, Try.ntmps8
  go_wp2_with (fail)
  generalize hW0 : World.alloc w _ = W0
  have hT0 : Below w.heap.size w W0 := by subst hW0; exact ((Below.refl w.heap.size w).alloc (by go_size) _)
  have Y0 : w.heap.size < W0.heap.size := by subst hW0; simp <;> omega
  have F0_0 : ∀ g : Grown W0, g.w.cell? ⟨w.heap.size, 0, none⟩ = some (vA) := fun g => (g.cell Y0).trans (by subst hW0; simp [go_sem])
  have F0_1 : ∀ g : Grown W0, g.w.cell? ⟨w.heap.size, 1, none⟩ = some (vB) := fun g => (g.cell Y0).trans (by subst hW0; simp [go_sem])
  have F0_2 : ∀ g : Grown W0, g.w.cell? ⟨w.heap.size, 2, none⟩ = some (vC) := fun g => (g.cell Y0).trans (by subst hW0; simp [go_sem])
  have F0_3 : ∀ g : Grown W0, g.w.cell? ⟨w.heap.size, 3, none⟩ = some (.int .u8 n) := fun g => (g.cell Y0).trans (by subst hW0; simp [go_sem])
  have F0_4 : ∀ g : Grown W0, g.w.cell? ⟨w.heap.size, 4, none⟩ = some (p0) := fun g => (g.cell Y0).trans (by subst hW0; simp [go_sem])
  have F0_5 : ∀ g : Grown W0, g.w.cell? ⟨w.heap.size, 5, none⟩ = some (p1) := fun g => (g.cell Y0).trans (by subst hW0; simp [go_sem])
  clear Y0 hW0
  obtain ⟨g0, hg0⟩ : ∃ g : Grown W0, W0 = g.w := ⟨⟨W0, Below.refl _ _⟩, rfl⟩
  rw [hg0]
  refine (sanity3 _).mono ?_
  rintro e w' ⟨rfl, hB⟩
  obtain ⟨g1, rfl⟩ := grow g0 hB
  clear hB hg0
  go_wp2_with (fail)
  refine (law_boxes vA vB vC p0 p1 la lb n k _ ((HA.out.grow hT0).grow g1.h) ((HB.out.grow hT0).grow g1.h) BA.out BB.out hn0 hn1 hk hk6).mono ?_
  rintro e w' ⟨va, vb, a, b, rfl, a1, b1, a2, b2, ha, hb, hB⟩
  obtain ⟨g2, rfl⟩ := grow g1 hB
  have LA := Lib.hid a1
  have LB := Lib.hid b1
  have VBa := Lib.hid a2
  have VBb := Lib.hid b2
  clear hB a1 b1 a2 b2
  go_wp2_with (fail)
  refine (r3made vC lc k _ ((HC.out.grow hT0).grow g2.h) hk6 BC.out).mono ?_
  rintro e w' ⟨vc, c, rfl, c1, c2, hc, hB⟩
  obtain ⟨g3, rfl⟩ := grow g2 hB
  have LC := Lib.hid c1
  replace ha := ha.grow hB
  replace hb := hb.grow hB
  clear hB c1 c2
  go_wp2_with (fail)
  refine (box_hull _ _ a b _ ha hb (by rw [LA.out, LB.out]) (vb_zip a b VBa.out VBb.out) (by rw [LA.out]; omega)).mono ?_
  rintro e w' ⟨vh, rfl, hh, hB⟩
  obtain ⟨g4, rfl⟩ := grow g3 hB
  replace ha := ha.grow hB
  replace hb := hb.grow hB
  replace hc := hc.grow hB
  clear hB
  have lab : b.length = a.length := by rw [LA.out, LB.out]
  have H0 := Lib.hid (hull_len a b lab)
  have VBh := Lib.hid (hull_vb a b VBa.out VBb.out)
  have V2 := Lib.hid (hull_left a b lab)
  have V3 := Lib.hid (hull_right a b lab)
  have V4 := Lib.hid (hull_comm a b)
  have V5 := Lib.hid (hull_lub a b c)
  have V6 := Lib.hid (hull_abs a b lab)
  have V7 := Lib.hid (hull_idem a b)
  clear lab
  generalize (a.zip b).map hullI = h at *
  have LH : Hid (h.length = k) := Lib.hid (by rw [H0.out, LA.out])
  have V1 := Lib.hid (all_valid h k VBh.out LH.out hk1 hk6)
  replace V4 := Lib.hid (show decide (h = (b.zip a).map hullI) = true from decide_eq_true V4.out.symm)
  replace V7 := Lib.hid (show decide ((h.zip a).map hullI = h) = true from decide_eq_true V7.out)
  replace V6 := Lib.hid (show (a.zip b).all sub1 = true → decide (h = b) = true from fun x => decide_eq_true (V6.out x))
  obtain ⟨α, hα⟩ : ∃ x, (a.zip c).all sub1 = x := ⟨_, rfl⟩
  obtain ⟨β, hβ⟩ : ∃ x, (b.zip c).all sub1 = x := ⟨_, rfl⟩
  obtain ⟨δ, hδ⟩ : ∃ x, (a.zip b).all sub1 = x := ⟨_, rfl⟩
  replace V5 := Lib.hid (show α = true → β = true → (h.zip c).all sub1 = true from fun x y => V5.out (hα.trans x) (hβ.trans y))
  replace V6 := Lib.hid (show δ = true → decide (h = b) = true from fun x => V6.out (hδ.trans x))
  have Hα := Lib.hid hα
  have Hβ := Lib.hid hβ
  have Hδ := Lib.hid hδ
  clear hα hβ hδ H0
  cases α
  · cases δ
    · skip
      go_wp2_with (fail)
      refine (box_valid _ h _ hh).mono ?_
      rintro e w' ⟨he, hB⟩
      obtain rfl : e = .returned (.bool true) := by rw [he, V1.out]
      clear he
      obtain ⟨g5, rfl⟩ := grow g4 hB
      replace ha := ha.grow hB
      replace hb := hb.grow hB
      replace hc := hc.grow hB
      replace hh := hh.grow hB
      clear hB
      go_wp2_with (fail)
      refine (box_subset _ _ a h _ ha hh (by rw [LA.out, LH.out])).mono ?_
      rintro e w' ⟨he, hB⟩
      obtain rfl : e = .returned (.bool true) := by rw [he, V2.out]
      clear he
      obtain ⟨g6, rfl⟩ := grow g5 hB
      replace ha := ha.grow hB
      replace hb := hb.grow hB
      replace hc := hc.grow hB
      replace hh := hh.grow hB
      clear hB
      go_wp2_with (fail)
      refine (box_subset _ _ b h _ hb hh (by rw [LB.out, LH.out])).mono ?_
      rintro e w' ⟨he, hB⟩
      obtain rfl : e = .returned (.bool true) := by rw [he, V3.out]
      clear he
      obtain ⟨g7, rfl⟩ := grow g6 hB
      replace ha := ha.grow hB
      replace hb := hb.grow hB
      replace hc := hc.grow hB
      replace hh := hh.grow hB
      clear hB
      go_wp2_with (fail)
      refine (box_hull _ _ b a _ hb ha (by rw [LA.out, LB.out]) (vb_zip b a VBb.out VBa.out) (by rw [LB.out]; omega)).mono ?_
      rintro e w' ⟨v1, rfl, hi, hB⟩
      obtain ⟨g8, rfl⟩ := grow g7 hB
      replace ha := ha.grow hB
      replace hb := hb.grow hB
      replace hc := hc.grow hB
      replace hh := hh.grow hB
      clear hB
      go_wp2_with (fail)
      refine (r3same _ _ h _ _ hh hi).mono ?_
      rintro e w' ⟨he, hB⟩
      obtain rfl : e = .returned (.bool true) := by rw [he, V4.out]
      clear he
      obtain ⟨g9, rfl⟩ := grow g8 hB
      replace ha := ha.grow hB
      replace hb := hb.grow hB
      replace hc := hc.grow hB
      replace hh := hh.grow hB
      replace hi := hi.grow hB
      clear hB
      clear hi
      go_wp2_with (fail)
      refine (box_subset _ _ a c _ ha hc (by rw [LA.out, LC.out])).mono ?_
      rintro e w' ⟨he, hB⟩
      obtain rfl : e = .returned (.bool false) := by rw [he, Hα.out]
      clear he
      obtain ⟨g10, rfl⟩ := grow g9 hB
      replace ha := ha.grow hB
      replace hb := hb.grow hB
      replace hc := hc.grow hB
      replace hh := hh.grow hB
      clear hB
      go_wp2_with (fail)
      refine (box_subset _ _ a b _ ha hb (by rw [LA.out, LB.out])).mono ?_
      rintro e w' ⟨he, hB⟩
      obtain rfl : e = .returned (.bool false) := by rw [he, Hδ.out]
      clear he
      obtain ⟨g11, rfl⟩ := grow g10 hB
      replace ha := ha.grow hB
      replace hb := hb.grow hB
      replace hc := hc.grow hB
      replace hh := hh.grow hB
      clear hB
      go_wp2_with (fail)
      refine (box_hull _ _ h a _ hh ha (by rw [LA.out, LH.out]) (vb_zip h a VBh.out VBa.out) (by rw [LH.out]; omega)).mono ?_
      rintro e w' ⟨v2, rfl, hj, hB⟩
      obtain ⟨g12, rfl⟩ := grow g11 hB
      replace ha := ha.grow hB
      replace hb := hb.grow hB
      replace hc := hc.grow hB
      replace hh := hh.grow hB
      clear hB
      go_wp2_with (fail)
      refine (r3same _ _ _ h _ hj hh).mono ?_
      rintro e w' ⟨he, hB⟩
      obtain rfl : e = .returned (.bool true) := by rw [he, V7.out]
      clear he
      obtain ⟨g13, rfl⟩ := grow g12 hB
      replace ha := ha.grow hB
      replace hb := hb.grow hB
      replace hc := hc.grow hB
      replace hh := hh.grow hB
      replace hj := hj.grow hB
      clear hB
      go_wp2_with (fail)
      go_ret
      exact ⟨rfl, below_then hT0 g13.h⟩
    · skip
      go_wp2_with (fail)
      refine (box_valid _ h _ hh).mono ?_
      rintro e w' ⟨he, hB⟩
      obtain rfl : e = .returned (.bool true) := by rw [he, V1.out]
      clear he
      obtain ⟨g5, rfl⟩ := grow g4 hB
      replace ha := ha.grow hB
      replace hb := hb.grow hB
      replace hc := hc.grow hB
      replace hh := hh.grow hB
      clear hB
      go_wp2_with (fail)
      refine (box_subset _ _ a h _ ha hh (by rw [LA.out, LH.out])).mono ?_
      rintro e w' ⟨he, hB⟩
      obtain rfl : e = .returned (.bool true) := by rw [he, V2.out]
      clear he
      obtain ⟨g6, rfl⟩ := grow g5 hB
      replace ha := ha.grow hB
      replace hb := hb.grow hB
      replace hc := hc.grow hB
      replace hh := hh.grow hB
      clear hB
      go_wp2_with (fail)
      refine (box_subset _ _ b h _ hb hh (by rw [LB.out, LH.out])).mono ?_
      rintro e w' ⟨he, hB⟩
      obtain rfl : e = .returned (.bool true) := by rw [he, V3.out]
      clear he
      obtain ⟨g7, rfl⟩ := grow g6 hB
      replace ha := ha.grow hB
      replace hb := hb.grow hB
      replace hc := hc.grow hB
      replace hh := hh.grow hB
      clear hB
      go_wp2_with (fail)
      refine (box_hull _ _ b a _ hb ha (by rw [LA.out, LB.out]) (vb_zip b a VBb.out VBa.out) (by rw [LB.out]; omega)).mono ?_
      rintro e w' ⟨v1, rfl, hi, hB⟩
      obtain ⟨g8, rfl⟩ := grow g7 hB
      replace ha := ha.grow hB
      replace hb := hb.grow hB
      replace hc := hc.grow hB
      replace hh := hh.grow hB
      clear hB
      go_wp2_with (fail)
      refine (r3same _ _ h _ _ hh hi).mono ?_
      rintro e w' ⟨he, hB⟩
      obtain rfl : e = .returned (.bool true) := by rw [he, V4.out]
      clear he
      obtain ⟨g9, rfl⟩ := grow g8 hB
      replace ha := ha.grow hB
      replace hb := hb.grow hB
      replace hc := hc.grow hB
      replace hh := hh.grow hB
      replace hi := hi.grow hB
      clear hB
      clear hi
      go_wp2_with (fail)
      refine (box_subset _ _ a c _ ha hc (by rw [LA.out, LC.out])).mono ?_
      rintro e w' ⟨he, hB⟩
      obtain rfl : e = .returned (.bool false) := by rw [he, Hα.out]
      clear he
      obtain ⟨g10, rfl⟩ := grow g9 hB
      replace ha := ha.grow hB
      replace hb := hb.grow hB
      replace hc := hc.grow hB
      replace hh := hh.grow hB
      clear hB
      go_wp2_with (fail)
      refine (box_subset _ _ a b _ ha hb (by rw [LA.out, LB.out])).mono ?_
      rintro e w' ⟨he, hB⟩
      obtain rfl : e = .returned (.bool true) := by rw [he, Hδ.out]
      clear he
      obtain ⟨g11, rfl⟩ := grow g10 hB
      replace ha := ha.grow hB
      replace hb := hb.grow hB
      replace hc := hc.grow hB
      replace hh := hh.grow hB
      clear hB
      go_wp2_with (fail)
      refine (r3same _ _ h b _ hh hb).mono ?_
      rintro e w' ⟨he, hB⟩
      obtain rfl : e = .returned (.bool true) := by rw [he, V6.out (by trivial)]
      clear he
      obtain ⟨g12, rfl⟩ := grow g11 hB
      replace ha := ha.grow hB
      replace hb := hb.grow hB
      replace hc := hc.grow hB
      replace hh := hh.grow hB
      clear hB
      go_wp2_with (fail)
      refine (box_hull _ _ h a _ hh ha (by rw [LA.out, LH.out]) (vb_zip h a VBh.out VBa.out) (by rw [LH.out]; omega)).mono ?_
      rintro e w' ⟨v2, rfl, hj, hB⟩
      obtain ⟨g13, rfl⟩ := grow g12 hB
      replace ha := ha.grow hB
      replace hb := hb.grow hB
      replace hc := hc.grow hB
      replace hh := hh.grow hB
      clear hB
      go_wp2_with (fail)
      refine (r3same _ _ _ h _ hj hh).mono ?_
      rintro e w' ⟨he, hB⟩
      obtain rfl : e = .returned (.bool true) := by rw [he, V7.out]
      clear he
      obtain ⟨g14, rfl⟩ := grow g13 hB
      replace ha := ha.grow hB
      replace hb := hb.grow hB
      replace hc := hc.grow hB
      replace hh := hh.grow hB
      replace hj := hj.grow hB
      clear hB
      go_wp2_with (fail)
      go_ret
      exact ⟨rfl, below_then hT0 g14.h⟩
  · cases β
    · cases δ
      · skip
        go_wp2_with (fail)
        refine (box_valid _ h _ hh).mono ?_
        rintro e w' ⟨he, hB⟩
        obtain rfl : e = .returned (.bool true) := by rw [he, V1.out]
        clear he
        obtain ⟨g5, rfl⟩ := grow g4 hB
        replace ha := ha.grow hB
        replace hb := hb.grow hB
        replace hc := hc.grow hB
        replace hh := hh.grow hB
        clear hB
        go_wp2_with (fail)
        refine (box_subset _ _ a h _ ha hh (by rw [LA.out, LH.out])).mono ?_
        rintro e w' ⟨he, hB⟩
        obtain rfl : e = .returned (.bool true) := by rw [he, V2.out]
        clear he
        obtain ⟨g6, rfl⟩ := grow g5 hB
        replace ha := ha.grow hB
        replace hb := hb.grow hB
        replace hc := hc.grow hB
        replace hh := hh.grow hB
        clear hB
        go_wp2_with (fail)
        refine (box_subset _ _ b h _ hb hh (by rw [LB.out, LH.out])).mono ?_
        rintro e w' ⟨he, hB⟩
        obtain rfl : e = .returned (.bool true) := by rw [he, V3.out]
        clear he
        obtain ⟨g7, rfl⟩ := grow g6 hB
        replace ha := ha.grow hB
        replace hb := hb.grow hB
        replace hc := hc.grow hB
        replace hh := hh.grow hB
        clear hB
        go_wp2_with (fail)
        refine (box_hull _ _ b a _ hb ha (by rw [LA.out, LB.out]) (vb_zip b a VBb.out VBa.out) (by rw [LB.out]; omega)).mono ?_
        rintro e w' ⟨v1, rfl, hi, hB⟩
        obtain ⟨g8, rfl⟩ := grow g7 hB
        replace ha := ha.grow hB
        replace hb := hb.grow hB
        replace hc := hc.grow hB
        replace hh := hh.grow hB
        clear hB
        go_wp2_with (fail)
        refine (r3same _ _ h _ _ hh hi).mono ?_
        rintro e w' ⟨he, hB⟩
        obtain rfl : e = .returned (.bool true) := by rw [he, V4.out]
        clear he
        obtain ⟨g9, rfl⟩ := grow g8 hB
        replace ha := ha.grow hB
        replace hb := hb.grow hB
        replace hc := hc.grow hB
        replace hh := hh.grow hB
        replace hi := hi.grow hB
        clear hB
        clear hi
        go_wp2_with (fail)
        refine (box_subset _ _ a c _ ha hc (by rw [LA.out, LC.out])).mono ?_
        rintro e w' ⟨he, hB⟩
        obtain rfl : e = .returned (.bool true) := by rw [he, Hα.out]
        clear he
        obtain ⟨g10, rfl⟩ := grow g9 hB
        replace ha := ha.grow hB
        replace hb := hb.grow hB
        replace hc := hc.grow hB
        replace hh := hh.grow hB
        clear hB
        go_wp2_with (fail)
        refine (box_subset _ _ b c _ hb hc (by rw [LB.out, LC.out])).mono ?_
        rintro e w' ⟨he, hB⟩
        obtain rfl : e = .returned (.bool false) := by rw [he, Hβ.out]
        clear he
        obtain ⟨g11, rfl⟩ := grow g10 hB
        replace ha := ha.grow hB
        replace hb := hb.grow hB
        replace hc := hc.grow hB
        replace hh := hh.grow hB
        clear hB
        go_wp2_with (fail)
        refine (box_subset _ _ a b _ ha hb (by rw [LA.out, LB.out])).mono ?_
        rintro e w' ⟨he, hB⟩
        obtain rfl : e = .returned (.bool false) := by rw [he, Hδ.out]
        clear he
        obtain ⟨g12, rfl⟩ := grow g11 hB
        replace ha := ha.grow hB
        replace hb := hb.grow hB
        replace hc := hc.grow hB
        replace hh := hh.grow hB
        clear hB
        go_wp2_with (fail)
        refine (box_hull _ _ h a _ hh ha (by rw [LA.out, LH.out]) (vb_zip h a VBh.out VBa.out) (by rw [LH.out]; omega)).mono ?_
        rintro e w' ⟨v2, rfl, hj, hB⟩
        obtain ⟨g13, rfl⟩ := grow g12 hB
        replace ha := ha.grow hB
        replace hb := hb.grow hB
        replace hc := hc.grow hB
        replace hh := hh.grow hB
        clear hB
        go_wp2_with (fail)
        refine (r3same _ _ _ h _ hj hh).mono ?_
        rintro e w' ⟨he, hB⟩
        obtain rfl : e = .returned (.bool true) := by rw [he, V7.out]
        clear he
        obtain ⟨g14, rfl⟩ := grow g13 hB
        replace ha := ha.grow hB
        replace hb := hb.grow hB
        replace hc := hc.grow hB
        replace hh := hh.grow hB
        replace hj := hj.grow hB
        clear hB
        go_wp2_with (fail)
        go_ret
        exact ⟨rfl, below_then hT0 g14.h⟩
      · skip
        go_wp2_with (fail)
        refine (box_valid _ h _ hh).mono ?_
        rintro e w' ⟨he, hB⟩
        obtain rfl : e = .returned (.bool true) := by rw [he, V1.out]
        clear he
        obtain ⟨g5, rfl⟩ := grow g4 hB
        replace ha := ha.grow hB
        replace hb := hb.grow hB
        replace hc := hc.grow hB
        replace hh := hh.grow hB
        clear hB
        go_wp2_with (fail)
        refine (box_subset _ _ a h _ ha hh (by rw [LA.out, LH.out])).mono ?_
        rintro e w' ⟨he, hB⟩
        obtain rfl : e = .returned (.bool true) := by rw [he, V2.out]
        clear he
        obtain ⟨g6, rfl⟩ := grow g5 hB
        replace ha := ha.grow hB
        replace hb := hb.grow hB
        replace hc := hc.grow hB
        replace hh := hh.grow hB
        clear hB
        go_wp2_with (fail)
        refine (box_subset _ _ b h _ hb hh (by rw [LB.out, LH.out])).mono ?_
        rintro e w' ⟨he, hB⟩
        obtain rfl : e = .returned (.bool true) := by rw [he, V3.out]
        clear he
        obtain ⟨g7, rfl⟩ := grow g6 hB
        replace ha := ha.grow hB
        replace hb := hb.grow hB
        replace hc := hc.grow hB
        replace hh := hh.grow hB
        clear hB
        go_wp2_with (fail)
        refine (box_hull _ _ b a _ hb ha (by rw [LA.out, LB.out]) (vb_zip b a VBb.out VBa.out) (by rw [LB.out]; omega)).mono ?_
        rintro e w' ⟨v1, rfl, hi, hB⟩
        obtain ⟨g8, rfl⟩ := grow g7 hB
        replace ha := ha.grow hB
        replace hb := hb.grow hB
        replace hc := hc.grow hB
        replace hh := hh.grow hB
        clear hB
        go_wp2_with (fail)
        refine (r3same _ _ h _ _ hh hi).mono ?_
        rintro e w' ⟨he, hB⟩
        obtain rfl : e = .returned (.bool true) := by rw [he, V4.out]
        clear he
        obtain ⟨g9, rfl⟩ := grow g8 hB
        replace ha := ha.grow hB
        replace hb := hb.grow hB
        replace hc := hc.grow hB
        replace hh := hh.grow hB
        replace hi := hi.grow hB
        clear hB
        clear hi
        go_wp2_with (fail)
        refine (box_subset _ _ a c _ ha hc (by rw [LA.out, LC.out])).mono ?_
        rintro e w' ⟨he, hB⟩
        obtain rfl : e = .returned (.bool true) := by rw [he, Hα.out]
        clear he
        obtain ⟨g10, rfl⟩ := grow g9 hB
        replace ha := ha.grow hB
        replace hb := hb.grow hB
        replace hc := hc.grow hB
        replace hh := hh.grow hB
        clear hB
        go_wp2_with (fail)
        refine (box_subset _ _ b c _ hb hc (by rw [LB.out, LC.out])).mono ?_
        rintro e w' ⟨he, hB⟩
        obtain rfl : e = .returned (.bool false) := by rw [he, Hβ.out]
        clear he
        obtain ⟨g11, rfl⟩ := grow g10 hB
        replace ha := ha.grow hB
        replace hb := hb.grow hB
        replace hc := hc.grow hB
        replace hh := hh.grow hB
        clear hB
        go_wp2_with (fail)
        refine (box_subset _ _ a b _ ha hb (by rw [LA.out, LB.out])).mono ?_
        rintro e w' ⟨he, hB⟩
        obtain rfl : e = .returned (.bool true) := by rw [he, Hδ.out]
        clear he
        obtain ⟨g12, rfl⟩ := grow g11 hB
        replace ha := ha.grow hB
        replace hb := hb.grow hB
        replace hc := hc.grow hB
        replace hh := hh.grow hB
        clear hB
        go_wp2_with (fail)
        refine (r3same _ _ h b _ hh hb).mono ?_
        rintro e w' ⟨he, hB⟩
        obtain rfl : e = .returned (.bool true) := by rw [he, V6.out (by trivial)]
        clear he
        obtain ⟨g13, rfl⟩ := grow g12 hB
        replace ha := ha.grow hB
        replace hb := hb.grow hB
        replace hc := hc.grow hB
        replace hh := hh.grow hB
        clear hB
        go_wp2_with (fail)
        refine (box_hull _ _ h a _ hh ha (by rw [LA.out, LH.out]) (vb_zip h a VBh.out VBa.out) (by rw [LH.out]; omega)).mono ?_
        rintro e w' ⟨v2, rfl, hj, hB⟩
        obtain ⟨g14, rfl⟩ := grow g13 hB
        replace ha := ha.grow hB
        replace hb := hb.grow hB
        replace hc := hc.grow hB
        replace hh := hh.grow hB
        clear hB
        go_wp2_with (fail)
        refine (r3same _ _ _ h _ hj hh).mono ?_
        rintro e w' ⟨he, hB⟩
        obtain rfl : e = .returned (.bool true) := by rw [he, V7.out]
        clear he
        obtain ⟨g15, rfl⟩ := grow g14 hB
        replace ha := ha.grow hB
        replace hb := hb.grow hB
        replace hc := hc.grow hB
        replace hh := hh.grow hB
        replace hj := hj.grow hB
        clear hB
        go_wp2_with (fail)
        go_ret
        exact ⟨rfl, below_then hT0 g15.h⟩
    · cases δ
      · skip
        go_wp2_with (fail)
        refine (box_valid _ h _ hh).mono ?_
        rintro e w' ⟨he, hB⟩
        obtain rfl : e = .returned (.bool true) := by rw [he, V1.out]
        clear he
        obtain ⟨g5, rfl⟩ := grow g4 hB
        replace ha := ha.grow hB
        replace hb := hb.grow hB
        replace hc := hc.grow hB
        replace hh := hh.grow hB
        clear hB
        go_wp2_with (fail)
        refine (box_subset _ _ a h _ ha hh (by rw [LA.out, LH.out])).mono ?_
        rintro e w' ⟨he, hB⟩
        obtain rfl : e = .returned (.bool true) := by rw [he, V2.out]
        clear he
        obtain ⟨g6, rfl⟩ := grow g5 hB
        replace ha := ha.grow hB
        replace hb := hb.grow hB
        replace hc := hc.grow hB
        replace hh := hh.grow hB
        clear hB
        go_wp2_with (fail)
        refine (box_subset _ _ b h _ hb hh (by rw [LB.out, LH.out])).mono ?_
        rintro e w' ⟨he, hB⟩
        obtain rfl : e = .returned (.bool true) := by rw [he, V3.out]
        clear he
        obtain ⟨g7, rfl⟩ := grow g6 hB
        replace ha := ha.grow hB
        replace hb := hb.grow hB
        replace hc := hc.grow hB
        replace hh := hh.grow hB
        clear hB
        go_wp2_with (fail)
        refine (box_hull _ _ b a _ hb ha (by rw [LA.out, LB.out]) (vb_zip b a VBb.out VBa.out) (by rw [LB.out]; omega)).mono ?_
        rintro e w' ⟨v1, rfl, hi, hB⟩
        obtain ⟨g8, rfl⟩ := grow g7 hB
        replace ha := ha.grow hB
        replace hb := hb.grow hB
        replace hc := hc.grow hB
        replace hh := hh.grow hB
        clear hB
        go_wp2_with (fail)
        refine (r3same _ _ h _ _ hh hi).mono ?_
        rintro e w' ⟨he, hB⟩
        obtain rfl : e = .returned (.bool true) := by rw [he, V4.out]
        clear he
        obtain ⟨g9, rfl⟩ := grow g8 hB
        replace ha := ha.grow hB
        replace hb := hb.grow hB
        replace hc := hc.grow hB
        replace hh := hh.grow hB
        replace hi := hi.grow hB
        clear hB
        clear hi
        go_wp2_with (fail)
        refine (box_subset _ _ a c _ ha hc (by rw [LA.out, LC.out])).mono ?_
        rintro e w' ⟨he, hB⟩
        obtain rfl : e = .returned (.bool true) := by rw [he, Hα.out]
        clear he
        obtain ⟨g10, rfl⟩ := grow g9 hB
        replace ha := ha.grow hB
        replace hb := hb.grow hB
        replace hc := hc.grow hB
        replace hh := hh.grow hB
        clear hB
        go_wp2_with (fail)
        refine (box_subset _ _ b c _ hb hc (by rw [LB.out, LC.out])).mono ?_
        rintro e w' ⟨he, hB⟩
        obtain rfl : e = .returned (.bool true) := by rw [he, Hβ.out]
        clear he
        obtain ⟨g11, rfl⟩ := grow g10 hB
        replace ha := ha.grow hB
        replace hb := hb.grow hB
        replace hc := hc.grow hB
        replace hh := hh.grow hB
        clear hB
        go_wp2_with (fail)
        refine (box_subset _ _ h c _ hh hc (by rw [LH.out, LC.out])).mono ?_
        rintro e w' ⟨he, hB⟩
        obtain rfl : e = .returned (.bool true) := by rw [he, V5.out (by trivial) (by trivial)]
        clear he
        obtain ⟨g12, rfl⟩ := grow g11 hB
        replace ha := ha.grow hB
        replace hb := hb.grow hB
        replace hc := hc.grow hB
        replace hh := hh.grow hB
        clear hB
        go_wp2_with (fail)
        refine (box_subset _ _ a b _ ha hb (by rw [LA.out, LB.out])).mono ?_
        rintro e w' ⟨he, hB⟩
        obtain rfl : e = .returned (.bool false) := by rw [he, Hδ.out]
        clear he
        obtain ⟨g13, rfl⟩ := grow g12 hB
        replace ha := ha.grow hB
        replace hb := hb.grow hB
        replace hc := hc.grow hB
        replace hh := hh.grow hB
        clear hB
        go_wp2_with (fail)
        refine (box_hull _ _ h a _ hh ha (by rw [LA.out, LH.out]) (vb_zip h a VBh.out VBa.out) (by rw [LH.out]; omega)).mono ?_
        rintro e w' ⟨v2, rfl, hj, hB⟩
        obtain ⟨g14, rfl⟩ := grow g13 hB
        replace ha := ha.grow hB
        replace hb := hb.grow hB
        replace hc := hc.grow hB
        replace hh := hh.grow hB
        clear hB
        go_wp2_with (fail)
        refine (r3same _ _ _ h _ hj hh).mono ?_
        rintro e w' ⟨he, hB⟩
        obtain rfl : e = .returned (.bool true) := by rw [he, V7.out]
        clear he
        obtain ⟨g15, rfl⟩ := grow g14 hB
        replace ha := ha.grow hB
        replace hb := hb.grow hB
        replace hc := hc.grow hB
        replace hh := hh.grow hB
        replace hj := hj.grow hB
        clear hB
        go_wp2_with (fail)
        go_ret
        exact ⟨rfl, below_then hT0 g15.h⟩
      · skip
        go_wp2_with (fail)
        refine (box_valid _ h _ hh).mono ?_
        rintro e w' ⟨he, hB⟩
        obtain rfl : e = .returned (.bool true) := by rw [he, V1.out]
        clear he
        obtain ⟨g5, rfl⟩ := grow g4 hB
        replace ha := ha.grow hB
        replace hb := hb.grow hB
        replace hc := hc.grow hB
        replace hh := hh.grow hB
        clear hB
        go_wp2_with (fail)
        refine (box_subset _ _ a h _ ha hh (by rw [LA.out, LH.out])).mono ?_
        rintro e w' ⟨he, hB⟩
        obtain rfl : e = .returned (.bool true) := by rw [he, V2.out]
        clear he
        obtain ⟨g6, rfl⟩ := grow g5 hB
        replace ha := ha.grow hB
        replace hb := hb.grow hB
        replace hc := hc.grow hB
        replace hh := hh.grow hB
        clear hB
        go_wp2_with (fail)
        refine (box_subset _ _ b h _ hb hh (by rw [LB.out, LH.out])).mono ?_
        rintro e w' ⟨he, hB⟩
        obtain rfl : e = .returned (.bool true) := by rw [he, V3.out]
        clear he
        obtain ⟨g7, rfl⟩ := grow g6 hB
        replace ha := ha.grow hB
        replace hb := hb.grow hB
        replace hc := hc.grow hB
        replace hh := hh.grow hB
        clear hB
        go_wp2_with (fail)
        refine (box_hull _ _ b a _ hb ha (by rw [LA.out, LB.out]) (vb_zip b a VBb.out VBa.out) (by rw [LB.out]; omega)).mono ?_
        rintro e w' ⟨v1, rfl, hi, hB⟩
        obtain ⟨g8, rfl⟩ := grow g7 hB
        replace ha := ha.grow hB
        replace hb := hb.grow hB
        replace hc := hc.grow hB
        replace hh := hh.grow hB
        clear hB
        go_wp2_with (fail)
        refine (r3same _ _ h _ _ hh hi).mono ?_
        rintro e w' ⟨he, hB⟩
        obtain rfl : e = .returned (.bool true) := by rw [he, V4.out]
        clear he
        obtain ⟨g9, rfl⟩ := grow g8 hB
        replace ha := ha.grow hB
        replace hb := hb.grow hB
        replace hc := hc.grow hB
        replace hh := hh.grow hB
        replace hi := hi.grow hB
        clear hB
        clear hi
        go_wp2_with (fail)
        refine (box_subset _ _ a c _ ha hc (by rw [LA.out, LC.out])).mono ?_
        rintro e w' ⟨he, hB⟩
        obtain rfl : e = .returned (.bool true) := by rw [he, Hα.out]
        clear he
        obtain ⟨g10, rfl⟩ := grow g9 hB
        replace ha := ha.grow hB
        replace hb := hb.grow hB
        replace hc := hc.grow hB
        replace hh := hh.grow hB
        clear hB
        go_wp2_with (fail)
        refine (box_subset _ _ b c _ hb hc (by rw [LB.out, LC.out])).mono ?_
        rintro e w' ⟨he, hB⟩
        obtain rfl : e = .returned (.bool true) := by rw [he, Hβ.out]
        clear he
        obtain ⟨g11, rfl⟩ := grow g10 hB
        replace ha := ha.grow hB
        replace hb := hb.grow hB
        replace hc := hc.grow hB
        replace hh := hh.grow hB
        clear hB
        go_wp2_with (fail)
        refine (box_subset _ _ h c _ hh hc (by rw [LH.out, LC.out])).mono ?_
        rintro e w' ⟨he, hB⟩
        obtain rfl : e = .returned (.bool true) := by rw [he, V5.out (by trivial) (by trivial)]
        clear he
        obtain ⟨g12, rfl⟩ := grow g11 hB
        replace ha := ha.grow hB
        replace hb := hb.grow hB
        replace hc := hc.grow hB
        replace hh := hh.grow hB
        clear hB
        go_wp2_with (fail)
        refine (box_subset _ _ a b _ ha hb (by rw [LA.out, LB.out])).mono ?_
        rintro e w' ⟨he, hB⟩
        obtain rfl : e = .returned (.bool true) := by rw [he, Hδ.out]
        clear he
        obtain ⟨g13, rfl⟩ := grow g12 hB
        replace ha := ha.grow hB
        replace hb := hb.grow hB
        replace hc := hc.grow hB
        replace hh := hh.grow hB
        clear hB
        go_wp2_with (fail)
        refine (r3same _ _ h b _ hh hb).mono ?_
        rintro e w' ⟨he, hB⟩
        obtain rfl : e = .returned (.bool true) := by rw [he, V6.out (by trivial)]
        clear he
        obtain ⟨g14, rfl⟩ := grow g13 hB
        replace ha := ha.grow hB
        replace hb := hb.grow hB
        replace hc := hc.grow hB
        replace hh := hh.grow hB
        clear hB
        go_wp2_with (fail)
        refine (box_hull _ _ h a _ hh ha (by rw [LA.out, LH.out]) (vb_zip h a VBh.out VBa.out) (by rw [LH.out]; omega)).mono ?_
        rintro e w' ⟨v2, rfl, hj, hB⟩
        obtain ⟨g15, rfl⟩ := grow g14 hB
        replace ha := ha.grow hB
        replace hb := hb.grow hB
        replace hc := hc.grow hB
        replace hh := hh.grow hB
        clear hB
        go_wp2_with (fail)
        refine (r3same _ _ _ h _ hj hh).mono ?_
        rintro e w' ⟨he, hB⟩
        obtain rfl : e = .returned (.bool true) := by rw [he, V7.out]
        clear he
        obtain ⟨g16, rfl⟩ := grow g15 hB
        replace ha := ha.grow hB
        replace hb := hb.grow hB
        replace hc := hc.grow hB
        replace hh := hh.grow hB
        replace hj := hj.grow hB
        clear hB
        go_wp2_with (fail)
        go_ret
        exact ⟨rfl, below_then hT0 g16.h⟩
theorem hull (w : World) (vA vB vC p0 p1 : Value) (n : Int) (la lb lc : List (Int × Int)) (hA : Bx w vA la ∧ I64 la) (hB : Bx w vB lb ∧ I64 lb) (hC : Bx w vC lc ∧ I64 lc) (hn : 0 ≤ n ∧ n < 256) :
    Calls Try.prog 8 #[.agg #[vA, vB, vC, .int .u8 n, p0, p1]] w fun e w' => e = .returned (.bool true) ∧ Below w.heap.size w w' :=
  hull_walk vA vB vC p0 p1 la lb lc n w hA.1 hB.1 hC.1 hA.2 hB.2 hC.2 hn.1 hn.2
end Go.Proofs.Ytdnndmpdlelliaa
