/-
  law03: BoxBisectionMatchesReference.
-/
import Derived.Test.YtpepgheocemjdaaBoxM
import Derived.Test.YtpepgheocemjdaaSan3
import Derived.Test.YtpepgheocemjdaaInputP
import Derived.Test.YtpepgheocemjdaaR3E
namespace Go.Proofs.Ytpepgheocemjdaa
open Go.ChangeShapes Go.WideShapes Go.ChangeAt Go.RowKit
set_option linter.unusedVariables false
set_option linter.unusedSimpArgs false
set_option maxRecDepth 100000

theorem Pt.shape {w : World} {v : Value} {l : List Int} {n : Nat} (h : Pt w v l) (hn : l.length = n) : ∃ p c, v = .slice p n c := by
  obtain ⟨_, p, c, e, _⟩ := h
  exact ⟨p, c, by rw [e, hn]⟩
attribute [local irreducible] Calls
def BisC (f : FuncId) (l : List (Int × Int)) (kk : Int) (L1 L2 : List (Int × Int)) (E : Int) : Prop := ∀ v w, Bx w v l → Calls Try.prog f #[v, .int .i64 kk] w fun e w' => ∃ u1 u2, e = .returned (.tuple #[u1, u2, .int .i64 E]) ∧ Bx w' u1 L1 ∧ Bx w' u2 L2 ∧ Below w.heap.size w w'
theorem bis_both (l : List (Int × Int)) (kk : Int) (hsm : l.length ≤ 1000) (hV : ∀ p ∈ l, VB p) : ∃ L1 L2 E, BisC 46 l kk L1 L2 E ∧ BisC 47 l kk L1 L2 E := by
  by_cases h0 : kk < 0
  · refine ⟨[], [], 1, fun v w hv => ?_, fun v w hv => ?_⟩
    · obtain ⟨p, c, rfl⟩ := hv.cut
      exact (bis_low p _ c kk w h0).mono fun e w' ⟨he, hw⟩ => ⟨_, _, he, Bx.nil, Bx.nil, by rw [← hw]; exact Below.refl _ _⟩
    · obtain ⟨p, c, rfl⟩ := hv.cut
      exact (r3bis_low p _ c kk w h0).mono fun e w' ⟨he, hw⟩ => ⟨_, _, he, Bx.nil, Bx.nil, by rw [← hw]; exact Below.refl _ _⟩
  · by_cases h1 : (l.length : Int) ≤ kk
    · refine ⟨[], [], 1, fun v w hv => ?_, fun v w hv => ?_⟩
      · obtain ⟨p, c, rfl⟩ := hv.cut
        exact (bis_high p _ c kk w (by omega) h1).mono fun e w' ⟨he, hw⟩ => ⟨_, _, he, Bx.nil, Bx.nil, by rw [← hw]; exact Below.refl _ _⟩
      · obtain ⟨p, c, rfl⟩ := hv.cut
        exact (r3bis_high p _ c kk w (by omega) h1).mono fun e w' ⟨he, hw⟩ => ⟨_, _, he, Bx.nil, Bx.nil, by rw [← hw]; exact Below.refl _ _⟩
    · obtain ⟨j, rfl⟩ : ∃ j : Nat, kk = j := ⟨kk.toNat, by omega⟩
      have hj : j < l.length := by omega
      obtain ⟨x, y, hx⟩ : ∃ x y, l[j]? = some (x, y) := ⟨l[j].1, l[j].2, List.getElem?_eq_getElem hj⟩
      by_cases he : Ent x y
      · obtain ⟨rfl, rfl⟩ := he
        refine ⟨[], [], 1, fun v w hv => ?_, fun v w hv => ?_⟩
        · exact (bis_ent v l j w hv hsm hj hx).mono fun e w' ⟨he, hB⟩ => ⟨_, _, he, Bx.nil, Bx.nil, hB⟩
        · exact (r3bis_ent v l j w hv hsm hj hx).mono fun e w' ⟨he, hB⟩ => ⟨_, _, he, Bx.nil, Bx.nil, hB⟩
      · exact ⟨_, _, 0, fun v w hv => bis_ok v l j x y w hv hsm hx (hV _ (at_mem hx)) he, fun v w hv => r3bis_ok v l j x y w hv hsm hx (hV _ (at_mem hx)) he⟩
set_option maxHeartbeats 32000000 in
theorem bism_walk (vA vB vC p0 p1 : Value) (la lb lc : List (Int × Int)) (f f' : List Int) (n : Int) (w : World) (hA : Bx w vA la) (hB : Bx w vB lb) (hC : Bx w vC lc) (ba : I64 la) (bb : I64 lb) (bc : I64 lc) (hn0 : 0 ≤ n) (hn1 : n < 256) (hF : Us w p0 f) (bf : U16 f) (hF' : Us w p1 f') (bf' : U16 f') (kk : Int) (hk0 : -128 ≤ kk) (hk1 : kk ≤ 127) :
    Calls Try.prog 5 #[.agg #[vA, vB, vC, .int .u8 n, p0, p1], .int .i8 kk] w fun e w' => e = .returned (.bool true) ∧ Below w.heap.size w w' := by
  have hm0 : 0 ≤ n % 6 := Int.emod_nonneg _ (by decide)
  have hm1 : n % 6 < 6 := Int.emod_lt_of_pos _ (by decide)
  obtain ⟨k, hk⟩ : ∃ k : Nat, 1 + n % 6 = (k : Int) := ⟨(1 + n % 6).toNat, by omega⟩
  have hk1 : 1 ≤ k := by omega
  have hk6 : k ≤ 6 := by omega
  have HF := Lib.hid hF
  have BF := Lib.hid bf
  have HG := Lib.hid hF'
  have BG := Lib.hid bf'
  have HA := Lib.hid hA
  have HB := Lib.hid hB
  have HC := Lib.hid hC
  have BA := Lib.hid ba
  have BB := Lib.hid bb
  have BC := Lib.hid bc
  clear hA hB hC ba bb bc hF bf hF' bf'
  go_enter Try.func5, Try.ntmps5
  go_wp2_with (fail)
  generalize hW0 : World.alloc w _ = W0
  have hT0 : Below w.heap.size w W0 := by subst hW0; exact ((Below.refl w.heap.size w).alloc (by go_size) _)
  have Y0 : w.heap.size < W0.heap.size := by subst hW0; simp <;> omega
  have F0_0 : ∀ g : Grown W0, g.w.cell? ⟨w.heap.size, 0, none⟩ = some (vA) := fun g => (g.cell Y0).trans (by subst hW0; simp [go_sem])
  have F0_1 : ∀ g : Grown W0, g.w.cell? ⟨w.heap.size, 1, none⟩ = some (vB) := fun g => (g.cell Y0).trans (by subst hW0; simp [go_sem])
  have F0_2 : ∀ g : Grown W0, g.w.cell? ⟨w.heap.size, 2, none⟩ = some (vC) := fun g => (g.cell Y0).trans (by subst hW0; simp [go_sem])
  have F0_3 : ∀ g : Grown W0, g.w.cell? ⟨w.heap.size, 3, none⟩ = some (.int .u8 n) := fun g => (g.cell Y0).trans (by subst hW0; simp [go_sem])
  have F0_4 : ∀ g : Grown W0, g.w.cell? ⟨w.heap.size, 4, none⟩ = some (p0) := fun g => (g.cell Y0).trans (by subst hW0; simp [go_sem])
  have F0_5 : ∀ g : Grown W0, g.w.cell? ⟨w.heap.size, 5, none⟩ = some (p1) := fun g => (g.cell Y0).trans (by subst hW0; simp [go_sem])
  clear Y0 hW0
  obtain ⟨g0, hg0⟩ : ∃ g : Grown W0, W0 = g.w := ⟨⟨W0, Below.refl _ _⟩, rfl⟩
  rw [hg0]
  refine (sanity3 _).mono ?_
  rintro e w' ⟨rfl, hB⟩
  obtain ⟨g1, rfl⟩ := grow g0 hB
  clear hB hg0
  go_wp2_with (fail)
  refine (law_boxes vA vB vC p0 p1 la lb n k _ ((HA.out.grow hT0).grow g1.h) ((HB.out.grow hT0).grow g1.h) BA.out BB.out hn0 hn1 hk hk6).mono ?_
  rintro e w' ⟨va, vb, a, b, rfl, a1, b1, a2, b2, ha, hb, hB⟩
  obtain ⟨g2, rfl⟩ := grow g1 hB
  have LA := Lib.hid a1
  have LB := Lib.hid b1
  have VBa := Lib.hid a2
  have VBb := Lib.hid b2
  clear hB a1 b1 a2 b2
  obtain ⟨L1, L2, E, hb1, hb2⟩ := bis_both a kk (by rw [LA.out]; omega) VBa.out
  have HB1 := Lib.hid hb1
  have HB2 := Lib.hid hb2
  clear hb1 hb2
  go_wp2_with (fail)
  refine (HB1.out _ _ ha).mono ?_
  rintro e w' ⟨vl, vh, rfl, hlo, hhi, hB⟩
  obtain ⟨g3, rfl⟩ := grow g2 hB
  replace ha := ha.grow hB
  replace hb := hb.grow hB
  clear hB
  go_wp2_with (fail)
  refine (HB2.out _ _ ha).mono ?_
  rintro e w' ⟨vs, vt, rfl, hs, ht, hB⟩
  obtain ⟨g4, rfl⟩ := grow g3 hB
  replace ha := ha.grow hB
  replace hb := hb.grow hB
  replace hlo := hlo.grow hB
  replace hhi := hhi.grow hB
  clear hB
  go_wp2_with (fail)
  refine (box_mid _ a _ ha (by rw [LA.out]; omega) VBa.out).mono ?_
  rintro e w' ⟨vp, rfl, hp, hB⟩
  obtain ⟨g5, rfl⟩ := grow g4 hB
  replace ha := ha.grow hB
  replace hb := hb.grow hB
  replace hlo := hlo.grow hB
  replace hhi := hhi.grow hB
  replace hs := hs.grow hB
  replace ht := ht.grow hB
  clear hB
  go_wp2_with (fail)
  refine (r3mid _ a _ ha (by rw [LA.out]; omega) VBa.out).mono ?_
  rintro e w' ⟨vq, rfl, hq, hB⟩
  obtain ⟨g6, rfl⟩ := grow g5 hB
  replace ha := ha.grow hB
  replace hb := hb.grow hB
  replace hlo := hlo.grow hB
  replace hhi := hhi.grow hB
  replace hs := hs.grow hB
  replace ht := ht.grow hB
  replace hp := hp.grow hB
  clear hB
  have LM : Hid ((a.map midI).length = k) := Lib.hid (by rw [List.length_map, LA.out])
  obtain ⟨m, hm⟩ : ∃ m, a.map midI = m := ⟨_, rfl⟩
  rw [hm] at hp hq LM
  clear hm
  obtain ⟨pm, cm, rfl⟩ := hp.shape LM.out
  obtain ⟨pq, cq, rfl⟩ := hq.shape LM.out
  obtain ⟨W8, hW8⟩ : ∃ W, g6.w = W := ⟨_, rfl⟩
  have hT8 : Below w.heap.size w W8 := hW8 ▸ below_then hT0 g6.h
  rw [hW8] at ha hlo hhi hs ht hp hq
  rw [hW8]
  clear hW8 F0_0 F0_1 F0_2 F0_3 F0_4 F0_5
  obtain ⟨G0, hG0⟩ : ∃ g : Grown W8, W8 = g.w := ⟨⟨W8, Below.refl _ _⟩, rfl⟩
  rw [hG0]
  clear hG0
  go_wp2_with (fail)
  go_loopw [16] (fun i wr => ∃ n : Nat, i = .int .i64 n ∧ n ≤ k ∧ ∃ g : Grown W8, wr = g.w) (fun i _ => k - (intOf i).toNat)
  case atStart => exact ⟨0, rfl, Nat.zero_le _, G0, rfl⟩
  case round =>
    obtain ⟨n', rfl, hn, g, rfl⟩ := hrel
    by_cases hlt : n' < k
    · have lm' : n' < m.length := by rw [LM.out]; exact hlt
      obtain ⟨x, hx⟩ : ∃ x, m[n']? = some x := ⟨m[n'], List.getElem?_eq_getElem lm'⟩
      obtain ⟨ba, oa, hpa, hba, rdA⟩ := hp.rd2 hx
      obtain ⟨bb, ob, hpb, hbb, rdB⟩ := hq.rd2 hx
      subst hpa hpb
      clear hx lm'
      have sA := fun g => (rdA g).1
      have fA := fun g => (rdA g).2
      have sB := fun g => (rdB g).1
      have fB := fun g => (rdB g).2
      clear rdA rdB
      have i1 : (n' : Int) < k := by omega
      go_wp2_with (fail)
      refine region_quiet' g (by kernel_rfl) (by kernel_rfl) ?_
      repeat (go_big_quiet_step (fail))
      refine wpQuiet_nil ?_
      rintro _ ⟨g', rfl⟩
      go_wp2_with (fail)
      go_roundw
      case rel => exact ⟨n' + 1, by go_num, by omega, g', rfl⟩
      case measure => simp [intOf]; omega
    · obtain rfl : n' = k := by omega
      replace ha := ha.grow g.h
      replace hlo := hlo.grow g.h
      replace hhi := hhi.grow g.h
      replace hs := hs.grow g.h
      replace ht := ht.grow g.h
      clear hp hq
  
      obtain ⟨g6, hg⟩ : ∃ g' : Grown W8, g.w = g'.w := ⟨g, rfl⟩
      rw [hg] at ha hlo hhi hs ht
      rw [hg]
      clear hg
      go_wp2_with (fail)
      refine (r3same _ _ L1 L1 _ hlo hs).mono ?_
      rintro e w' ⟨he, hB⟩
      obtain rfl : e = .returned (.bool true) := by rw [he, show decide (L1 = L1) = true from decide_eq_true rfl]
      clear he
      obtain ⟨g7, rfl⟩ := grow g6 hB
      replace ha := ha.grow hB
      replace hlo := hlo.grow hB
      replace hhi := hhi.grow hB
      replace hs := hs.grow hB
      replace ht := ht.grow hB
      clear hB
      go_wp2_with (fail)
      refine (r3same _ _ L2 L2 _ hhi ht).mono ?_
      rintro e w' ⟨he, hB⟩
      obtain rfl : e = .returned (.bool true) := by rw [he, show decide (L2 = L2) = true from decide_eq_true rfl]
      clear he
      obtain ⟨g8, rfl⟩ := grow g7 hB
      replace ha := ha.grow hB
      replace hlo := hlo.grow hB
      replace hhi := hhi.grow hB
      replace hs := hs.grow hB
      replace ht := ht.grow hB
      clear hB
      go_wp2_with (fail)
      refine (box_width _ a _ ha VBa.out).mono ?_
      rintro e w' ⟨he, hB⟩
      obtain rfl : e = .returned (.int .i64 (wmax a)) := by rw [he]
      clear he
      obtain ⟨g9, rfl⟩ := grow g8 hB
      replace ha := ha.grow hB
      replace hlo := hlo.grow hB
      replace hhi := hhi.grow hB
      replace hs := hs.grow hB
      replace ht := ht.grow hB
      clear hB
      go_wp2_with (fail)
      refine (r3width _ a _ ha VBa.out).mono ?_
      rintro e w' ⟨he, hB⟩
      obtain rfl : e = .returned (.int .i64 (wmax a)) := by rw [he]
      clear he
      obtain ⟨g10, rfl⟩ := grow g9 hB
      replace ha := ha.grow hB
      replace hlo := hlo.grow hB
      replace hhi := hhi.grow hB
      replace hs := hs.grow hB
      replace ht := ht.grow hB
      clear hB
      go_wp2_with (fail)
      refine (box_axis _ a _ ha VBa.out).mono ?_
      rintro e w' ⟨he, hB⟩
      obtain rfl : e = .returned (.int .i64 (axn a a.length)) := by rw [he]
      clear he
      obtain ⟨g11, rfl⟩ := grow g10 hB
      replace ha := ha.grow hB
      replace hlo := hlo.grow hB
      replace hhi := hhi.grow hB
      replace hs := hs.grow hB
      replace ht := ht.grow hB
      clear hB
      go_wp2_with (fail)
      refine (r3axis _ a _ ha VBa.out (by rw [LA.out]; omega)).mono ?_
      rintro e w' ⟨he, hB⟩
      obtain rfl : e = .returned (.int .i64 (axn a a.length)) := by rw [he]
      clear he
      obtain ⟨g12, rfl⟩ := grow g11 hB
      replace ha := ha.grow hB
      replace hlo := hlo.grow hB
      replace hhi := hhi.grow hB
      replace hs := hs.grow hB
      replace ht := ht.grow hB
      clear hB
      go_wp2_with (fail)
      go_ret
      exact ⟨rfl, below_then hT8 g12.h⟩
theorem bounds_i8 {n : Int} (h : (Lit.int .i8 n).wf = true) : -128 ≤ n ∧ n ≤ 127 := by
  simpa [Lit.wf, IntKind.has, IntKind.min, IntKind.max, IntKind.signed, IntKind.bits] using h
theorem bism (w : World) (vA vB vC p0 p1 : Value) (n : Int) (la lb lc : List (Int × Int)) (f0 f1 : List Int) (hA : Bx w vA la ∧ I64 la) (hB : Bx w vB lb ∧ I64 lb) (hC : Bx w vC lc ∧ I64 lc) (hn : 0 ≤ n ∧ n < 256) (h0 : Us w p0 f0 ∧ U16 f0) (h1 : Us w p1 f1 ∧ U16 f1) (a1 : Int) (w1 : (Lit.int .i8 a1).wf = true) :
    Calls Try.prog 5 #[.agg #[vA, vB, vC, .int .u8 n, p0, p1], .int .i8 a1] w fun e w' => e = .returned (.bool true) ∧ Below w.heap.size w w' :=
  bism_walk vA vB vC p0 p1 la lb lc f0 f1 n w hA.1 hB.1 hC.1 hA.2 hB.2 hC.2 hn.1 hn.2 h0.1 h0.2 h1.1 h1.2 a1 (bounds_i8 w1).1 (bounds_i8 w1).2
end Go.Proofs.Ytpepgheocemjdaa
