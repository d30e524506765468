/-
  law03: BoxBisectionCovers.
-/
import Derived.Test.YtpepgheocemjdaaBoxN
import Derived.Test.YtpepgheocemjdaaSan3
import Derived.Test.YtpepgheocemjdaaInputP
namespace Go.Proofs.Ytpepgheocemjdaa
open Go.ChangeShapes Go.WideShapes Go.ChangeAt Go.RowKit
set_option linter.unusedVariables false
set_option linter.unusedSimpArgs false
set_option maxRecDepth 100000

theorem Bx.shape {w : World} {v : Value} {l : List (Int × Int)} {n : Nat} (h : Bx w v l) (hn : l.length = n) : ∃ p c, v = .slice p n c := by
  obtain ⟨_, p, c, e, _⟩ := h
  exact ⟨p, c, by rw [e, hn]⟩
theorem Bx.rd {w : World} {p : Option Addr} {n c j : Nat} {l : List (Int × Int)} {x y : Int} (h : Bx w (.slice p n c) l) (hx : l[j]? = some (x, y)) : ∃ b o, p = some ⟨b, o, none⟩ ∧ ∀ g : Grown w, b < g.w.heap.size ∧ g.w.cell? ⟨b, o + j * 2, none⟩ = some (.int .i64 x) ∧ g.w.cell? ⟨b, o + j * 2 + 1, none⟩ = some (.int .i64 y) := by
  obtain ⟨_, q, c', e, h⟩ := h
  obtain ⟨b, o, hq, h1, h2, h3⟩ := h j (x, y) hx
  simp only [Value.slice.injEq] at e
  refine ⟨b, o, e.1.trans hq, fun g => ⟨Nat.lt_of_lt_of_le h1 g.h.size, ?_, ?_⟩⟩
  · exact (g.cell (b := b) h1).trans h2
  · exact (g.cell (b := b) h1).trans h3
attribute [local irreducible] Calls
set_option maxHeartbeats 32000000 in
theorem bisc_walk (vA vB vC p0 p1 : Value) (la lb lc : List (Int × Int)) (f f' : List Int) (n : Int) (w : World) (hA : Bx w vA la) (hB : Bx w vB lb) (hC : Bx w vC lc) (ba : I64 la) (bb : I64 lb) (bc : I64 lc) (hn0 : 0 ≤ n) (hn1 : n < 256) (hF : Us w p0 f) (bf : U16 f) (hF' : Us w p1 f') (bf' : U16 f') :
    Calls Try.prog 8 #[.agg #[vA, vB, vC, .int .u8 n, p0, p1]] w fun e w' => e = .returned (.bool true) ∧ Below w.heap.size w w' := by
  have hm0 : 0 ≤ n % 6 := Int.emod_nonneg _ (by decide)
  have hm1 : n % 6 < 6 := Int.emod_lt_of_pos _ (by decide)
  obtain ⟨k, hk⟩ : ∃ k : Nat, 1 + n % 6 = (k : Int) := ⟨(1 + n % 6).toNat, by omega⟩
  have hk1 : 1 ≤ k := by omega
  have hk6 : k ≤ 6 := by omega
  have HF := Lib.hid hF
  have BF := Lib.hid bf
  have HG := Lib.hid hF'
  have BG := Lib.hid bf'
  have HA := Lib.hid hA
  have HB := Lib.hid hB
  have HC := Lib.hid hC
  have BA := Lib.hid ba
  have BB := Lib.hid bb
  have BC := Lib.hid bc
  clear hA hB hC ba bb bc hF bf hF' bf'
  go_enter Try.func8, Try.ntmps8
  go_wp2_with (fail)
  generalize hW0 : World.alloc w _ = W0
  have hT0 : Below w.heap.size w W0 := by subst hW0; exact ((Below.refl w.heap.size w).alloc (by go_size) _)
  have Y0 : w.heap.size < W0.heap.size := by subst hW0; simp <;> omega
  have F0_0 : ∀ g : Grown W0, g.w.cell? ⟨w.heap.size, 0, none⟩ = some (vA) := fun g => (g.cell Y0).trans (by subst hW0; simp [go_sem])
  have F0_1 : ∀ g : Grown W0, g.w.cell? ⟨w.heap.size, 1, none⟩ = some (vB) := fun g => (g.cell Y0).trans (by subst hW0; simp [go_sem])
  have F0_2 : ∀ g : Grown W0, g.w.cell? ⟨w.heap.size, 2, none⟩ = some (vC) := fun g => (g.cell Y0).trans (by subst hW0; simp [go_sem])
  have F0_3 : ∀ g : Grown W0, g.w.cell? ⟨w.heap.size, 3, none⟩ = some (.int .u8 n) := fun g => (g.cell Y0).trans (by subst hW0; simp [go_sem])
  have F0_4 : ∀ g : Grown W0, g.w.cell? ⟨w.heap.size, 4, none⟩ = some (p0) := fun g => (g.cell Y0).trans (by subst hW0; simp [go_sem])
  have F0_5 : ∀ g : Grown W0, g.w.cell? ⟨w.heap.size, 5, none⟩ = some (p1) := fun g => (g.cell Y0).trans (by subst hW0; simp [go_sem])
  clear Y0 hW0
  obtain ⟨g0, hg0⟩ : ∃ g : Grown W0, W0 = g.w := ⟨⟨W0, Below.refl _ _⟩, rfl⟩
  rw [hg0]
  refine (sanity3 _).mono ?_
  rintro e w' ⟨rfl, hB⟩
  obtain ⟨g1, rfl⟩ := grow g0 hB
  clear hB hg0
  go_wp2_with (fail)
  refine (law_boxes vA vB vC p0 p1 la lb n k _ ((HA.out.grow hT0).grow g1.h) ((HB.out.grow hT0).grow g1.h) BA.out BB.out hn0 hn1 hk hk6).mono ?_
  rintro e w' ⟨va, vb, a, b, rfl, a1, b1, a2, b2, ha, hb, hB⟩
  obtain ⟨g2, rfl⟩ := grow g1 hB
  have LA := Lib.hid a1
  have LB := Lib.hid b1
  have VBa := Lib.hid a2
  have VBb := Lib.hid b2
  clear hB a1 b1 a2 b2
  go_wp2_with (fail)
  refine (r3point _ _ a f _ ha ((HF.out.grow hT0).grow g2.h) (by rw [LA.out]; omega) VBa.out BF.out).mono ?_
  rintro e w' ⟨vhp, m, rfl, m1, m2, m3, hp, hB⟩
  obtain ⟨g3, rfl⟩ := grow g2 hB
  replace ha := ha.grow hB
  replace hb := hb.grow hB
  clear hB
  have LM : Hid (m.length = k) := Lib.hid (by rw [m1, LA.out])
  have CM := Lib.hid m2
  have NM := Lib.hid m3
  clear m1 m2 m3
  have hka : 0 < a.length := by rw [LA.out]; omega
  have hkl := axn_lt' a hka
  go_wp2_with (fail)
  refine (box_axis _ a _ ha VBa.out).mono ?_
  rintro e w' ⟨he, hB⟩
  obtain rfl : e = .returned (.int .i64 (axn a a.length)) := by rw [he]
  clear he
  obtain ⟨g4, rfl⟩ := grow g3 hB
  replace ha := ha.grow hB
  replace hb := hb.grow hB
  replace hp := hp.grow hB
  clear hB
  obtain ⟨j, hj⟩ : ∃ j, axn a a.length = j := ⟨_, rfl⟩
  rw [hj] at hkl ⊢
  clear hj
  obtain ⟨x, y, hxy⟩ : ∃ x y, a[j]? = some (x, y) := ⟨a[j].1, a[j].2, List.getElem?_eq_getElem hkl⟩
  have HXY := Lib.hid hxy
  have HV : Hid (VI x y) := Lib.hid (VBa.out (x, y) (at_mem hxy))
  clear hxy
  obtain ⟨pA, cA, rfl⟩ := ha.shape LA.out
  have hj0 : (0 : Int) ≤ j := by omega
  have hj1 : (j : Int) < k := by have := LA.out; omega
  have hj2 : j < k := by omega
  have hj3 : decide ((j : Int) < 0) = false := decide_eq_false (by omega)
  have hj4 : decide ((k : Int) ≤ (j : Int)) = false := decide_eq_false (by omega)
  clear hka hkl
  by_cases he : Ent x y
  · obtain ⟨rfl, rfl⟩ := he
    go_wp2_with (fail)
    refine (bis_ent _ a j _ ha (by rw [LA.out]; omega) (by rw [LA.out]; exact hj2) HXY.out).mono ?_
    rintro e w' ⟨he, hB⟩
    obtain rfl : e = .returned (.tuple #[.slice none 0 0, .slice none 0 0, .int .i64 1]) := by rw [he]
    clear he
    obtain ⟨g5, rfl⟩ := grow g4 hB
    replace ha := ha.grow hB
    replace hb := hb.grow hB
    replace hp := hp.grow hB
    clear hB
    obtain ⟨b1, o1, hp1, rd⟩ := ha.rd HXY.out
    subst hp1
    have hs1 := (rd ⟨_, Below.refl _ _⟩).1
    have c1 := (rd ⟨_, Below.refl _ _⟩).2.1
    have c2 := (rd ⟨_, Below.refl _ _⟩).2.2
    dsimp only at hs1 c1 c2
    clear rd
    go_wp2_with (fail)
    refine (r2ent_yes _).mono ?_
    rintro e w' ⟨he, hB⟩
    obtain rfl : e = .returned (.bool true) := by rw [he]
    clear he
    obtain ⟨g6, rfl⟩ := grow g5 hB
    replace ha := ha.grow hB
    replace hb := hb.grow hB
    replace hp := hp.grow hB
    clear hB
    go_wp2_with (fail)
    go_ret
    exact ⟨rfl, below_then hT0 g6.h⟩
  · have HE := Lib.hid he
    clear he
    have U1 := Lib.hid (bis_hull HXY.out HV.out)
    have U2 := Lib.hid (bis_vb HXY.out HV.out HE.out VBa.out)
    have U3 := Lib.hid (bis_con HXY.out HV.out m (by rw [LM.out, LA.out]) NM.out CM.out)
    have U4 := Lib.hid (bis_meet HXY.out HV.out VBa.out)
    have U5 := Lib.hid (bis_mid HXY.out HV.out)
    have U6 := Lib.hid (at_set (u := (x, (x + y) / 2)) HXY.out)
    have U7 := Lib.hid (at_set (u := ((x + y) / 2, y)) HXY.out)
    have U8 := Lib.hid (mid_in HXY.out HV.out)
    have hbd := HV.out.bd
    have UB := Lib.hid hbd
    clear hbd
    go_wp2_with (fail)
    refine (bis_ok _ a j x y _ ha (by rw [LA.out]; omega) HXY.out HV.out HE.out).mono ?_
    rintro e w' ⟨vl, vh, rfl, hlo, hhi, hB⟩
    obtain ⟨g5, rfl⟩ := grow g4 hB
    replace ha := ha.grow hB
    replace hb := hb.grow hB
    replace hp := hp.grow hB
    clear hB
    obtain ⟨M, hM⟩ : ∃ M, (x + y) / 2 = M := ⟨_, rfl⟩
    rw [hM] at hlo hhi U1 U2 U3 U4 U5 U6 U7 U8
    have EM := Lib.hid hM
    clear hM
    have LL : Hid ((a.set j (x, M)).length = k) := Lib.hid (by rw [List.length_set, LA.out])
    have LH : Hid ((a.set j (M, y)).length = k) := Lib.hid (by rw [List.length_set, LA.out])
    obtain ⟨lo, hlo'⟩ : ∃ l, a.set j (x, M) = l := ⟨_, rfl⟩
    obtain ⟨hi, hhi'⟩ : ∃ l, a.set j (M, y) = l := ⟨_, rfl⟩
    rw [hlo'] at hlo U1 U2 U3 U4 U5 U6 LL
    rw [hhi'] at hhi U1 U2 U3 U4 U5 U7 LH
    clear hlo' hhi'
    obtain ⟨pL, cL, rfl⟩ := hlo.shape LL.out
    obtain ⟨pH, cH, rfl⟩ := hhi.shape LH.out
    have Z1 := Lib.hid (vb_zip lo hi U2.out.1 U2.out.2)
    obtain ⟨β, hβ⟩ : ∃ x, (lo.zip m).all con1 = x := ⟨_, rfl⟩
    have Hβ := Lib.hid hβ
    have W1 := Lib.hid (show β = false → (hi.zip m).all con1 = true from fun x => U3.out.resolve_left fun y => by
      rw [hβ.symm.trans y] at x
      cases x)
    clear hβ
    obtain ⟨b1, o1, hp1, rd⟩ := ha.rd HXY.out
    subst hp1
    have hs1 := (rd ⟨_, Below.refl _ _⟩).1
    have c1 := (rd ⟨_, Below.refl _ _⟩).2.1
    have c2 := (rd ⟨_, Below.refl _ _⟩).2.2
    dsimp only at hs1 c1 c2
    clear rd
    go_wp2_with (fail)
    refine (r2ent_no x y _ HE.out).mono ?_
    rintro e w' ⟨he, hB⟩
    obtain rfl : e = .returned (.bool false) := by rw [he]
    clear he
    obtain ⟨g6, rfl⟩ := grow g5 hB
    replace ha := ha.grow hB
    replace hb := hb.grow hB
    replace hp := hp.grow hB
    replace hlo := hlo.grow hB
    replace hhi := hhi.grow hB
    clear hB
    clear c1 c2 hs1
    go_wp2_with (fail)
    refine (box_hull _ _ lo hi _ hlo hhi (by rw [LL.out, LH.out]) Z1.out (by rw [LL.out]; omega)).mono ?_
    rintro e w' ⟨v1, rfl, hx, hB⟩
    obtain ⟨g7, rfl⟩ := grow g6 hB
    replace ha := ha.grow hB
    replace hb := hb.grow hB
    replace hp := hp.grow hB
    replace hlo := hlo.grow hB
    replace hhi := hhi.grow hB
    clear hB
    go_wp2_with (fail)
    refine (r3same _ _ _ a _ hx ha).mono ?_
    rintro e w' ⟨he, hB⟩
    obtain rfl : e = .returned (.bool true) := by rw [he, show decide ((lo.zip hi).map hullI = a) = true from decide_eq_true U1.out]
    clear he
    obtain ⟨g8, rfl⟩ := grow g7 hB
    replace ha := ha.grow hB
    replace hb := hb.grow hB
    replace hp := hp.grow hB
    replace hlo := hlo.grow hB
    replace hhi := hhi.grow hB
    replace hx := hx.grow hB
    clear hB
    clear hx
    cases β
    · skip
      go_wp2_with (fail)
      refine (box_contains _ _ lo m _ hlo hp (by rw [LM.out, LL.out])).mono ?_
      rintro e w' ⟨he, hB⟩
      obtain rfl : e = .returned (.bool false) := by rw [he, Hβ.out]
      clear he
      obtain ⟨g9, rfl⟩ := grow g8 hB
      replace ha := ha.grow hB
      replace hb := hb.grow hB
      replace hp := hp.grow hB
      replace hlo := hlo.grow hB
      replace hhi := hhi.grow hB
      clear hB
      go_wp2_with (fail)
      refine (box_contains _ _ hi m _ hhi hp (by rw [LM.out, LH.out])).mono ?_
      rintro e w' ⟨he, hB⟩
      obtain rfl : e = .returned (.bool true) := by rw [he, W1.out (by trivial)]
      clear he
      obtain ⟨g10, rfl⟩ := grow g9 hB
      replace ha := ha.grow hB
      replace hb := hb.grow hB
      replace hp := hp.grow hB
      replace hlo := hlo.grow hB
      replace hhi := hhi.grow hB
      clear hB
      go_wp2_with (fail)
      refine (meet_t _ _ lo hi _ _ hlo hhi (by rw [LL.out, LH.out]) Z1.out (by rw [LL.out]; omega) U4.out rfl).mono ?_
      rintro e w' ⟨vm, rfl, hm, hB⟩
      obtain ⟨g11, rfl⟩ := grow g10 hB
      replace ha := ha.grow hB
      replace hb := hb.grow hB
      replace hp := hp.grow hB
      replace hlo := hlo.grow hB
      replace hhi := hhi.grow hB
      clear hB
      have LX : ((lo.zip hi).map meetI).length = k := by rw [meet_len lo hi (by rw [LL.out, LH.out]), LL.out]
      obtain ⟨pM, cM, rfl⟩ := hm.shape LX
      clear LX
      obtain ⟨W9, hW9⟩ : ∃ W9, g11.w = W9 := ⟨_, rfl⟩
      have hT9 : Below w.heap.size w W9 := hW9 ▸ below_then hT0 g11.h
      rw [hW9] at ha hlo hhi hm
      rw [hW9]
      clear hW9
      obtain ⟨bA, oA, hpA, rdA⟩ := ha.rd HXY.out
      obtain ⟨bL, oL, hpL, rdL⟩ := hlo.rd U6.out
      obtain ⟨bH, oH, hpH, rdH⟩ := hhi.rd U7.out
      obtain ⟨bM, oM, hpM, rdM⟩ := hm.rd U5.out
      cases hpA
      subst hpL hpH hpM
      clear ha hlo hhi hm hp
      have sA := fun g => (rdA g).1
      have fA := fun g => (rdA g).2.1
      have gA := fun g => (rdA g).2.2
      have sL := fun g => (rdL g).1
      have fL := fun g => (rdL g).2.1
      have gL := fun g => (rdL g).2.2
      have sH := fun g => (rdH g).1
      have fH := fun g => (rdH g).2.1
      have gH := fun g => (rdH g).2.2
      have sM := fun g => (rdM g).1
      have fM := fun g => (rdM g).2.1
      have gM := fun g => (rdM g).2.2
      
      clear rdA rdL rdH rdM
      obtain ⟨u1, hu1⟩ : ∃ u, M - x = u := ⟨_, rfl⟩
      obtain ⟨u2, hu2⟩ : ∃ u, y - M = u := ⟨_, rfl⟩
      obtain ⟨u3, hu3⟩ : ∃ u, y - x = u := ⟨_, rfl⟩
      have q1 : 0 ≤ u1 := by have := U8.out; omega
      have q2 : u1 ≤ 8589934592 := by have := U8.out; have := UB.out; omega
      have q3 : 0 ≤ u2 := by have := U8.out; omega
      have q4 : u2 ≤ 8589934592 := by have := U8.out; have := UB.out; omega
      have q5 : (u1 + u2 == u3) = true := by simp; omega
      have q6 : decide (u2 - u1 ≤ 1) = true := decide_eq_true (by have := EM.out; omega)
      have q7 : decide (u1 ≤ u2) = true := decide_eq_true (by have := EM.out; omega)
      have CM' : Hid (∀ w, Calls Try.prog 55 #[.agg #[.int .i64 M, .int .i64 M]] w fun e w' => e = .returned (.int .i64 0) ∧ Below w.heap.size w w') := Lib.hid (fun w => (iv_width M M w (by have := U8.out; have := UB.out; omega)).mono fun e w' ⟨h, hB⟩ => ⟨by rw [h, Int.sub_self], hB⟩)
      have CL' : Hid (∀ w, Calls Try.prog 55 #[.agg #[.int .i64 x, .int .i64 M]] w fun e w' => e = .returned (.int .i64 u1) ∧ Below w.heap.size w w') := Lib.hid (fun w => (iv_width x M w (by have := U8.out; have := UB.out; omega)).mono fun e w' ⟨h, hB⟩ => ⟨by rw [h, hu1], hB⟩)
      have CH' : Hid (∀ w, Calls Try.prog 55 #[.agg #[.int .i64 M, .int .i64 y]] w fun e w' => e = .returned (.int .i64 u2) ∧ Below w.heap.size w w') := Lib.hid (fun w => (iv_width M y w (by have := U8.out; have := UB.out; omega)).mono fun e w' ⟨h, hB⟩ => ⟨by rw [h, hu2], hB⟩)
      have CA' : Hid (∀ w, Calls Try.prog 55 #[.agg #[.int .i64 x, .int .i64 y]] w fun e w' => e = .returned (.int .i64 u3) ∧ Below w.heap.size w w') := Lib.hid (fun w => (iv_width x y w (by have := U8.out; have := UB.out; omega)).mono fun e w' ⟨h, hB⟩ => ⟨by rw [h, hu3], hB⟩)
      clear hu1 hu2 hu3 F0_0 F0_1 F0_2 F0_3 F0_4 F0_5
      obtain ⟨G0, hG0⟩ : ∃ g : Grown W9, W9 = g.w := ⟨⟨W9, Below.refl _ _⟩, rfl⟩
      rw [hG0]
      clear hG0
      go_wp2_with (fail)
      refine region_quiet' G0 (by kernel_rfl) (by kernel_rfl) ?_
      repeat (go_big_quiet_step (first | (go_at_call_of 55 (Value.agg #[.int .i64 M, .int .i64 M]); exact qc (CM'.out _)) | (go_at_call_of 55 (Value.agg #[.int .i64 x, .int .i64 M]); exact qc (CL'.out _)) | (go_at_call_of 55 (Value.agg #[.int .i64 M, .int .i64 y]); exact qc (CH'.out _)) | (go_at_call_of 55 (Value.agg #[.int .i64 x, .int .i64 y]); exact qc (CA'.out _))))
      refine wpQuiet_nil ?_
      rintro _ ⟨G1, rfl⟩
      go_wp2_with (fail)
      go_ret
      exact ⟨rfl, below_then hT9 G1.h⟩
    · skip
      go_wp2_with (fail)
      refine (box_contains _ _ lo m _ hlo hp (by rw [LM.out, LL.out])).mono ?_
      rintro e w' ⟨he, hB⟩
      obtain rfl : e = .returned (.bool true) := by rw [he, Hβ.out]
      clear he
      obtain ⟨g9, rfl⟩ := grow g8 hB
      replace ha := ha.grow hB
      replace hb := hb.grow hB
      replace hp := hp.grow hB
      replace hlo := hlo.grow hB
      replace hhi := hhi.grow hB
      clear hB
      go_wp2_with (fail)
      refine (meet_t _ _ lo hi _ _ hlo hhi (by rw [LL.out, LH.out]) Z1.out (by rw [LL.out]; omega) U4.out rfl).mono ?_
      rintro e w' ⟨vm, rfl, hm, hB⟩
      obtain ⟨g10, rfl⟩ := grow g9 hB
      replace ha := ha.grow hB
      replace hb := hb.grow hB
      replace hp := hp.grow hB
      replace hlo := hlo.grow hB
      replace hhi := hhi.grow hB
      clear hB
      have LX : ((lo.zip hi).map meetI).length = k := by rw [meet_len lo hi (by rw [LL.out, LH.out]), LL.out]
      obtain ⟨pM, cM, rfl⟩ := hm.shape LX
      clear LX
      obtain ⟨W9, hW9⟩ : ∃ W9, g10.w = W9 := ⟨_, rfl⟩
      have hT9 : Below w.heap.size w W9 := hW9 ▸ below_then hT0 g10.h
      rw [hW9] at ha hlo hhi hm
      rw [hW9]
      clear hW9
      obtain ⟨bA, oA, hpA, rdA⟩ := ha.rd HXY.out
      obtain ⟨bL, oL, hpL, rdL⟩ := hlo.rd U6.out
      obtain ⟨bH, oH, hpH, rdH⟩ := hhi.rd U7.out
      obtain ⟨bM, oM, hpM, rdM⟩ := hm.rd U5.out
      cases hpA
      subst hpL hpH hpM
      clear ha hlo hhi hm hp
      have sA := fun g => (rdA g).1
      have fA := fun g => (rdA g).2.1
      have gA := fun g => (rdA g).2.2
      have sL := fun g => (rdL g).1
      have fL := fun g => (rdL g).2.1
      have gL := fun g => (rdL g).2.2
      have sH := fun g => (rdH g).1
      have fH := fun g => (rdH g).2.1
      have gH := fun g => (rdH g).2.2
      have sM := fun g => (rdM g).1
      have fM := fun g => (rdM g).2.1
      have gM := fun g => (rdM g).2.2
      
      clear rdA rdL rdH rdM
      obtain ⟨u1, hu1⟩ : ∃ u, M - x = u := ⟨_, rfl⟩
      obtain ⟨u2, hu2⟩ : ∃ u, y - M = u := ⟨_, rfl⟩
      obtain ⟨u3, hu3⟩ : ∃ u, y - x = u := ⟨_, rfl⟩
      have q1 : 0 ≤ u1 := by have := U8.out; omega
      have q2 : u1 ≤ 8589934592 := by have := U8.out; have := UB.out; omega
      have q3 : 0 ≤ u2 := by have := U8.out; omega
      have q4 : u2 ≤ 8589934592 := by have := U8.out; have := UB.out; omega
      have q5 : (u1 + u2 == u3) = true := by simp; omega
      have q6 : decide (u2 - u1 ≤ 1) = true := decide_eq_true (by have := EM.out; omega)
      have q7 : decide (u1 ≤ u2) = true := decide_eq_true (by have := EM.out; omega)
      have CM' : Hid (∀ w, Calls Try.prog 55 #[.agg #[.int .i64 M, .int .i64 M]] w fun e w' => e = .returned (.int .i64 0) ∧ Below w.heap.size w w') := Lib.hid (fun w => (iv_width M M w (by have := U8.out; have := UB.out; omega)).mono fun e w' ⟨h, hB⟩ => ⟨by rw [h, Int.sub_self], hB⟩)
      have CL' : Hid (∀ w, Calls Try.prog 55 #[.agg #[.int .i64 x, .int .i64 M]] w fun e w' => e = .returned (.int .i64 u1) ∧ Below w.heap.size w w') := Lib.hid (fun w => (iv_width x M w (by have := U8.out; have := UB.out; omega)).mono fun e w' ⟨h, hB⟩ => ⟨by rw [h, hu1], hB⟩)
      have CH' : Hid (∀ w, Calls Try.prog 55 #[.agg #[.int .i64 M, .int .i64 y]] w fun e w' => e = .returned (.int .i64 u2) ∧ Below w.heap.size w w') := Lib.hid (fun w => (iv_width M y w (by have := U8.out; have := UB.out; omega)).mono fun e w' ⟨h, hB⟩ => ⟨by rw [h, hu2], hB⟩)
      have CA' : Hid (∀ w, Calls Try.prog 55 #[.agg #[.int .i64 x, .int .i64 y]] w fun e w' => e = .returned (.int .i64 u3) ∧ Below w.heap.size w w') := Lib.hid (fun w => (iv_width x y w (by have := U8.out; have := UB.out; omega)).mono fun e w' ⟨h, hB⟩ => ⟨by rw [h, hu3], hB⟩)
      clear hu1 hu2 hu3 F0_0 F0_1 F0_2 F0_3 F0_4 F0_5
      obtain ⟨G0, hG0⟩ : ∃ g : Grown W9, W9 = g.w := ⟨⟨W9, Below.refl _ _⟩, rfl⟩
      rw [hG0]
      clear hG0
      go_wp2_with (fail)
      refine region_quiet' G0 (by kernel_rfl) (by kernel_rfl) ?_
      repeat (go_big_quiet_step (first | (go_at_call_of 55 (Value.agg #[.int .i64 M, .int .i64 M]); exact qc (CM'.out _)) | (go_at_call_of 55 (Value.agg #[.int .i64 x, .int .i64 M]); exact qc (CL'.out _)) | (go_at_call_of 55 (Value.agg #[.int .i64 M, .int .i64 y]); exact qc (CH'.out _)) | (go_at_call_of 55 (Value.agg #[.int .i64 x, .int .i64 y]); exact qc (CA'.out _))))
      refine wpQuiet_nil ?_
      rintro _ ⟨G1, rfl⟩
      go_wp2_with (fail)
      go_ret
      exact ⟨rfl, below_then hT9 G1.h⟩
theorem bisc (w : World) (vA vB vC p0 p1 : Value) (n : Int) (la lb lc : List (Int × Int)) (f0 f1 : List Int) (hA : Bx w vA la ∧ I64 la) (hB : Bx w vB lb ∧ I64 lb) (hC : Bx w vC lc ∧ I64 lc) (hn : 0 ≤ n ∧ n < 256) (h0 : Us w p0 f0 ∧ U16 f0) (h1 : Us w p1 f1 ∧ U16 f1) :
    Calls Try.prog 8 #[.agg #[vA, vB, vC, .int .u8 n, p0, p1]] w fun e w' => e = .returned (.bool true) ∧ Below w.heap.size w w' :=
  bisc_walk vA vB vC p0 p1 la lb lc f0 f1 n w hA.1 hB.1 hC.1 hA.2 hB.2 hC.2 hn.1 hn.2 h0.1 h0.2 h1.1 h1.2
end Go.Proofs.Ytpepgheocemjdaa
