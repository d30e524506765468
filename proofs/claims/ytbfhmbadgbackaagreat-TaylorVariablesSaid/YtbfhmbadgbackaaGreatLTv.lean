/-
  The law TaylorVariables.
-/
import Derived.Test.YtbfhmbadgbackaaGreatSan6
import Derived.Test.YtbfhmbadgbackaaGreatYk
namespace Go.Proofs.YtbfhmbadgbackaaGreat
open Go.ChangeShapes Go.WideShapes Go.ChangeAt Go.RowKit
set_option linter.unusedVariables false
set_option linter.unusedSimpArgs false
set_option maxRecDepth 100000

attribute [local irreducible] Calls

set_option maxHeartbeats 64000000 in
theorem tvars (a0_0 a0_1 : Int) (w0 : ∀ x ∈ [a0_0, a0_1], IntKind.has .i64 x) (a1 : Int) (w1 : (Lit.int .u8 a1).wf = true) (a2 : Int) (w2 : (Lit.int .u16 a2).wf = true) (w : World) :
    Calls Tryz.prog 8 #[.agg #[.int .i64 a0_0, .int .i64 a0_1], .int .u8 a1, .int .u16 a2] w fun e w' => e = .returned (.bool true) ∧ Below w.heap.size w w' := by
  have b0 : -9223372036854775808 ≤ a0_0 ∧ a0_0 ≤ 9223372036854775807 := by
    have := w0 a0_0 (by simp)
    simpa [IntKind.has, IntKind.min, IntKind.max, IntKind.signed, IntKind.bits] using this
  have b1 : -9223372036854775808 ≤ a0_1 ∧ a0_1 ≤ 9223372036854775807 := by
    have := w0 a0_1 (by simp)
    simpa [IntKind.has, IntKind.min, IntKind.max, IntKind.signed, IntKind.bits] using this
  have u1 := bounds_u8 w1
  have u2 := bounds_u16 w2
  obtain ⟨k, hk⟩ : ∃ k : Nat, a1 % 6 = (k : Int) := ⟨(a1 % 6).toNat, by omega⟩
  have T6 : a1.tmod 6 = (k : Int) := by rw [Int.tmod_eq_emod_of_nonneg u1.1]; exact hk
  have k6 : k < 6 := by omega
  have Wk : IntKind.i64.wrap (k : Int) = (k : Int) := wrap_i64 _ (by omega) (by omega)
  have Wk8 : IntKind.u8.wrap (k : Int) = (k : Int) := by simp [IntKind.wrap, IntKind.signed, IntKind.bits]; omega
  obtain ⟨p, q, hpq, KI⟩ := r2made a0_0 a0_1 b0.1 b0.2 b1.1 b1.2
  have HK := Lib.hid KI
  have HV := Lib.hid hpq
  have HX := Lib.hid (show 0 ≤ a2 ∧ a2 ≤ 65535 from ⟨u2.1, by have := u2.2; omega⟩)
  have H0 := Lib.hid (IvC.new w a0_0 a0_1)
  have HT := Lib.hid ((Below.refl w.heap.size w).alloc (Nat.le_refl _) (.cells #[.int .i64 a0_0, .int .i64 a0_1] 24))
  clear w0 w1 w2 b0 b1 u1 u2 hk hpq KI
  go_enter Tryz.func8, Tryz.ntmps8
  go_wp2_with (fail)
  generalize hW0 : World.alloc w _ = W0 at *
  clear hW0
  refine (sanity6 _).mono ?_
  rintro e w1 ⟨rfl, hB⟩
  have k0 := (H0.out.grow hB).c0
  have k1 := (H0.out.grow hB).c1
  replace HT := Lib.hid (below_then HT.out hB)
  dsimp only at k0 k1
  clear hB H0
  go_wp2_with (fail)
  refine (HK.out _).mono ?_
  rintro e w2 ⟨rfl, hB⟩
  clear k0 k1 HK
  have hg := (Below.refl w2.heap.size w2).alloc (Nat.le_refl _) (.cells #[.int .i64 p, .int .i64 q] 24)
  replace HT := Lib.hid (below_then (below_then HT.out hB) hg)
  have H8 := Lib.hid (IvC.new w2 p q)
  clear hB hg
  obtain ⟨W2, hW2⟩ : ∃ W, w2.alloc (.cells #[.int .i64 p, .int .i64 q] 24) = W := ⟨_, rfl⟩
  rw [hW2] at HT H8
  have k0 := H8.out.c0
  have k1 := H8.out.c1
  dsimp only at k0 k1
  obtain ⟨⟨V, v0, v1⟩, hV⟩ : ∃ R, varM (k : Int) (p, q) = R := ⟨_, rfl⟩
  have KV := Lib.hid (fun w => tvar_ok (k : Int) p q w HV.out)
  rw [hV] at KV
  obtain ⟨⟨C, c0, c1⟩, hC⟩ : ∃ R, constM (p, q) = R := ⟨_, rfl⟩
  have KC := Lib.hid (fun w => tconst_ok p q w HV.out)
  rw [hC] at KC
  dsimp only at KV KC
  have HEV := Lib.hid hV
  have HEC := Lib.hid hC
  clear hV hC
  go_wp2_with (fail)
  try rw [hW2]
  clear hW2
  refine (KV.out _).mono ?_
  rintro e w3 ⟨rv, rfl, txv, ⟨pv, nv, cv, rfl, h1, h2⟩, hB⟩
  clear k0 k1 h1 h2 KV
  have hg := (Below.refl w3.heap.size w3).alloc (Nat.le_refl _) (.cells #[.slice pv nv cv, .int .i64 v0, .int .i64 v1] 26)
  replace HT := Lib.hid (below_then (below_then HT.out hB) hg)
  replace H8 := Lib.hid ((H8.out.grow hB).grow hg)
  have XV := Lib.hid (txv.grow hg)
  have MV := Lib.hid (MoC.new w3 (.slice pv nv cv) v0 v1)
  clear hB hg txv
  obtain ⟨W3, hW3⟩ : ∃ W, w3.alloc (.cells #[.slice pv nv cv, .int .i64 v0, .int .i64 v1] 26) = W := ⟨_, rfl⟩
  rw [hW3] at HT H8 XV MV
  have k0 := H8.out.c0
  have k1 := H8.out.c1
  dsimp only at k0 k1
  go_wp2_with (fail)
  try rw [hW3]
  clear hW3
  refine (KC.out _).mono ?_
  rintro e w4 ⟨rc, rfl, txc, ⟨pc, nc, cc, rfl, h1, h2⟩, hB⟩
  clear k0 k1 h1 h2 KC
  have hg := (Below.refl w4.heap.size w4).alloc (Nat.le_refl _) (.cells #[.slice pc nc cc, .int .i64 c0, .int .i64 c1] 26)
  replace HT := Lib.hid (below_then (below_then HT.out hB) hg)
  replace H8 := Lib.hid ((H8.out.grow hB).grow hg)
  replace XV := Lib.hid ((XV.out.grow hB).grow hg)
  replace MV := Lib.hid ((MV.out.grow hB).grow hg)
  have XC := Lib.hid (txc.grow hg)
  have MC := Lib.hid (MoC.new w4 (.slice pc nc cc) c0 c1)
  clear hB hg txc
  obtain ⟨W4, hW4⟩ : ∃ W, w4.alloc (.cells #[.slice pc nc cc, .int .i64 c0, .int .i64 c1] 26) = W := ⟨_, rfl⟩
  rw [hW4] at HT H8 XV MV XC MC
  have k0 := H8.out.c0
  have k1 := H8.out.c1
  dsimp only at k0 k1
  by_cases hE : Ent p q
  · obtain ⟨rfl, rfl⟩ := hE
    have e1 := HEV.out.symm.trans (varM_ent k)
    have e2 := HEC.out.symm.trans constM_ent
    simp only [Prod.mk.injEq] at e1 e2
    obtain ⟨rfl, rfl, rfl⟩ := e1
    obtain ⟨rfl, rfl, rfl⟩ := e2
    obtain ⟨pv', cv', ev⟩ := XV.out.cut
    obtain ⟨pc', cc', ec⟩ := XC.out.cut
    simp only [Value.slice.injEq, List.length_nil] at ev ec
    obtain ⟨rfl, rfl, rfl⟩ := ev
    obtain ⟨rfl, rfl, rfl⟩ := ec
    go_wp2_with (fail)
    try rw [hW4]
    clear hW4
    refine (r2ent_yes _).mono ?_
    rintro e w5 ⟨rfl, hB⟩
    clear k0 k1
    have HT := Lib.hid (below_then HT.out hB)
    have j0 := (MV.out.grow hB).c0
    have j1 := (MV.out.grow hB).c1
    have j2 := (MV.out.grow hB).c2
    have MC := Lib.hid (MC.out.grow hB)
    dsimp only at j0 j1 j2
    clear hB
    go_wp2_with (fail)
    refine (iv_ent_yes _).mono ?_
    rintro e w6 ⟨rfl, hB⟩
    have HT := Lib.hid (below_then HT.out hB)
    clear j0 j1 j2
    have j0 := (MC.out.grow hB).c0
    have j1 := (MC.out.grow hB).c1
    have j2 := (MC.out.grow hB).c2
    dsimp only at j0 j1 j2
    clear hB
    go_wp2_with (fail)
    refine (iv_ent_yes _).mono ?_
    rintro e w7 ⟨rfl, hB⟩
    have HT := Lib.hid (below_then HT.out hB)
    clear j0 j1 j2 hB
    go_wp2_with (fail)
    go_ret
    exact ⟨rfl, HT.out⟩
  · have KE := Lib.hid (fun w => r2ent_no p q w hE)
    have vn := (show Ent p q ∨ (Num p ∧ Num q ∧ p ≤ q) from HV.out).resolve_left hE
    have hM := half_num vn.1 vn.2.1 vn.2.2
    have e1 := HEV.out.symm.trans (varM_eq k6 vn.1 vn.2.1 vn.2.2)
    have e2 := HEC.out.symm.trans (constM_eq vn.1 vn.2.1 vn.2.2)
    simp only [Prod.mk.injEq] at e1 e2
    obtain ⟨rfl, rfl, rfl⟩ := e1
    obtain ⟨rfl, rfl, rfl⟩ := e2
    clear HEV HEC
    obtain ⟨M, hMM⟩ : ∃ M, midI (p, q) = M := ⟨_, rfl⟩
    rw [hMM] at hM XV XC MC
    obtain ⟨m1, m2, m3, m4⟩ := hM
    have n1 := vn.1
    have n2 := vn.2.1
    have n3 := vn.2.2
    unfold Num at n1 n2
    obtain ⟨R, hR⟩ : ∃ R, q - M = R := ⟨_, rfl⟩
    rw [hR] at XV MC m2
    obtain ⟨D, hD⟩ : ∃ D, (q - p) / 2 = D := ⟨_, rfl⟩
    have hMD : p + D = M := by omega
    have SV := Lib.hid (var_six (c := M) (r := R) k6 m1 m2)
    have SC := Lib.hid (const_six m1)
    have lv : (constT M ++ lineT k R).length ≤ 100 := var_len k M R
    have lc : (constT M).length ≤ 100 := by unfold constT; split <;> simp
    obtain ⟨uz, u1, um⟩ := unitS_cnr k6
    have cz : cvS [0, 0, 0, 0, 0, 0] (constT M ++ lineT k R) = M := by rw [cv_var _ k6, uz]; omega
    have cp : cvS (unitS k 1) (constT M ++ lineT k R) = q := by rw [cv_var _ k6, u1]; omega
    have cm : cvS (unitS k (-1)) (constT M ++ lineT k R) = M - R := by rw [cv_var _ k6, um]; omega
    have cc_ : cvS (unitS k (-1)) (constT M) = M := cv_const _ _
    have x2 := HX.out
    have hfr := frac_bd (d := q - p) (x := a2) (by omega) x2
    obtain ⟨G, hG⟩ : ∃ G, (q - p) * a2 = G := ⟨_, rfl⟩
    rw [hG] at hfr
    obtain ⟨E, hE2⟩ : ∃ E, G / 65535 = E := ⟨_, rfl⟩
    have Wd : IntKind.i64.wrap (q - p) = q - p := wrap_i64 _ (by omega) (by omega)
    have T2 : (q - p).tdiv 2 = D := by rw [Int.tdiv_eq_ediv_of_nonneg (by omega)]; exact hD
    have WD : IntKind.i64.wrap D = D := wrap_i64 _ (by omega) (by omega)
    have WP : IntKind.i64.wrap (p + D) = M := by rw [hMD]; exact wrap_i64 _ (by unfold Num at m1; omega) (by unfold Num at m1; omega)
    have WM : IntKind.i64.wrap (M * 65536) = M * 65536 := wrap_i64 _ (by unfold Num at m1; omega) (by unfold Num at m1; omega)
    have WQ : IntKind.i64.wrap (q * 65536) = q * 65536 := wrap_i64 _ (by omega) (by omega)
    have WL : IntKind.i64.wrap (p * 65536) = p * 65536 := wrap_i64 _ (by omega) (by omega)
    have WQ1 : IntKind.i64.wrap (q * 65536 + 1) = q * 65536 + 1 := wrap_i64 _ (by omega) (by omega)
    have WL1 : IntKind.i64.wrap (p * 65536 - 1) = p * 65536 - 1 := wrap_i64 _ (by omega) (by omega)
    have Wx : IntKind.i64.wrap a2 = a2 := wrap_i64 _ (by omega) (by omega)
    have WG : IntKind.i64.wrap ((q - p) * a2) = G := by rw [hG]; exact wrap_i64 _ (by omega) (by omega)
    have TG : G.tdiv 65535 = E := by rw [Int.tdiv_eq_ediv_of_nonneg hfr.1]; exact hE2
    have WE : IntKind.i64.wrap E = E := wrap_i64 _ (by omega) (by omega)
    obtain ⟨U, hU⟩ : ∃ U, p + E = U := ⟨_, rfl⟩
    have WU : IntKind.i64.wrap (p + E) = U := by rw [hU]; exact wrap_i64 _ (by omega) (by omega)
    have WU2 : IntKind.i64.wrap (U * 65536) = U * 65536 := wrap_i64 _ (by omega) (by omega)
    have Wp1 : IntKind.i64.wrap (p - 1) = p - 1 := wrap_i64 _ (by omega) (by omega)
    obtain ⟨Y, hY⟩ : ∃ Y, M - R = Y := ⟨_, rfl⟩
    have d1 : (decide (Y ≤ p)) = true := decide_eq_true (by omega)
    have d2 : (decide (p - 1 ≤ Y)) = true := decide_eq_true (by omega)
    have d3 : (decide (Y ≥ p - 1)) = true := decide_eq_true (by omega)
    have m5 := m1
    unfold Num at m5 m2 m3
    have zb : ∀ x ∈ ([0, 0, 0, 0, 0, 0] : List Int), -128 ≤ x ∧ x ≤ 127 := by decide
    have K1 := Lib.hid (fun vs w h1 h2 => hv_ok (.slice pv nv cv) vs (constT M ++ lineT k R) [0, 0, 0, 0, 0, 0] 0 0 (M * 65536) true w h1 h2 SV.out zb lv (by omega) ⟨fun _ => .inr (by rw [cz]; omega), fun _ => rfl⟩)
    have K2 := Lib.hid (fun vs w h1 h2 => hv_ok (.slice pv nv cv) vs (constT M ++ lineT k R) (unitS k 1) 0 0 (q * 65536) true w h1 h2 SV.out (unitS_bd (by decide)) lv (by omega) ⟨fun _ => .inr (by rw [cp]; omega), fun _ => rfl⟩)
    have K3 := Lib.hid (fun vs w h1 h2 => valat_ok (.slice pv nv cv) vs (constT M ++ lineT k R) (unitS k (-1)) 0 0 0 w h1 h2 SV.out (unitS_bd (by decide)) lv (by omega) (by omega) (by omega) (by omega))
    rw [show valM (unitS k (-1)) (constT M ++ lineT k R, (0, 0)) 0 = Y by unfold valM; dsimp only; rw [cm]; omega] at K3
    have K4 := Lib.hid (fun vs w h1 h2 => hv_ok (.slice pc nc cc) vs (constT M) (unitS k (-1)) (p - M) R (U * 65536) true w h1 h2 SC.out (unitS_bd (by decide)) lc (by omega) ⟨fun _ => .inr (by rw [cc_]; omega), fun _ => rfl⟩)
    have K5 := Lib.hid (fun vs w h1 h2 => hv_ok (.slice pc nc cc) vs (constT M) (unitS k (-1)) (p - M) R (q * 65536 + 1) false w h1 h2 SC.out (unitS_bd (by decide)) lc (by omega) ⟨fun h => (by cases h), fun h => (by rw [cc_] at h; unfold Ent at h; omega)⟩)
    have K6 := Lib.hid (fun vs w h1 h2 => hv_ok (.slice pc nc cc) vs (constT M) (unitS k (-1)) (p - M) R (p * 65536 - 1) false w h1 h2 SC.out (unitS_bd (by decide)) lc (by omega) ⟨fun h => (by cases h), fun h => (by rw [cc_] at h; unfold Ent at h; omega)⟩)
    clear hE vn m1 m2 m3 m4 m5 n1 n2 n3 hMM hR hD hMD lv lc uz u1 um cz cp cm cc_ x2 hfr hG hE2 hU hY zb SV SC HV HX
    go_wp2_with (fail)
    try rw [hW4]
    clear hW4
    refine (KE.out _).mono ?_
    rintro e w5 ⟨rfl, hB⟩
    replace HT := Lib.hid (below_then HT.out hB)
    replace H8 := Lib.hid (H8.out.grow hB)
    replace XV := Lib.hid (XV.out.grow hB)
    replace MV := Lib.hid (MV.out.grow hB)
    replace XC := Lib.hid (XC.out.grow hB)
    replace MC := Lib.hid (MC.out.grow hB)
    clear hB k0 k1 KE
    have i0 : I8C (w5.alloc (.cells #[.int .i8 0, .int .i8 0, .int .i8 0, .int .i8 0, .int .i8 0, .int .i8 0] 58)) w5.heap.size [0, 0, 0, 0, 0, 0] := World.alloc_heap_new w5 _
    have I8 := Lib.hid i0
    have HC := Lib.hid ((Below.refl w5.heap.size w5).alloc (Nat.le_refl _) (.cells #[.int .i8 0, .int .i8 0, .int .i8 0, .int .i8 0, .int .i8 0, .int .i8 0] 58))
    clear i0
    obtain ⟨W5, hW5⟩ : ∃ W, w5.alloc (.cells #[.int .i8 0, .int .i8 0, .int .i8 0, .int .i8 0, .int .i8 0, .int .i8 0] 58) = W := ⟨_, rfl⟩
    rw [hW5] at I8 HC
    have k0 := (H8.out.grow HC.out).c0
    have k1 := (H8.out.grow HC.out).c1
    dsimp only at k0 k1
    have j0 := (MV.out.grow HC.out).c0
    have j1 := (MV.out.grow HC.out).c1
    have j2 := (MV.out.grow HC.out).c2
    dsimp only at j0 j1 j2
    go_wp2_with (fail)
    try rw [hW5]
    clear hW5
    refine (K1.out (.slice (some ⟨w5.heap.size, 0, none⟩) 6 6) _ (XV.out.grow HC.out) (I8.out.s8 rfl)).mono ?_
    rintro e w6 ⟨rfl, hB⟩
    replace HC := Lib.hid (HC.out.trans (hB.mono HC.out.size))
    replace I8 := Lib.hid (I8.out.grow hB)
    clear hB k0 k1 j0 j1 j2
    have hT : ((k : Int)).toNat = k := by simp
    have hN : ¬ ((k : Int) < 0) := by omega
    have h6 : (k : Int) < 6 := by omega
    have q0 := I8.out.cell (k := k) (x := 0) (by simp [unitS, k6]; try (rcases (show k = 0 ∨ k = 1 ∨ k = 2 ∨ k = 3 ∨ k = 4 ∨ k = 5 by omega) with rfl | rfl | rfl | rfl | rfl | rfl <;> rfl))
    have z0 := I8.out.frozen k
    replace HC := Lib.hid (HC.out.setCell (p := ⟨w5.heap.size, k, none⟩) (Nat.le_refl _) (.int .i8 1))
    replace I8 : Hid (I8C (w6.setCell ⟨w5.heap.size, k, none⟩ (.int .i8 1)) w5.heap.size (unitS k 1)) := Lib.hid (by have := I8.out.set (k := k) 1; simpa [unitS] using this)
    obtain ⟨W6, hW6⟩ : ∃ W, w6.setCell ⟨w5.heap.size, k, none⟩ (.int .i8 1) = W := ⟨_, rfl⟩
    rw [hW6] at HC I8
    have k0 := (H8.out.grow HC.out).c0
    have k1 := (H8.out.grow HC.out).c1
    dsimp only at k0 k1
    have j0 := (MV.out.grow HC.out).c0
    have j1 := (MV.out.grow HC.out).c1
    have j2 := (MV.out.grow HC.out).c2
    dsimp only at j0 j1 j2
    go_wp2_with (fail)
    try rw [hW6]
    clear hW6 hT hN h6 q0 z0
    refine (K2.out (.slice (some ⟨w5.heap.size, 0, none⟩) 6 6) _ (XV.out.grow HC.out) (I8.out.s8 (unitS_len k 1))).mono ?_
    rintro e w7 ⟨rfl, hB⟩
    replace HC := Lib.hid (HC.out.trans (hB.mono HC.out.size))
    replace I8 := Lib.hid (I8.out.grow hB)
    clear hB k0 k1 j0 j1 j2
    have hT : ((k : Int)).toNat = k := by simp
    have hN : ¬ ((k : Int) < 0) := by omega
    have h6 : (k : Int) < 6 := by omega
    have q0 := I8.out.cell (k := k) (x := 1) (by simp [unitS, k6]; try (rcases (show k = 0 ∨ k = 1 ∨ k = 2 ∨ k = 3 ∨ k = 4 ∨ k = 5 by omega) with rfl | rfl | rfl | rfl | rfl | rfl <;> rfl))
    have z0 := I8.out.frozen k
    replace HC := Lib.hid (HC.out.setCell (p := ⟨w5.heap.size, k, none⟩) (Nat.le_refl _) (.int .i8 (-1)))
    replace I8 : Hid (I8C (w7.setCell ⟨w5.heap.size, k, none⟩ (.int .i8 (-1))) w5.heap.size (unitS k (-1))) := Lib.hid (by have := I8.out.set (k := k) (-1); simpa [unitS] using this)
    obtain ⟨W7, hW7⟩ : ∃ W, w7.setCell ⟨w5.heap.size, k, none⟩ (.int .i8 (-1)) = W := ⟨_, rfl⟩
    rw [hW7] at HC I8
    have k0 := (H8.out.grow HC.out).c0
    have k1 := (H8.out.grow HC.out).c1
    dsimp only at k0 k1
    have j0 := (MV.out.grow HC.out).c0
    have j1 := (MV.out.grow HC.out).c1
    have j2 := (MV.out.grow HC.out).c2
    dsimp only at j0 j1 j2
    go_wp2_with (fail)
    try rw [hW7]
    clear hW7 hT hN h6 q0 z0
    refine (K3.out (.slice (some ⟨w5.heap.size, 0, none⟩) 6 6) _ (XV.out.grow HC.out) (I8.out.s8 (unitS_len k (-1)))).mono ?_
    rintro e w8 ⟨rfl, hB⟩
    replace HC := Lib.hid (HC.out.trans (hB.mono HC.out.size))
    replace I8 := Lib.hid (I8.out.grow hB)
    clear hB k0 k1 j0 j1 j2
    have k0 := (H8.out.grow HC.out).c0
    have k1 := (H8.out.grow HC.out).c1
    dsimp only at k0 k1
    have j0 := (MC.out.grow HC.out).c0
    have j1 := (MC.out.grow HC.out).c1
    have j2 := (MC.out.grow HC.out).c2
    dsimp only at j0 j1 j2
    go_wp2_with (fail)
    refine (K4.out (.slice (some ⟨w5.heap.size, 0, none⟩) 6 6) _ (XC.out.grow HC.out) (I8.out.s8 (unitS_len k (-1)))).mono ?_
    rintro e w9 ⟨rfl, hB⟩
    replace HC := Lib.hid (HC.out.trans (hB.mono HC.out.size))
    replace I8 := Lib.hid (I8.out.grow hB)
    clear hB k0 k1 j0 j1 j2
    have k0 := (H8.out.grow HC.out).c0
    have k1 := (H8.out.grow HC.out).c1
    dsimp only at k0 k1
    have j0 := (MC.out.grow HC.out).c0
    have j1 := (MC.out.grow HC.out).c1
    have j2 := (MC.out.grow HC.out).c2
    dsimp only at j0 j1 j2
    go_wp2_with (fail)
    refine (K5.out (.slice (some ⟨w5.heap.size, 0, none⟩) 6 6) _ (XC.out.grow HC.out) (I8.out.s8 (unitS_len k (-1)))).mono ?_
    rintro e w10 ⟨rfl, hB⟩
    replace HC := Lib.hid (HC.out.trans (hB.mono HC.out.size))
    replace I8 := Lib.hid (I8.out.grow hB)
    clear hB k0 k1 j0 j1 j2
    have k0 := (H8.out.grow HC.out).c0
    have k1 := (H8.out.grow HC.out).c1
    dsimp only at k0 k1
    have j0 := (MC.out.grow HC.out).c0
    have j1 := (MC.out.grow HC.out).c1
    have j2 := (MC.out.grow HC.out).c2
    dsimp only at j0 j1 j2
    go_wp2_with (fail)
    refine (K6.out (.slice (some ⟨w5.heap.size, 0, none⟩) 6 6) _ (XC.out.grow HC.out) (I8.out.s8 (unitS_len k (-1)))).mono ?_
    rintro e w11 ⟨rfl, hB⟩
    replace HC := Lib.hid (HC.out.trans (hB.mono HC.out.size))
    replace I8 := Lib.hid (I8.out.grow hB)
    clear hB k0 k1 j0 j1 j2
    go_wp2_with (fail)
    go_ret
    exact ⟨rfl, below_then HT.out HC.out⟩
end Go.Proofs.YtbfhmbadgbackaaGreat
