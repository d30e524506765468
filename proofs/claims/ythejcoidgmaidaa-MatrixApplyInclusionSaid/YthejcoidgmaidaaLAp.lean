/-
  law04: MatrixApplyInclusion.
-/
import Derived.Test.YthejcoidgmaidaaK4
import Derived.Test.YthejcoidgmaidaaIncMath
import Derived.Test.YthejcoidgmaidaaRead4
namespace Go.Proofs.Ythejcoidgmaidaa
open Go.ChangeShapes Go.WideShapes Go.ChangeAt Go.RowKit
set_option linter.unusedVariables false
set_option linter.unusedSimpArgs false
set_option maxRecDepth 100000
attribute [local irreducible] Calls

set_option maxHeartbeats 32000000 in
theorem apinc (w : World) (vA vB vC : Value) (n : Int) (la lb lc : List (Int × Int)) (hA : Bx w vA la ∧ I64 la) (hB : Bx w vB lb ∧ I64 lb) (hC : Bx w vC lc ∧ I64 lc) (hn : 0 ≤ n ∧ n < 256) (a1 : Value) (fl1 : List Int) (hF : Us w a1 fl1 ∧ U16 fl1) (a2 : Value) (fl2 : List Int) (hG : Us w a2 fl2 ∧ U16 fl2) :
    Calls Try.prog 3 #[.agg #[vA, vB, vC, .int .u8 n], a1, a2] w fun e w' => e = .returned (.bool true) ∧ Below w.heap.size w w' := by
  obtain ⟨hn0, hn1⟩ := hn
  have hm0 : 0 ≤ n % 4 := Int.emod_nonneg _ (by decide)
  have hm1 : n % 4 < 4 := Int.emod_lt_of_pos _ (by decide)
  obtain ⟨k, hk⟩ : ∃ k : Nat, 1 + n % 4 = (k : Int) := ⟨(1 + n % 4).toNat, by omega⟩
  have hk1 : 1 ≤ k := by omega
  have hk4 : k ≤ 4 := by omega
  have hk6 : k ≤ 6 := by omega
  have HA := Lib.hid hA
  have HB := Lib.hid hB
  have HC := Lib.hid hC
  clear hA hB hC
  have HF := Lib.hid hF
  have HG := Lib.hid hG
  clear hF hG
  go_enter Try.func3, Try.ntmps3
  go_wp2_with (fail)
  generalize hW0 : World.alloc w _ = W0
  have hT0 : Below w.heap.size w W0 := by subst hW0; exact ((Below.refl w.heap.size w).alloc (by go_size) _)
  have Y0 : w.heap.size < W0.heap.size := by subst hW0; simp <;> omega
  have F0_0 : ∀ g : Grown W0, g.w.cell? ⟨w.heap.size, 0, none⟩ = some (vA) := fun g => (g.cell Y0).trans (by subst hW0; simp [go_sem])
  have F0_1 : ∀ g : Grown W0, g.w.cell? ⟨w.heap.size, 1, none⟩ = some (vB) := fun g => (g.cell Y0).trans (by subst hW0; simp [go_sem])
  have F0_2 : ∀ g : Grown W0, g.w.cell? ⟨w.heap.size, 2, none⟩ = some (vC) := fun g => (g.cell Y0).trans (by subst hW0; simp [go_sem])
  have F0_3 : ∀ g : Grown W0, g.w.cell? ⟨w.heap.size, 3, none⟩ = some (.int .u8 n) := fun g => (g.cell Y0).trans (by subst hW0; simp [go_sem])
  clear Y0 hW0
  obtain ⟨g0, hg0⟩ : ∃ g : Grown W0, W0 = g.w := ⟨⟨W0, Below.refl _ _⟩, rfl⟩
  rw [hg0]
  refine (sanity4 _).mono ?_
  rintro e w' ⟨rfl, hB⟩
  obtain ⟨g1, rfl⟩ := grow g0 hB
  clear hB hg0
  go_wp2_with (fail)
  refine (law4small vA vB vC la lb lc n k _ ((HA.out.1.grow hT0).grow g1.h) ((HB.out.1.grow hT0).grow g1.h) ((HC.out.1.grow hT0).grow g1.h) HA.out.2 HB.out.2 HC.out.2 hn0 hn1 hk).mono ?_
  rintro e w' ⟨va, vb, vd, d, rfl, sA, sB, qdl, qdv, hd, hB⟩
  obtain ⟨A, qA, ha⟩ := smat_mx sA hk6
  have QA := Lib.hid qA
  have Qdl := Lib.hid qdl
  have Qdv := Lib.hid qdv
  clear sA sB qA qdl qdv
  obtain ⟨g2, rfl⟩ := grow g1 hB
  clear hB
  go_wp2_with (fail)
  refine (r4sample va a1 A fl1 k _ ha QA.out ((HF.out.1.grow hT0).grow g2.h) HF.out.2 hk6).mono ?_
  rintro e w' ⟨vm, P, rfl, qP1, qP2, hm, hB⟩
  obtain ⟨g3, rfl⟩ := grow g2 hB
  replace hd := hd.grow hB
  replace ha := ha.grow grows_bx hB
  clear hB
  have QP1 := Lib.hid qP1
  have QP2 := Lib.hid qP2
  clear qP1 qP2
  go_wp2_with (fail)
  refine (r3point vd a2 d fl2 _ hd ((HG.out.1.grow hT0).grow g3.h) (by rw [Qdl.out]; omega) (fun p hp => sm_vb (Qdv.out p hp)) HG.out.2).mono ?_
  rintro e w' ⟨vp, p, rfl, qp1, qp2, _, hp, hB⟩
  obtain ⟨g4, rfl⟩ := grow g3 hB
  replace hd := hd.grow hB
  replace ha := ha.grow grows_bx hB
  replace hm := hm.grow grows_pt hB
  clear hB
  rw [Qdl.out] at qp1
  have Qp1 := Lib.hid qp1
  have Qp2 := Lib.hid (con_row qp2 Qdv.out)
  clear qp1 qp2
  go_wp2_with (fail)
  refine (apply_k va vd A d k _ ha hd (qm_sq QA.out) Qdl.out (fun p hp => sm_vb (Qdv.out p hp)) hk6).mono ?_
  rintro e w' ⟨vo, rfl, ho, hB⟩
  obtain ⟨g5, rfl⟩ := grow g4 hB
  replace hp := hp.grow hB
  replace hd := hd.grow hB
  replace ha := ha.grow grows_bx hB
  replace hm := hm.grow grows_pt hB
  clear hB
  have hol : (apM A d).length = k := by unfold apM; rw [List.length_map, QA.out.1]
  obtain ⟨po, co, rfl⟩ := ho.shape hol
  obtain ⟨pm, cm, rfl⟩ := hm.shape QP1.out
  obtain ⟨pp, cp, rfl⟩ := pt_shape hp Qp1.out
  have hT := below_then hT0 g5.h
  obtain ⟨W9, hW9⟩ : ∃ W9, g5.w = W9 := ⟨_, rfl⟩
  rw [hW9] at ho hm hp hT ⊢
  have HO := Lib.hid ho
  have HM := Lib.hid hm
  have HP := Lib.hid hp
  clear ho hm hp ha hd hol hW9
  go_wp2_with (fail)
  go_loopw [14] (fun i wr => ∃ j : Nat, i = .int .i64 j ∧ j ≤ k ∧ Below W9.heap.size W9 wr) (fun i _ => k - (intOf i).toNat)
  case atStart => exact ⟨0, rfl, Nat.zero_le _, Below.refl _ _⟩
  case round =>
    obtain ⟨j, rfl, hj, hB⟩ := hrel
    by_cases hlt : j < k
    · have ij : (j : Int) < k := by omega
      obtain ⟨r, hr⟩ : ∃ r, A[j]? = some r := ⟨_, List.getElem?_eq_getElem (by rw [QA.out.1]; exact hlt)⟩
      obtain ⟨m, hmj⟩ : ∃ m, P[j]? = some m := ⟨_, List.getElem?_eq_getElem (by rw [QP1.out]; exact hlt)⟩
      obtain ⟨hrl, hrv⟩ := QA.out.2 r (List.mem_of_getElem? hr)
      obtain ⟨hml, hmi⟩ := QP2.out j r m hr hmj
      obtain ⟨x, y, hxy⟩ : ∃ x y, dotI (r.zip d) = (x, y) := ⟨_, _, rfl⟩
      have hcd : contS (x, y) (dotN m p) := by
        rw [← hxy]
        exact cont_dot (inz_of (by rw [hml, hrl]) (by rw [Qdl.out, hrl]) (by rw [Qp1.out, hrl]) hrv Qdv.out hmi Qp2.out)
      have hvb : VB (x, y) := by rw [← hxy]; exact dotI_vb _
      have hox : (apM A d)[j]? = some (x, y) := by unfold apM; rw [List.getElem?_map, hr, Option.map_some, hxy]
      have bm1 := row_in_bd (by omega) hmi hrv
      have bp1 := row_in_bd (by rw [Qp1.out, Qdl.out]; exact Nat.le_refl _) Qp2.out Qdv.out
      obtain ⟨bo, oo, rfl, hbo, rd⟩ := HO.out.rd2 hox
      obtain ⟨bm, om, u, hpm, hbm, rdm⟩ := HM.out.rd grows_pt hmj
      subst hpm
      have hu := (rdm ⟨W9, Below.refl _ _⟩).2.2
      dsimp only at hu
      obtain ⟨pr, cr, rfl⟩ := pt_shape hu hml
      have f1 := fun g : Grown wr => (rd ⟨g.w, below_then hB g.h⟩).2.1
      have f2 := fun g : Grown wr => (rd ⟨g.w, below_then hB g.h⟩).2.2
      have f3 := fun g : Grown wr => (rdm ⟨g.w, below_then hB g.h⟩).2.1
      dsimp only at f1 f2 f3
      have hdot := fun g : Grown wr => r4dot _ _ m p g.w (hu.grow (below_then hB g.h)) (HP.out.grow (below_then hB g.h)) (by omega) (by rw [Qp1.out, hml]) (zip_bd24 bm1 bp1)
      obtain ⟨S, hS⟩ : ∃ S, dotN m p = S := ⟨_, rfl⟩
      rw [hS] at hdot hcd
      have HD := Lib.hid hdot
      have HC1 := Lib.hid (fun w => r4scaled x y S w hvb hcd)
      have HV1 := Lib.hid (fun w => r2valid x y true w (decide_eq_true hvb))
      clear rd rdm hdot hcd hvb hox bm1 bp1 hmi hml hrl hrv hr hmj hxy hS hu
      go_wp2_with (fail)
      refine region_pred (lk [(42, fun u _ => u = .slice (some ⟨bo, oo, none⟩) k co), (43, fun u _ => u = .int .i64 (j : Int)), (44, fun u _ => u = .pointer (some ⟨bo, oo + j * 2, none⟩)), (45, fun u _ => u = .agg #[.int .i64 x, .int .i64 y]), (46, fun u _ => u = .bool true), (47, fun u _ => u = .bool false), (48, fun u _ => u = .bool false), (49, fun u _ => u = .slice (some ⟨bo, oo, none⟩) k co), (50, fun u _ => u = .int .i64 (j : Int)), (51, fun u _ => u = .pointer (some ⟨bo, oo + j * 2, none⟩)), (52, fun u _ => u = .agg #[.int .i64 x, .int .i64 y]), (53, fun u _ => u = .slice (some ⟨bm, om, none⟩) k cm), (54, fun u _ => u = .int .i64 (j : Int)), (55, fun u _ => u = .pointer (some ⟨bm, om + j, none⟩)), (56, fun u _ => u = .slice pr k cr), (57, fun u _ => u = .slice pp k cp), (58, fun u _ => u = .int .i64 S), (59, fun u _ => u = .bool true), (60, fun u _ => u = .bool false), (61, fun u _ => u = .bool false)]) (by kernel_rfl) (by kernel_rfl) (lk_steady _ ⟨steady_eq _, steady_eq _, steady_eq _, steady_eq _, steady_eq _, steady_eq _, steady_eq _, steady_eq _, steady_eq _, steady_eq _, steady_eq _, steady_eq _, steady_eq _, steady_eq _, steady_eq _, steady_eq _, steady_eq _, steady_eq _, steady_eq _, steady_eq _, trivial⟩) ?_ ?_
      · refine ⟨?_, ?_, ?_, ?_, ?_, ?_, ?_, ?_, ?_, ?_, ?_, ?_, ?_, ?_, ?_, ?_, ?_, ?_, ?_, ?_, trivial⟩
        · refine ob_plain [13] rfl rfl fun aa g h => ?_
          have r0 := seen_out (v := .slice (some ⟨bo, oo, none⟩) k co) rfl rfl h.1
          have e0 := getD_of r0
          exact upon_value (v := .slice (some ⟨bo, oo, none⟩) k co) (by simp [go_sem, e0, r0]) (Below.refl _ _) rfl
        · refine ob_plain [14] rfl rfl fun aa g h => ?_
          have r0 := seen_out (v := .int .i64 (j : Int)) rfl rfl h.1
          have e0 := getD_of r0
          exact upon_value (v := .int .i64 (j : Int)) (by simp [go_sem, e0, r0]) (Below.refl _ _) rfl
        · refine ob_plain [42, 43] rfl rfl fun aa g h => ?_
          obtain ⟨_, r0, rfl⟩ := seen_in rfl h.1
          have e0 := getD_of r0
          obtain ⟨_, r1, rfl⟩ := seen_in rfl h.2.1
          have e1 := getD_of r1
          exact upon_value (v := .pointer (some ⟨bo, oo + j * 2, none⟩)) (by simp [go_sem, e0, r0, e1, r1, ij]) (Below.refl _ _) rfl
        · refine ob_plain [44] rfl rfl fun aa g h => ?_
          obtain ⟨_, r0, rfl⟩ := seen_in rfl h.1
          have e0 := getD_of r0
          exact upon_value (v := .agg #[.int .i64 x, .int .i64 y]) (by simp [go_sem, e0, r0, f1 g, f2 g]) (Below.refl _ _) rfl
        · refine ob_plain [45] rfl rfl fun aa g h => ?_
          obtain ⟨_, r0, rfl⟩ := seen_in rfl h.1
          have e0 := getD_of r0
          refine upon_enter (f := 15) (args := #[.agg #[.int .i64 x, .int .i64 y]]) (by simp [go_sem, e0, r0]) rfl ?_
          exact (HV1.out _).mono fun e w' ⟨he, hB⟩ => ⟨_, he, hB, rfl⟩
        · refine ob_plain [46] rfl rfl fun aa g h => ?_
          obtain ⟨_, r0, rfl⟩ := seen_in rfl h.1
          have e0 := getD_of r0
          exact upon_value (v := .bool false) (by simp [go_sem, e0, r0]) (Below.refl _ _) rfl
        · refine ob_plain [47] rfl rfl fun aa g h => ?_
          obtain ⟨_, r0, rfl⟩ := seen_in rfl h.1
          have e0 := getD_of r0
          exact upon_value (v := .bool false) (by simp [go_sem, e0, r0]) (Below.refl _ _) rfl
        · refine ob_gtrue [13] 6 false 48 rfl rfl rfl rfl (fun v w h => h) fun aa g h => ?_
          have r0 := seen_out (v := .slice (some ⟨bo, oo, none⟩) k co) rfl rfl h.1
          have e0 := getD_of r0
          exact upon_value (v := .slice (some ⟨bo, oo, none⟩) k co) (by simp [go_sem, e0, r0]) (Below.refl _ _) rfl
        · refine ob_gtrue [14] 6 false 48 rfl rfl rfl rfl (fun v w h => h) fun aa g h => ?_
          have r0 := seen_out (v := .int .i64 (j : Int)) rfl rfl h.1
          have e0 := getD_of r0
          exact upon_value (v := .int .i64 (j : Int)) (by simp [go_sem, e0, r0]) (Below.refl _ _) rfl
        · refine ob_gtrue [49, 50] 6 false 48 rfl rfl rfl rfl (fun v w h => h) fun aa g h => ?_
          obtain ⟨_, r0, rfl⟩ := seen_in rfl h.1
          have e0 := getD_of r0
          obtain ⟨_, r1, rfl⟩ := seen_in rfl h.2.1
          have e1 := getD_of r1
          exact upon_value (v := .pointer (some ⟨bo, oo + j * 2, none⟩)) (by simp [go_sem, e0, r0, e1, r1, ij]) (Below.refl _ _) rfl
        · refine ob_gtrue [51] 6 false 48 rfl rfl rfl rfl (fun v w h => h) fun aa g h => ?_
          obtain ⟨_, r0, rfl⟩ := seen_in rfl h.1
          have e0 := getD_of r0
          exact upon_value (v := .agg #[.int .i64 x, .int .i64 y]) (by simp [go_sem, e0, r0, f1 g, f2 g]) (Below.refl _ _) rfl
        · refine ob_gtrue [11] 6 false 48 rfl rfl rfl rfl (fun v w h => h) fun aa g h => ?_
          have r0 := seen_out (v := .slice (some ⟨bm, om, none⟩) k cm) rfl rfl h.1
          have e0 := getD_of r0
          exact upon_value (v := .slice (some ⟨bm, om, none⟩) k cm) (by simp [go_sem, e0, r0]) (Below.refl _ _) rfl
        · refine ob_gtrue [14] 6 false 48 rfl rfl rfl rfl (fun v w h => h) fun aa g h => ?_
          have r0 := seen_out (v := .int .i64 (j : Int)) rfl rfl h.1
          have e0 := getD_of r0
          exact upon_value (v := .int .i64 (j : Int)) (by simp [go_sem, e0, r0]) (Below.refl _ _) rfl
        · refine ob_gtrue [53, 54] 6 false 48 rfl rfl rfl rfl (fun v w h => h) fun aa g h => ?_
          obtain ⟨_, r0, rfl⟩ := seen_in rfl h.1
          have e0 := getD_of r0
          obtain ⟨_, r1, rfl⟩ := seen_in rfl h.2.1
          have e1 := getD_of r1
          exact upon_value (v := .pointer (some ⟨bm, om + j, none⟩)) (by simp [go_sem, e0, r0, e1, r1, ij]) (Below.refl _ _) rfl
        · refine ob_gtrue [55] 6 false 48 rfl rfl rfl rfl (fun v w h => h) fun aa g h => ?_
          obtain ⟨_, r0, rfl⟩ := seen_in rfl h.1
          have e0 := getD_of r0
          exact upon_value (v := .slice pr k cr) (by simp [go_sem, e0, r0, f3 g]) (Below.refl _ _) rfl
        · refine ob_gtrue [12] 6 false 48 rfl rfl rfl rfl (fun v w h => h) fun aa g h => ?_
          have r0 := seen_out (v := .slice pp k cp) rfl rfl h.1
          have e0 := getD_of r0
          exact upon_value (v := .slice pp k cp) (by simp [go_sem, e0, r0]) (Below.refl _ _) rfl
        · refine ob_gtrue [56, 57] 6 false 48 rfl rfl rfl rfl (fun v w h => h) fun aa g h => ?_
          obtain ⟨_, r0, rfl⟩ := seen_in rfl h.1
          have e0 := getD_of r0
          obtain ⟨_, r1, rfl⟩ := seen_in rfl h.2.1
          have e1 := getD_of r1
          refine upon_enter (f := 17) (args := #[.slice pr k cr, .slice pp k cp]) (by simp [go_sem, e0, r0, e1, r1]) rfl ?_
          exact (HD.out g).mono fun e w' ⟨he, hB⟩ => ⟨_, he, hB, rfl⟩
        · refine ob_gtrue [52, 58] 6 false 48 rfl rfl rfl rfl (fun v w h => h) fun aa g h => ?_
          obtain ⟨_, r0, rfl⟩ := seen_in rfl h.1
          have e0 := getD_of r0
          obtain ⟨_, r1, rfl⟩ := seen_in rfl h.2.1
          have e1 := getD_of r1
          refine upon_enter (f := 16) (args := #[.agg #[.int .i64 x, .int .i64 y], .int .i64 S]) (by simp [go_sem, e0, r0, e1, r1]) rfl ?_
          exact (HC1.out _).mono fun e w' ⟨he, hB⟩ => ⟨_, he, hB, rfl⟩
        · refine ob_gtrue [59] 6 false 48 rfl rfl rfl rfl (fun v w h => h) fun aa g h => ?_
          obtain ⟨_, r0, rfl⟩ := seen_in rfl h.1
          have e0 := getD_of r0
          exact upon_value (v := .bool false) (by simp [go_sem, e0, r0]) (Below.refl _ _) rfl
        · refine ob_plain [48, 60] rfl rfl fun aa g h => ?_
          obtain ⟨_, r0, rfl⟩ := seen_in rfl h.1
          have e0 := getD_of r0
          obtain ⟨_, r1, rfl⟩ := seen_in rfl h.2.1
          have e1 := getD_of r1
          exact upon_value (v := .bool false) (by simp [go_sem, e0, r0, e1, r1]) (Below.refl _ _) rfl
      · rintro w5 hB5 _ rfl _ rfl _ rfl _ rfl _ rfl _ rfl _ rfl _ rfl _ rfl _ rfl _ rfl _ rfl _ rfl _ rfl _ rfl _ rfl _ rfl _ rfl _ rfl _ rfl
        simp only [Act.put, List.setIfInBounds_toArray, List.set_cons_succ, List.set_cons_zero]
        clear f1 f2 f3
        rename_i K hK
        refine hK _ _ ?_
        clear hK K
        have hB6 := below_then hB hB5
        go_wp2_with (fail)
        go_roundw
        case rel => exact ⟨j + 1, by go_num, by omega, hB6⟩
        case measure => simp [intOf]; omega
    · obtain rfl : j = k := by omega
      go_wp2_with (fail)
      go_ret
      exact ⟨rfl, below_then hT hB⟩
end Go.Proofs.Ythejcoidgmaidaa
