/-
  law04: MatrixMulInclusion.
-/
import Derived.Test.YthejcoidgmaidaaK4
import Derived.Test.YthejcoidgmaidaaIncMath
import Derived.Test.YthejcoidgmaidaaRead4
namespace Go.Proofs.Ythejcoidgmaidaa
open Go.ChangeShapes Go.WideShapes Go.ChangeAt Go.RowKit
set_option linter.unusedVariables false
set_option linter.unusedSimpArgs false
set_option maxRecDepth 100000
attribute [local irreducible] Calls

set_option maxHeartbeats 32000000 in
theorem mulinc (w : World) (vA vB vC : Value) (n : Int) (la lb lc : List (Int × Int)) (hA : Bx w vA la ∧ I64 la) (hB : Bx w vB lb ∧ I64 lb) (hC : Bx w vC lc ∧ I64 lc) (hn : 0 ≤ n ∧ n < 256) (a1 : Value) (fl1 : List Int) (hF : Us w a1 fl1 ∧ U16 fl1) :
    Calls Try.prog 4 #[.agg #[vA, vB, vC, .int .u8 n], a1] w fun e w' => e = .returned (.bool true) ∧ Below w.heap.size w w' := by
  obtain ⟨hn0, hn1⟩ := hn
  have hm0 : 0 ≤ n % 4 := Int.emod_nonneg _ (by decide)
  have hm1 : n % 4 < 4 := Int.emod_lt_of_pos _ (by decide)
  obtain ⟨k, hk⟩ : ∃ k : Nat, 1 + n % 4 = (k : Int) := ⟨(1 + n % 4).toNat, by omega⟩
  have hk1 : 1 ≤ k := by omega
  have hk4 : k ≤ 4 := by omega
  have hk6 : k ≤ 6 := by omega
  have HA := Lib.hid hA
  have HB := Lib.hid hB
  have HC := Lib.hid hC
  clear hA hB hC
  have HF := Lib.hid hF
  clear hF
  go_enter Try.func4, Try.ntmps4
  go_wp2_with (fail)
  generalize hW0 : World.alloc w _ = W0
  have hT0 : Below w.heap.size w W0 := by subst hW0; exact ((Below.refl w.heap.size w).alloc (by go_size) _)
  have Y0 : w.heap.size < W0.heap.size := by subst hW0; simp <;> omega
  have F0_0 : ∀ g : Grown W0, g.w.cell? ⟨w.heap.size, 0, none⟩ = some (vA) := fun g => (g.cell Y0).trans (by subst hW0; simp [go_sem])
  have F0_1 : ∀ g : Grown W0, g.w.cell? ⟨w.heap.size, 1, none⟩ = some (vB) := fun g => (g.cell Y0).trans (by subst hW0; simp [go_sem])
  have F0_2 : ∀ g : Grown W0, g.w.cell? ⟨w.heap.size, 2, none⟩ = some (vC) := fun g => (g.cell Y0).trans (by subst hW0; simp [go_sem])
  have F0_3 : ∀ g : Grown W0, g.w.cell? ⟨w.heap.size, 3, none⟩ = some (.int .u8 n) := fun g => (g.cell Y0).trans (by subst hW0; simp [go_sem])
  clear Y0 hW0
  obtain ⟨g0, hg0⟩ : ∃ g : Grown W0, W0 = g.w := ⟨⟨W0, Below.refl _ _⟩, rfl⟩
  rw [hg0]
  refine (sanity4 _).mono ?_
  rintro e w' ⟨rfl, hB⟩
  obtain ⟨g1, rfl⟩ := grow g0 hB
  clear hB hg0
  go_wp2_with (fail)
  refine (law4small vA vB vC la lb lc n k _ ((HA.out.1.grow hT0).grow g1.h) ((HB.out.1.grow hT0).grow g1.h) ((HC.out.1.grow hT0).grow g1.h) HA.out.2 HB.out.2 HC.out.2 hn0 hn1 hk).mono ?_
  rintro e w' ⟨va, vb, vd, d, rfl, sA, sB, qdl, qdv, hd, hB⟩
  obtain ⟨A, qA, ha⟩ := smat_mx sA hk6
  have QA := Lib.hid qA
  obtain ⟨B, qB, hb⟩ := smat_mx sB hk6
  have QB := Lib.hid qB
  clear sA sB qA qB qdl qdv hd
  obtain ⟨g2, rfl⟩ := grow g1 hB
  clear hB
  go_wp2_with (fail)
  refine (r4sample va a1 A fl1 k _ ha QA.out ((HF.out.1.grow hT0).grow g2.h) HF.out.2 hk6).mono ?_
  rintro e w' ⟨vm, M, rfl, qM1, qM2, hm, hB⟩
  obtain ⟨g3, rfl⟩ := grow g2 hB
  replace ha := ha.grow grows_bx hB
  replace hb := hb.grow grows_bx hB
  clear hB
  have QM1 := Lib.hid qM1
  have QM2 := Lib.hid qM2
  clear qM1 qM2
  go_wp2_with (fail)
  refine (r4sample vb a1 B fl1 k _ hb QB.out ((HF.out.1.grow hT0).grow g3.h) HF.out.2 hk6).mono ?_
  rintro e w' ⟨vp, P, rfl, qP1, qP2, hp, hB⟩
  obtain ⟨g4, rfl⟩ := grow g3 hB
  replace ha := ha.grow grows_bx hB
  replace hb := hb.grow grows_bx hB
  replace hm := hm.grow grows_pt hB
  clear hB
  have QP1 := Lib.hid qP1
  have QP2 := Lib.hid qP2
  clear qP1 qP2
  go_wp2_with (fail)
  refine (mul_k va vb A B k _ ha hb (qm_sq QA.out) (qm_sq QB.out) hk1 hk6).mono ?_
  rintro e w' ⟨vo, rfl, ho, hB⟩
  obtain ⟨g5, rfl⟩ := grow g4 hB
  replace ha := ha.grow grows_bx hB
  replace hb := hb.grow grows_bx hB
  replace hm := hm.grow grows_pt hB
  replace hp := hp.grow grows_pt hB
  clear hB
  have QO := Lib.hid (sq_mulT (qm_sq QA.out) (qm_sq QB.out))
  obtain ⟨po, co, rfl⟩ := ho.shape QO.out.1
  obtain ⟨pm, cm, rfl⟩ := hm.shape QM1.out
  go_wp2_with (fail)
  refine (r4valid _ (mulT k A B) k _ ho QO.out hk1 hk6).mono ?_
  rintro e w' ⟨rfl, hB⟩
  obtain ⟨g6, rfl⟩ := grow g5 hB
  replace ha := ha.grow grows_bx hB
  replace hb := hb.grow grows_bx hB
  replace ho := ho.grow grows_bx hB
  replace hm := hm.grow grows_pt hB
  replace hp := hp.grow grows_pt hB
  clear hB
  have hT := below_then hT0 g6.h
  obtain ⟨W9, hW9⟩ : ∃ W9, g6.w = W9 := ⟨_, rfl⟩
  rw [hW9] at ho hm hp hT ⊢
  have HO := Lib.hid ho
  have HM := Lib.hid hm
  have HP := Lib.hid hp
  clear ho hm hp ha hb hW9
  go_wp2_with (fail)
  go_loopw [12] (fun u wr => ∃ i : Nat, u = .int .i64 i ∧ i ≤ k ∧ Below W9.heap.size W9 wr) (fun i _ => k - (intOf i).toNat)
  case atStart => exact ⟨0, rfl, Nat.zero_le _, Below.refl _ _⟩
  case round =>
    obtain ⟨i, rfl, hi, hB⟩ := hrel
    by_cases hlt : i < k
    · have ii : (i : Int) < k := by omega
      go_wp2_with (fail)
      go_loopw [13] (fun u wr => ∃ j : Nat, u = .int .i64 j ∧ j ≤ k ∧ Below W9.heap.size W9 wr) (fun i _ => k - (intOf i).toNat)
      case atStart => exact ⟨0, rfl, Nat.zero_le _, hB⟩
      case round =>
        clear hB
        obtain ⟨j, rfl, hj, hB⟩ := hrel
        by_cases hjk : j < k
        · have ij : (j : Int) < k := by omega
          obtain ⟨r, hr⟩ : ∃ r, A[i]? = some r := ⟨_, List.getElem?_eq_getElem (by rw [QA.out.1]; exact hlt)⟩
          obtain ⟨m, hmj⟩ : ∃ m, M[i]? = some m := ⟨_, List.getElem?_eq_getElem (by rw [QM1.out]; exact hlt)⟩
          obtain ⟨ro, hro⟩ : ∃ ro, (mulT k A B)[i]? = some ro := ⟨_, List.getElem?_eq_getElem (by rw [QO.out.1]; exact hlt)⟩
          obtain ⟨hrol, hrov⟩ := QO.out.2 ro (List.mem_of_getElem? hro)
          obtain ⟨hrl, hrv⟩ := QA.out.2 r (List.mem_of_getElem? hr)
          obtain ⟨hml, hmi⟩ := QM2.out i r m hr hmj
          obtain ⟨x, y, hxy⟩ : ∃ x y, ro[j]? = some (x, y) := ⟨(ro[j]'(by omega)).1, (ro[j]'(by omega)).2, List.getElem?_eq_getElem _⟩
          have hvb : VB (x, y) := hrov _ (List.mem_of_getElem? hxy)
          have hcol := col_in QB.out QP1.out QP2.out hjk
          have hcl : (colL P j).length = k := by unfold colL; rw [List.length_map, QP1.out]
          have hbl : (rowOf (trF (0, 0) B) k j).length = k := by simp [rowOf]
          have hbs := col_sm QB.out hjk
          have hcd : contS (x, y) (dotN m (colL P j)) := by
            have e : dotI (r.zip (rowOf (trF (0, 0) B) k j)) = (x, y) := by
              have e1 : (mulT k A B)[i]? = some ((trM k B).map fun c => dotI (r.zip c)) := by unfold mulT mulM; rw [List.getElem?_map, hr, Option.map_some]
              rw [hro] at e1
              have e2 := Option.some.inj e1
              rw [e2] at hxy
              have e3 : (trM k B)[j]? = some (rowOf (trF (0, 0) B) k j) := by unfold trM matOf; rw [List.getElem?_map, List.getElem?_range hjk]; rfl
              rw [List.getElem?_map, e3, Option.map_some] at hxy
              exact Option.some.inj hxy
            rw [← e]
            exact cont_dot (inz_of (by rw [hml, hrl]) (by rw [hbl, hrl]) (by rw [hcl, hrl]) hrv hbs hmi hcol)
          have bm1 := row_in_bd (by omega) hmi hrv
          have bp1 := row_in_bd (by omega) hcol hbs
          have hcolr' : ∀ q ∈ P, j < q.length := fun q hq => by
            obtain ⟨t, ht⟩ := List.getElem?_of_mem hq
            have htl : t < B.length := by have := (List.getElem?_eq_some_iff.1 ht).1; rw [QB.out.1]; rw [QP1.out] at this; exact this
            rw [(QP2.out t _ q (List.getElem?_eq_getElem htl) ht).1]
            exact hjk
          have hcolr := Lib.hid hcolr'
          obtain ⟨bo, oo, uo, hpo, hbo, rdo⟩ := HO.out.rd grows_bx hro
          subst hpo
          have huo := (rdo ⟨W9, Below.refl _ _⟩).2.2
          dsimp only at huo
          obtain ⟨po2, cr, rfl⟩ := huo.shape hrol
          obtain ⟨br, orr, rfl, hbr, rd⟩ := huo.rd2 hxy
          obtain ⟨bm, om, u, hpm, hbm, rdm⟩ := HM.out.rd grows_pt hmj
          subst hpm
          have hu := (rdm ⟨W9, Below.refl _ _⟩).2.2
          dsimp only at hu
          obtain ⟨pr, cq, rfl⟩ := pt_shape hu hml
          have f0 := fun g : Grown wr => (rdo ⟨g.w, below_then hB g.h⟩).2.1
          have f1 := fun g : Grown wr => (rd ⟨g.w, below_then hB g.h⟩).2.1
          have f2 := fun g : Grown wr => (rd ⟨g.w, below_then hB g.h⟩).2.2
          have f3 := fun g : Grown wr => (rdm ⟨g.w, below_then hB g.h⟩).2.1
          have hp2 := fun g : Grown wr => HP.out.grow grows_pt (below_then hB g.h)
          dsimp only at f0 f1 f2 f3
          have hdot := fun (g : Grown wr) vc (hc : Pt g.w vc (colL P j)) => r4dot _ _ m (colL P j) g.w (hu.grow (below_then hB g.h)) hc (by omega) (by rw [hcl, hml]) (zip_bd24 bm1 bp1)
          obtain ⟨S, hS⟩ : ∃ S, dotN m (colL P j) = S := ⟨_, rfl⟩
          rw [hS] at hcd
          simp only [hS] at hdot
          have HD := Lib.hid hdot
          have HC1 := Lib.hid (fun w => r4scaled x y S w hvb hcd)
          clear rd rdm rdo hdot hcd hvb bm1 bp1 hmi hml hrl hrv hr hmj hxy hS hu huo hro hrol hrov hcol hcl hbl hbs hcolr'
          go_wp2_with (fail)
          refine region_pred (lk [(52, fun u _ => u = .slice (some ⟨bo, oo, none⟩) k co), (53, fun u _ => u = .int .i64 (i : Int)), (54, fun u _ => u = .pointer (some ⟨bo, oo + i, none⟩)), (55, fun u _ => u = .slice (some ⟨br, orr, none⟩) k cr), (56, fun u _ => u = .int .i64 (j : Int)), (57, fun u _ => u = .pointer (some ⟨br, orr + j * 2, none⟩)), (58, fun u _ => u = .agg #[.int .i64 x, .int .i64 y]), (59, fun u _ => u = .slice (some ⟨bm, om, none⟩) k cm), (60, fun u _ => u = .int .i64 (i : Int)), (61, fun u _ => u = .pointer (some ⟨bm, om + i, none⟩)), (62, fun u _ => u = .slice pr k cq), (63, fun u w' => Nx w' u P), (64, fun u _ => u = .int .i64 (j : Int)), (65, fun u w' => Pt w' u (colL P j)), (66, fun u _ => u = .int .i64 S), (67, fun u _ => u = .bool true), (68, fun u _ => u = .bool false)]) (by kernel_rfl) (by kernel_rfl) (lk_steady _ ⟨steady_eq _, steady_eq _, steady_eq _, steady_eq _, steady_eq _, steady_eq _, steady_eq _, steady_eq _, steady_eq _, steady_eq _, steady_eq _, steady_nx _, steady_eq _, steady_pt _, steady_eq _, steady_eq _, steady_eq _, trivial⟩) ?_ ?_
          · refine ⟨?_, ?_, ?_, ?_, ?_, ?_, ?_, ?_, ?_, ?_, ?_, ?_, ?_, ?_, ?_, ?_, ?_, trivial⟩
            · refine ob_plain [11] rfl rfl fun aa g h => ?_
              have r0 := seen_out (v := .slice (some ⟨bo, oo, none⟩) k co) rfl rfl h.1
              have e0 := getD_of r0
              exact upon_value (v := .slice (some ⟨bo, oo, none⟩) k co) (by simp [go_sem, e0, r0]) (Below.refl _ _) rfl
            · refine ob_plain [12] rfl rfl fun aa g h => ?_
              have r0 := seen_out (v := .int .i64 (i : Int)) rfl rfl h.1
              have e0 := getD_of r0
              exact upon_value (v := .int .i64 (i : Int)) (by simp [go_sem, e0, r0]) (Below.refl _ _) rfl
            · refine ob_plain [52, 53] rfl rfl fun aa g h => ?_
              obtain ⟨_, r0, rfl⟩ := seen_in rfl h.1
              have e0 := getD_of r0
              obtain ⟨_, r1, rfl⟩ := seen_in rfl h.2.1
              have e1 := getD_of r1
              exact upon_value (v := .pointer (some ⟨bo, oo + i, none⟩)) (by simp [go_sem, e0, r0, e1, r1, ii]) (Below.refl _ _) rfl
            · refine ob_plain [54] rfl rfl fun aa g h => ?_
              obtain ⟨_, r0, rfl⟩ := seen_in rfl h.1
              have e0 := getD_of r0
              exact upon_value (v := .slice (some ⟨br, orr, none⟩) k cr) (by simp [go_sem, e0, r0, f0 g]) (Below.refl _ _) rfl
            · refine ob_plain [13] rfl rfl fun aa g h => ?_
              have r0 := seen_out (v := .int .i64 (j : Int)) rfl rfl h.1
              have e0 := getD_of r0
              exact upon_value (v := .int .i64 (j : Int)) (by simp [go_sem, e0, r0]) (Below.refl _ _) rfl
            · refine ob_plain [55, 56] rfl rfl fun aa g h => ?_
              obtain ⟨_, r0, rfl⟩ := seen_in rfl h.1
              have e0 := getD_of r0
              obtain ⟨_, r1, rfl⟩ := seen_in rfl h.2.1
              have e1 := getD_of r1
              exact upon_value (v := .pointer (some ⟨br, orr + j * 2, none⟩)) (by simp [go_sem, e0, r0, e1, r1, ij]) (Below.refl _ _) rfl
            · refine ob_plain [57] rfl rfl fun aa g h => ?_
              obtain ⟨_, r0, rfl⟩ := seen_in rfl h.1
              have e0 := getD_of r0
              exact upon_value (v := .agg #[.int .i64 x, .int .i64 y]) (by simp [go_sem, e0, r0, f1 g, f2 g]) (Below.refl _ _) rfl
            · refine ob_plain [9] rfl rfl fun aa g h => ?_
              have r0 := seen_out (v := .slice (some ⟨bm, om, none⟩) k cm) rfl rfl h.1
              have e0 := getD_of r0
              exact upon_value (v := .slice (some ⟨bm, om, none⟩) k cm) (by simp [go_sem, e0, r0]) (Below.refl _ _) rfl
            · refine ob_plain [12] rfl rfl fun aa g h => ?_
              have r0 := seen_out (v := .int .i64 (i : Int)) rfl rfl h.1
              have e0 := getD_of r0
              exact upon_value (v := .int .i64 (i : Int)) (by simp [go_sem, e0, r0]) (Below.refl _ _) rfl
            · refine ob_plain [59, 60] rfl rfl fun aa g h => ?_
              obtain ⟨_, r0, rfl⟩ := seen_in rfl h.1
              have e0 := getD_of r0
              obtain ⟨_, r1, rfl⟩ := seen_in rfl h.2.1
              have e1 := getD_of r1
              exact upon_value (v := .pointer (some ⟨bm, om + i, none⟩)) (by simp [go_sem, e0, r0, e1, r1, ii]) (Below.refl _ _) rfl
            · refine ob_plain [61] rfl rfl fun aa g h => ?_
              obtain ⟨_, r0, rfl⟩ := seen_in rfl h.1
              have e0 := getD_of r0
              exact upon_value (v := .slice pr k cq) (by simp [go_sem, e0, r0, f3 g]) (Below.refl _ _) rfl
            · refine ob_plain [10] rfl rfl fun aa g h => ?_
              have r0 := seen_out (v := vp) rfl rfl h.1
              have e0 := getD_of r0
              exact upon_value (v := vp) (by simp [go_sem, e0, r0]) (Below.refl _ _) (hp2 g)
            · refine ob_plain [13] rfl rfl fun aa g h => ?_
              have r0 := seen_out (v := .int .i64 (j : Int)) rfl rfl h.1
              have e0 := getD_of r0
              exact upon_value (v := .int .i64 (j : Int)) (by simp [go_sem, e0, r0]) (Below.refl _ _) rfl
            · refine ob_plain [63, 64] rfl rfl fun aa g h => ?_
              obtain ⟨v0, r0, p0⟩ := seen_in rfl h.1
              have e0 := getD_of r0
              obtain ⟨_, r1, rfl⟩ := seen_in rfl h.2.1
              have e1 := getD_of r1
              refine upon_enter (f := 20) (args := #[v0, .int .i64 (j : Int)]) (by simp [go_sem, e0, r0, e1, r1]) rfl ?_
              exact (r4column _ P j _ (p0) (by rw [QP1.out]; omega) hcolr.out).mono fun e w' ⟨u, he, hu, hB⟩ => ⟨u, he, hB, hu⟩
            · refine ob_plain [62, 65] rfl rfl fun aa g h => ?_
              obtain ⟨_, r0, rfl⟩ := seen_in rfl h.1
              have e0 := getD_of r0
              obtain ⟨v1, r1, p1⟩ := seen_in rfl h.2.1
              have e1 := getD_of r1
              refine upon_enter (f := 17) (args := #[.slice pr k cq, v1]) (by simp [go_sem, e0, r0, e1, r1]) rfl ?_
              exact (HD.out g _ (p1)).mono fun e w' ⟨he, hB⟩ => ⟨_, he, hB, rfl⟩
            · refine ob_plain [58, 66] rfl rfl fun aa g h => ?_
              obtain ⟨_, r0, rfl⟩ := seen_in rfl h.1
              have e0 := getD_of r0
              obtain ⟨_, r1, rfl⟩ := seen_in rfl h.2.1
              have e1 := getD_of r1
              refine upon_enter (f := 16) (args := #[.agg #[.int .i64 x, .int .i64 y], .int .i64 S]) (by simp [go_sem, e0, r0, e1, r1]) rfl ?_
              exact (HC1.out _).mono fun e w' ⟨he, hB⟩ => ⟨_, he, hB, rfl⟩
            · refine ob_plain [67] rfl rfl fun aa g h => ?_
              obtain ⟨_, r0, rfl⟩ := seen_in rfl h.1
              have e0 := getD_of r0
              exact upon_value (v := .bool false) (by simp [go_sem, e0, r0]) (Below.refl _ _) rfl
          · rintro w5 hB5 _ rfl _ rfl _ rfl _ rfl _ rfl _ rfl _ rfl _ rfl _ rfl _ rfl _ rfl u63 hu63 _ rfl u65 hu65 _ rfl _ rfl _ rfl
            simp only [Act.put, List.setIfInBounds_toArray, List.set_cons_succ, List.set_cons_zero]
            clear f0 f1 f2 f3 hp2
            rename_i K hK
            refine hK _ _ ?_
            clear hK K
            have hB6 := below_then hB hB5
            go_wp2_with (fail)
            go_roundw
            case rel => exact ⟨j + 1, by go_num, by omega, hB6⟩
            case measure => simp [intOf]; omega
        · obtain rfl : j = k := by omega
          go_wp2_with (fail)
          go_roundw
          case rel => exact ⟨i + 1, by go_num, by omega, hB⟩
          case measure => simp [intOf]; omega
    · obtain rfl : i = k := by omega
      go_wp2_with (fail)
      go_ret
      exact ⟨rfl, below_then hT hB⟩
end Go.Proofs.Ythejcoidgmaidaa
