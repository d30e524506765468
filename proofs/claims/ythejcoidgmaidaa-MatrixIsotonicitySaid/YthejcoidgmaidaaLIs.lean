/-
  law04: MatrixIsotonicity.
-/
import Derived.Test.YthejcoidgmaidaaIsoM
import Derived.Test.YthejcoidgmaidaaRead4
namespace Go.Proofs.Ythejcoidgmaidaa
open Go.ChangeShapes Go.WideShapes Go.ChangeAt Go.RowKit
set_option linter.unusedVariables false
set_option linter.unusedSimpArgs false
set_option maxRecDepth 100000
attribute [local irreducible] Calls

def IsoR (W2 : World) (Bd Be Od Oe cd ce k : Nat) (A B D E : List (List (Int × Int))) (vf : Value) (f : List (Int × Int)) (j : Nat) (wr : World) : Prop :=
  ∃ ud ue, OutM Bd wr (.slice (some ⟨Od, 0, none⟩) k cd) ud ((hulM A D k).take j ++ D.drop j) ∧ OutM Be wr (.slice (some ⟨Oe, 0, none⟩) k ce) ue ((hulM B E k).take j ++ E.drop j) ∧ Bx wr vf f ∧ Below W2.heap.size W2 wr
set_option maxHeartbeats 64000000 in
theorem isotone (w : World) (vA vB vC : Value) (n : Int) (la lb lc : List (Int × Int)) (hA : Bx w vA la ∧ I64 la) (hB : Bx w vB lb ∧ I64 lb) (hC : Bx w vC lc ∧ I64 lc) (hn : 0 ≤ n ∧ n < 256) (vD vE vF : Value) (n' : Int) (ld le lf : List (Int × Int)) (hD : Bx w vD ld ∧ I64 ld) (hE : Bx w vE le ∧ I64 le) (hF : Bx w vF lf ∧ I64 lf) (hn' : 0 ≤ n' ∧ n' < 256) :
    Calls Try.prog 5 #[.agg #[vA, vB, vC, .int .u8 n], .agg #[vD, vE, vF, .int .u8 n']] w fun e w' => e = .returned (.bool true) ∧ Below w.heap.size w w' := by
  obtain ⟨hn0, hn1⟩ := hn
  have hm0 : 0 ≤ n % 4 := Int.emod_nonneg _ (by decide)
  have hm1 : n % 4 < 4 := Int.emod_lt_of_pos _ (by decide)
  obtain ⟨k, hk⟩ : ∃ k : Nat, 1 + n % 4 = (k : Int) := ⟨(1 + n % 4).toNat, by omega⟩
  have hk1 : 1 ≤ k := by omega
  have hk4 : k ≤ 4 := by omega
  have hk6 : k ≤ 6 := by omega
  have HA := Lib.hid hA
  have HB := Lib.hid hB
  have HC := Lib.hid hC
  clear hA hB hC
  have HD := Lib.hid hD
  have HE := Lib.hid hE
  have HF := Lib.hid hF
  clear hD hE hF hn'
  go_enter Try.func5, Try.ntmps5
  go_wp2_with (fail)
  generalize hW0 : World.alloc (World.alloc w _) _ = W0
  have hT0 : Below w.heap.size w W0 := by subst hW0; exact (((Below.refl w.heap.size w).alloc (by go_size) _).alloc (by go_size) _)
  have Y0 : w.heap.size < W0.heap.size := by subst hW0; simp <;> omega
  have Y1 : w.heap.size + 1 < W0.heap.size := by subst hW0; simp <;> omega
  have F0_0 : ∀ g : Grown W0, g.w.cell? ⟨w.heap.size, 0, none⟩ = some (vA) := fun g => (g.cell Y0).trans (by subst hW0; simp [go_sem])
  have F0_1 : ∀ g : Grown W0, g.w.cell? ⟨w.heap.size, 1, none⟩ = some (vB) := fun g => (g.cell Y0).trans (by subst hW0; simp [go_sem])
  have F0_2 : ∀ g : Grown W0, g.w.cell? ⟨w.heap.size, 2, none⟩ = some (vC) := fun g => (g.cell Y0).trans (by subst hW0; simp [go_sem])
  have F0_3 : ∀ g : Grown W0, g.w.cell? ⟨w.heap.size, 3, none⟩ = some (.int .u8 n) := fun g => (g.cell Y0).trans (by subst hW0; simp [go_sem])
  have F1_0 : ∀ g : Grown W0, g.w.cell? ⟨w.heap.size + 1, 0, none⟩ = some (vD) := fun g => (g.cell Y1).trans (by subst hW0; simp [go_sem])
  have F1_1 : ∀ g : Grown W0, g.w.cell? ⟨w.heap.size + 1, 1, none⟩ = some (vE) := fun g => (g.cell Y1).trans (by subst hW0; simp [go_sem])
  have F1_2 : ∀ g : Grown W0, g.w.cell? ⟨w.heap.size + 1, 2, none⟩ = some (vF) := fun g => (g.cell Y1).trans (by subst hW0; simp [go_sem])
  have F1_3 : ∀ g : Grown W0, g.w.cell? ⟨w.heap.size + 1, 3, none⟩ = some (.int .u8 n') := fun g => (g.cell Y1).trans (by subst hW0; simp [go_sem])
  have H1_3 : ∀ g : Grown W0, g.w.frozen? ⟨w.heap.size + 1, 3, none⟩ = false := fun g => (g.frozen Y1).trans (by subst hW0; simp [go_sem])
  clear hW0
  obtain ⟨g0, hg0⟩ : ∃ g : Grown W0, W0 = g.w := ⟨⟨W0, Below.refl _ _⟩, rfl⟩
  rw [hg0]
  refine (sanity4 _).mono ?_
  rintro e w' ⟨rfl, hB⟩
  obtain ⟨g1, rfl⟩ := grow g0 hB
  clear hB hg0
  obtain ⟨W1, hW1⟩ : ∃ W1, g1.w.setCell ⟨w.heap.size + 1, 3, none⟩ (.int .u8 n) = W1 := ⟨_, rfl⟩
  have hT1 : Below w.heap.size w W1 := by rw [← hW1]; exact (below_then hT0 g1.h).setCell (p := ⟨w.heap.size + 1, 3, none⟩) (by simp) _
  have hs1 : W1.heap.size = g1.w.heap.size := by rw [← hW1, size_set]
  have Z0 : w.heap.size < W1.heap.size := by rw [hs1]; exact Nat.lt_of_lt_of_le Y0 g1.h.size
  have Z1 : w.heap.size + 1 < W1.heap.size := by rw [hs1]; exact Nat.lt_of_lt_of_le Y1 g1.h.size
  have G0_0 : ∀ g : Grown W1, g.w.cell? ⟨w.heap.size, 0, none⟩ = some (vA) := fun g => (g.cell Z0).trans (by rw [← hW1, World.cell?_setCell_other _ _ _ _ (by simp)]; exact F0_0 g1)
  have G0_1 : ∀ g : Grown W1, g.w.cell? ⟨w.heap.size, 1, none⟩ = some (vB) := fun g => (g.cell Z0).trans (by rw [← hW1, World.cell?_setCell_other _ _ _ _ (by simp)]; exact F0_1 g1)
  have G0_2 : ∀ g : Grown W1, g.w.cell? ⟨w.heap.size, 2, none⟩ = some (vC) := fun g => (g.cell Z0).trans (by rw [← hW1, World.cell?_setCell_other _ _ _ _ (by simp)]; exact F0_2 g1)
  have G0_3 : ∀ g : Grown W1, g.w.cell? ⟨w.heap.size, 3, none⟩ = some (.int .u8 n) := fun g => (g.cell Z0).trans (by rw [← hW1, World.cell?_setCell_other _ _ _ _ (by simp)]; exact F0_3 g1)
  have G1_0 : ∀ g : Grown W1, g.w.cell? ⟨w.heap.size + 1, 0, none⟩ = some (vD) := fun g => (g.cell Z1).trans (by rw [← hW1, World.cell?_setCell_other _ _ _ _ (by simp)]; exact F1_0 g1)
  have G1_1 : ∀ g : Grown W1, g.w.cell? ⟨w.heap.size + 1, 1, none⟩ = some (vE) := fun g => (g.cell Z1).trans (by rw [← hW1, World.cell?_setCell_other _ _ _ _ (by simp)]; exact F1_1 g1)
  have G1_2 : ∀ g : Grown W1, g.w.cell? ⟨w.heap.size + 1, 2, none⟩ = some (vF) := fun g => (g.cell Z1).trans (by rw [← hW1, World.cell?_setCell_other _ _ _ _ (by simp)]; exact F1_2 g1)
  have G1_3 : ∀ g : Grown W1, g.w.cell? ⟨w.heap.size + 1, 3, none⟩ = some (.int .u8 n) := fun g => (g.cell Z1).trans (by rw [← hW1]; exact World.cell?_setCell_same _ _ _ (F1_3 g1))
  clear Y0 Y1 Z0 Z1 hs1
  have HW1 := Lib.hid hW1
  clear hW1
  go_wp2_with (fail)
  clear F0_0 F0_1 F0_2 F0_3 F1_0 F1_1 F1_2 F1_3 H1_3
  rw [HW1.out]
  refine (law4made vA vB vC la lb lc n k _ (HA.out.1.grow hT1) (HB.out.1.grow hT1) (HC.out.1.grow hT1) HA.out.2 HB.out.2 HC.out.2 hn0 hn1 hk).mono ?_
  rintro e w' ⟨va, vb, vx, c, rfl, sA, sB, qcl, qcv, hx, hB⟩
  obtain ⟨A, qA, ha⟩ := smat_mx sA hk6
  obtain ⟨B, qB, hb⟩ := smat_mx sB hk6
  have QA : Hid (Sq k A) := Lib.hid qA
  have QB : Hid (Sq k B) := Lib.hid qB
  have Qcl := Lib.hid qcl
  have Qcv := Lib.hid qcv
  obtain ⟨g2, rfl⟩ := grow ⟨W1, Below.refl _ _⟩ hB
  clear hB sA sB qA qB qcl qcv
  have hT2 := below_then hT1 g2.h
  go_wp2_with (fail)
  clear G0_0 G0_1 G0_2 G0_3
  refine (law4made2 vD vE vF ld le lf n k _ (HD.out.1.grow hT2) (HE.out.1.grow hT2) (HF.out.1.grow hT2) HD.out.2 HE.out.2 HF.out.2 hn0 hn1 hk).mono ?_
  rintro e w' ⟨vd, ve, vf, f, rfl, ⟨Bd, ud, D, hBd, qD, hOD⟩, ⟨Be, ue, E, hBe, qE, hOE⟩, qfl, qfv, hf, hap, hB⟩
  clear G1_0 G1_1 G1_2 G1_3
  obtain ⟨Od, cd, rfl⟩ : ∃ Od cd, vd = .slice (some ⟨Od, 0, none⟩) k cd := by
    obtain ⟨O, R, c', c, hv, _⟩ := hOD.at (List.getElem?_eq_getElem (show 0 < D.length by rw [qD.1]; omega))
    rw [qD.1] at hv
    exact ⟨O, c', hv⟩
  obtain ⟨Oe, ce, rfl⟩ : ∃ Oe ce, ve = .slice (some ⟨Oe, 0, none⟩) k ce := by
    obtain ⟨O, R, c', c, hv, _⟩ := hOE.at (List.getElem?_eq_getElem (show 0 < E.length by rw [qE.1]; omega))
    rw [qE.1] at hv
    exact ⟨O, c', hv⟩
  have hne : Od ≠ Oe := fun e => hap Od rfl (by rw [e]; rfl)
  have hBd2 : g2.w.heap.size ≤ Od := Nat.le_trans hBd (hOD.out.lt Od rfl).1
  have hBe2 : g2.w.heap.size ≤ Oe := Nat.le_trans hBe (hOE.out.lt Oe rfl).1
  have QD : Hid (Sq k D) := Lib.hid qD
  have QE : Hid (Sq k E) := Lib.hid qE
  have Qfl := Lib.hid qfl
  have Qfv := Lib.hid qfv
  obtain ⟨pa, ca, rfl⟩ := ha.shape QA.out.1
  obtain ⟨pb, cb, rfl⟩ := hb.shape QB.out.1
  obtain ⟨W2, hW2⟩ : ∃ W2, g2.w = W2 := ⟨_, rfl⟩
  rw [hW2] at ha hb hx hB hT2 hBd2 hBe2
  have hR0 : Hid (IsoR W2 Bd Be Od Oe cd ce k A B D E vf f 0 w') := Lib.hid ⟨ud, ue, by
    rw [List.take_zero, List.drop_zero, List.nil_append]
    exact OutM.of hOD (fun r hr => by rw [(qD.2 r hr).1]; unfold maxLen; omega), by
    rw [List.take_zero, List.drop_zero, List.nil_append]
    exact OutM.of hOE (fun r hr => by rw [(qE.2 r hr).1]; unfold maxLen; omega), hf, hB⟩
  have HA2 := Lib.hid ha
  have HB2 := Lib.hid hb
  have HX2 := Lib.hid hx
  clear ha hb hx hB hBd hBe hOD hOE hf hap qD qE qfl qfv hW2 ud ue
  go_wp2_with (fail)
  go_loopw [12] (fun u wr => ∃ j : Nat, u = .int .i64 j ∧ j ≤ k ∧ Hid (IsoR W2 Bd Be Od Oe cd ce k A B D E vf f j wr)) (fun i _ => k - (intOf i).toNat)
  case atStart => exact ⟨0, rfl, Nat.zero_le _, hR0⟩
  case round =>
    clear hR0
    obtain ⟨j, rfl, hj, HR⟩ := hrel
    obtain ⟨ud, ue, hod, hoe, hf, hB⟩ := HR.out
    by_cases hlt : j < k
    · have ij : (j : Int) < k := by omega
      obtain ⟨ra, hra⟩ : ∃ r, A[j]? = some r := ⟨_, List.getElem?_eq_getElem (by rw [QA.out.1]; exact hlt)⟩
      obtain ⟨rb, hrb⟩ : ∃ r, B[j]? = some r := ⟨_, List.getElem?_eq_getElem (by rw [QB.out.1]; exact hlt)⟩
      obtain ⟨rd, hrd⟩ : ∃ r, D[j]? = some r := ⟨_, List.getElem?_eq_getElem (by rw [QD.out.1]; exact hlt)⟩
      obtain ⟨re, hre⟩ : ∃ r, E[j]? = some r := ⟨_, List.getElem?_eq_getElem (by rw [QE.out.1]; exact hlt)⟩
      have la1 := (QA.out.2 _ (List.mem_of_getElem? hra)).1
      have lb1 := (QB.out.2 _ (List.mem_of_getElem? hrb)).1
      have ld1 := (QD.out.2 _ (List.mem_of_getElem? hrd)).1
      have le1 := (QE.out.2 _ (List.mem_of_getElem? hre)).1
      have lhd : (hulM A D k).length = D.length := by rw [(sq_hul QA.out QD.out).1, QD.out.1]
      have lhe : (hulM B E k).length = E.length := by rw [(sq_hul QB.out QE.out).1, QE.out.1]
      have ldd : ((hulM A D k).take j ++ D.drop j).length = k := by rw [td_len lhd (by rw [lhd, QD.out.1]; exact hj), QD.out.1]
      have lee : ((hulM B E k).take j ++ E.drop j).length = k := by rw [td_len lhe (by rw [lhe, QE.out.1]; exact hj), QE.out.1]
      have atd : ((hulM A D k).take j ++ D.drop j)[j]? = some rd := by rw [td_at lhd (by rw [lhd, QD.out.1]; exact hj), hrd]
      have ate : ((hulM B E k).take j ++ E.drop j)[j]? = some re := by rw [td_at lhe (by rw [lhe, QE.out.1]; exact hj), hre]
      have setd : ((hulM A D k).take j ++ D.drop j).set j (hullL ra rd) = (hulM A D k).take (j + 1) ++ D.drop (j + 1) := td_set (by rw [hulM_at hlt, hullM_eq hra hrd]) lhd
      have sete : ((hulM B E k).take j ++ E.drop j).set j (hullL rb re) = (hulM B E k).take (j + 1) ++ E.drop (j + 1) := td_set (by rw [hulM_at hlt, hullM_eq hrb hre]) lhe
      obtain ⟨ba, oa, uA, hpa, hba, rdA⟩ := HA2.out.rd grows_bx hra
      obtain ⟨bb, ob, uB, hpb, hbb, rdB⟩ := HB2.out.rd grows_bx hrb
      subst hpa hpb
      obtain ⟨uD, hud, hcd, hbd, hsd⟩ := hod.slot ldd atd
      obtain ⟨uE, hue, hce, hbe, hse⟩ := hoe.slot lee ate
      have hOd1 := (hod.out.lt Od rfl).2
      have hOe1 := (hoe.out.lt Oe rfl).2
      have hodk := hod.out
      rw [ldd] at hodk
      have hoek := hoe.out
      rw [lee] at hoek
      have fA := fun g : Grown wr => (rdA ⟨g.w, below_then hB g.h⟩).2.1
      have fD := fun g : Grown wr => (g.cell hOd1).trans hcd
      have hHd := fun g : Grown wr => r3hull uA uD ra rd g.w (rdA ⟨g.w, below_then hB g.h⟩).2.2 (hbd.grow g.h) (by rw [la1, ld1]) (by omega)
      dsimp only at fA
      obtain ⟨pA, nA, cA, rfl⟩ := bx_sl (rdA ⟨W2, Below.refl _ _⟩).2.2
      obtain ⟨pD, nD, cD, rfl⟩ := hsd
      obtain ⟨pB, nB, cB, rfl⟩ := bx_sl (rdB ⟨W2, Below.refl _ _⟩).2.2
      obtain ⟨pE, nE, cE, rfl⟩ := hse
      have HHd := fun g => (Lib.hid hHd).out g
      have HRB := Lib.hid rdB
      have HOD := Lib.hid hod
      have HOE := Lib.hid hoe
      have HODK := Lib.hid hodk
      have HOEK := Lib.hid hoek
      have HATD := Lib.hid atd
      have HATE := Lib.hid ate
      have HLD := Lib.hid ldd
      have HLE := Lib.hid lee
      have HSD := Lib.hid setd
      have HSE := Lib.hid sete
      have HCD := Lib.hid hcd
      have HCE := Lib.hid hce
      have HBE := Lib.hid hbe
      have HFF := Lib.hid hf
      clear rdA rdB hod hoe hodk hoek atd ate ldd lee setd sete hcd hce hud hue hra hrb hrd hre lhd lhe hbd hbe hf hHd
      have HHd2 := Lib.hid HHd
      clear HHd
      go_wp2_with (fail)
      have HHd := HHd2.out
      refine region_pred_l (lk [(40, fun u _ => u = .slice (some ⟨Od, 0, none⟩) k cd), (41, fun u _ => u = .int .i64 (j : Int)), (42, fun u _ => u = .slice (some ⟨ba, oa, none⟩) k ca), (43, fun u _ => u = .int .i64 (j : Int)), (44, fun u _ => u = .pointer (some ⟨ba, oa + j, none⟩)), (45, fun u _ => u = (.slice pA nA cA)), (46, fun u _ => u = .slice (some ⟨Od, 0, none⟩) k cd), (47, fun u _ => u = .int .i64 (j : Int)), (48, fun u _ => u = .pointer (some ⟨Od, j, none⟩)), (49, fun u _ => u = (.slice pD nD cD)), (50, fun u w' => Bx w' u (hullL ra rd)), (51, fun u _ => u = .pointer (some ⟨Od, j, none⟩))]) 12 _ rfl (by kernel_rfl) (by kernel_rfl) (by kernel_rfl) (lk_steady _ ⟨steady_eq _, steady_eq _, steady_eq _, steady_eq _, steady_eq _, steady_eq _, steady_eq _, steady_eq _, steady_eq _, steady_eq _, steady_bx _, steady_eq _, trivial⟩) ?_ ?_
      · refine ⟨?_, ?_, ?_, ?_, ?_, ?_, ?_, ?_, ?_, ?_, ?_, ?_, ?_, trivial⟩
        · intro _
          refine ob_plain [9] rfl rfl fun aa g h => ?_
          have r0 := seen_out (v := .slice (some ⟨Od, 0, none⟩) k cd) rfl rfl h.1
          have e0 := getD_of r0
          exact upon_value (v := .slice (some ⟨Od, 0, none⟩) k cd) (by simp [go_sem, e0, r0]) (Below.refl _ _) rfl
        · intro _
          refine ob_plain [12] rfl rfl fun aa g h => ?_
          have r0 := seen_out (v := .int .i64 (j : Int)) rfl rfl h.1
          have e0 := getD_of r0
          exact upon_value (v := .int .i64 (j : Int)) (by simp [go_sem, e0, r0]) (Below.refl _ _) rfl
        · intro _
          refine ob_plain [6] rfl rfl fun aa g h => ?_
          have r0 := seen_out (v := .slice (some ⟨ba, oa, none⟩) k ca) rfl rfl h.1
          have e0 := getD_of r0
          exact upon_value (v := .slice (some ⟨ba, oa, none⟩) k ca) (by simp [go_sem, e0, r0]) (Below.refl _ _) rfl
        · intro _
          refine ob_plain [12] rfl rfl fun aa g h => ?_
          have r0 := seen_out (v := .int .i64 (j : Int)) rfl rfl h.1
          have e0 := getD_of r0
          exact upon_value (v := .int .i64 (j : Int)) (by simp [go_sem, e0, r0]) (Below.refl _ _) rfl
        · intro _
          refine ob_plain [42, 43] rfl rfl fun aa g h => ?_
          obtain ⟨_, r0, rfl⟩ := seen_in rfl h.1
          have e0 := getD_of r0
          obtain ⟨_, r1, rfl⟩ := seen_in rfl h.2.1
          have e1 := getD_of r1
          exact upon_value (v := .pointer (some ⟨ba, oa + j, none⟩)) (by simp [go_sem, e0, r0, e1, r1, ij]) (Below.refl _ _) rfl
        · intro _
          refine ob_plain [44] rfl rfl fun aa g h => ?_
          obtain ⟨_, r0, rfl⟩ := seen_in rfl h.1
          have e0 := getD_of r0
          exact upon_value (v := (.slice pA nA cA)) (by simp [go_sem, e0, r0, fA g]) (Below.refl _ _) rfl
        · intro _
          refine ob_plain [9] rfl rfl fun aa g h => ?_
          have r0 := seen_out (v := .slice (some ⟨Od, 0, none⟩) k cd) rfl rfl h.1
          have e0 := getD_of r0
          exact upon_value (v := .slice (some ⟨Od, 0, none⟩) k cd) (by simp [go_sem, e0, r0]) (Below.refl _ _) rfl
        · intro _
          refine ob_plain [12] rfl rfl fun aa g h => ?_
          have r0 := seen_out (v := .int .i64 (j : Int)) rfl rfl h.1
          have e0 := getD_of r0
          exact upon_value (v := .int .i64 (j : Int)) (by simp [go_sem, e0, r0]) (Below.refl _ _) rfl
        · intro _
          refine ob_plain [46, 47] rfl rfl fun aa g h => ?_
          obtain ⟨_, r0, rfl⟩ := seen_in rfl h.1
          have e0 := getD_of r0
          obtain ⟨_, r1, rfl⟩ := seen_in rfl h.2.1
          have e1 := getD_of r1
          exact upon_value (v := .pointer (some ⟨Od, j, none⟩)) (by simp [go_sem, e0, r0, e1, r1, ij]) (Below.refl _ _) rfl
        · intro _
          refine ob_plain [48] rfl rfl fun aa g h => ?_
          obtain ⟨_, r0, rfl⟩ := seen_in rfl h.1
          have e0 := getD_of r0
          exact upon_value (v := (.slice pD nD cD)) (by simp [go_sem, e0, r0, fD g]) (Below.refl _ _) rfl
        · intro _
          refine ob_plain [45, 49] rfl rfl fun aa g h => ?_
          obtain ⟨_, r0, rfl⟩ := seen_in rfl h.1
          have e0 := getD_of r0
          obtain ⟨_, r1, rfl⟩ := seen_in rfl h.2.1
          have e1 := getD_of r1
          refine upon_enter (f := 22) (args := #[(.slice pA nA cA), (.slice pD nD cD)]) (by simp [go_sem, e0, r0, e1, r1]) rfl ?_
          exact (HHd g).mono fun e w' ⟨u, he, hu, hB⟩ => ⟨u, he, hB, hu⟩
        · intro _
          refine ob_plain [40, 41] rfl rfl fun aa g h => ?_
          obtain ⟨_, r0, rfl⟩ := seen_in rfl h.1
          have e0 := getD_of r0
          obtain ⟨_, r1, rfl⟩ := seen_in rfl h.2.1
          have e1 := getD_of r1
          exact upon_value (v := .pointer (some ⟨Od, j, none⟩)) (by simp [go_sem, e0, r0, e1, r1, ij]) (Below.refl _ _) rfl
        · exact fun h => absurd rfl h
      rintro w5 hB5 _ rfl _ rfl _ rfl _ rfl _ rfl _ rfl _ rfl _ rfl _ rfl _ rfl vh hvh _ rfl
      simp only [Act.put, List.setIfInBounds_toArray, List.set_cons_succ, List.set_cons_zero]
      obtain ⟨p5, n5, c5, rfl⟩ := bx_sl hvh
      have hB6 : Below W2.heap.size W2 w5 := below_then hB hB5
      have hod5 := HOD.out.kept hB5
      have hoe5 := HOE.out.kept hB5
      have q0 := (hB5.cell (p := ⟨Od, j, none⟩) hOd1).trans HCD.out
      have z0 := (HODK.out.kept (grown_below hB5) (.inr (by simp [Value.ownBlock]))).frozenAt j
      have hodS := hod5.set HLD.out HATD.out hvh
      rw [HSD.out] at hodS
      have hoeS := hoe5.off (u' := .slice p5 n5 c5) hod5 HLD.out HATD.out (fun e => hne e.symm)
      have hfS := bx_off (z := .slice p5 n5 c5) (HFF.out.grow hB5) q0 ⟨_, _, _, rfl⟩
      have hB7 : Below W2.heap.size W2 (w5.setCell ⟨Od, j, none⟩ (.slice p5 n5 c5)) := hB6.setCell (p := ⟨Od, j, none⟩) hBd2 _
      have hce5 : (w5.setCell ⟨Od, j, none⟩ (.slice p5 n5 c5)).cell? ⟨Oe, j, none⟩ = some (.slice pE nE cE) := by
        rw [World.cell?_setCell_other _ _ _ _ (by simp [hne])]
        exact (hB5.cell (p := ⟨Oe, j, none⟩) hOe1).trans HCE.out
      have hbe5 := bx_off (z := .slice p5 n5 c5) (HBE.out.grow hB5) q0 ⟨_, _, _, rfl⟩
      refine ⟨_, by simp [go_sem, q0, z0]; rfl, ?_⟩
      rename_i K hK
      refine hK _ _ ?_
      clear hK K fA fD HHd HHd2
      obtain ⟨W6, hW6⟩ : ∃ W6, w5.setCell ⟨Od, j, none⟩ (.slice p5 n5 c5) = W6 := ⟨_, rfl⟩
      rw [hW6] at hodS hoeS hfS hB7 hce5 hbe5 ⊢
      have hOe6 : Oe < W6.heap.size := by rw [← hW6, size_set]; exact Nat.lt_of_lt_of_le hOe1 hB5.size
      have hoeK6 := hoeS.out
      rw [HLE.out] at hoeK6
      have fA := fun g : Grown W6 => (HRB.out ⟨g.w, below_then hB7 g.h⟩).2.1
      have fD := fun g : Grown W6 => (g.cell hOe6).trans hce5
      have HHe := fun g : Grown W6 => r3hull _ _ rb re g.w (HRB.out ⟨g.w, below_then hB7 g.h⟩).2.2 (hbe5.grow g.h) (by rw [lb1, le1]) (by omega)
      dsimp only at fA
      have HODS := Lib.hid hodS
      have HOES := Lib.hid hoeS
      have HFS := Lib.hid hfS
      have HOEK6 := Lib.hid hoeK6
      have HCE5 := Lib.hid hce5
      have HHe2 := Lib.hid HHe
      have FA := Lib.hid fA
      clear q0 z0 hodS hoeS hfS hoeK6 hce5 hbe5 hod5 hoe5 HHe hW6 hB6
      go_wp2_with (fail)
      have HHe := HHe2.out
      refine region_pred_l (lk [(52, fun u _ => u = .slice (some ⟨Oe, 0, none⟩) k ce), (53, fun u _ => u = .int .i64 (j : Int)), (54, fun u _ => u = .slice (some ⟨bb, ob, none⟩) k cb), (55, fun u _ => u = .int .i64 (j : Int)), (56, fun u _ => u = .pointer (some ⟨bb, ob + j, none⟩)), (57, fun u _ => u = (.slice pB nB cB)), (58, fun u _ => u = .slice (some ⟨Oe, 0, none⟩) k ce), (59, fun u _ => u = .int .i64 (j : Int)), (60, fun u _ => u = .pointer (some ⟨Oe, j, none⟩)), (61, fun u _ => u = (.slice pE nE cE)), (62, fun u w' => Bx w' u (hullL rb re)), (63, fun u _ => u = .pointer (some ⟨Oe, j, none⟩))]) 12 _ rfl (by kernel_rfl) (by kernel_rfl) (by kernel_rfl) (lk_steady _ ⟨steady_eq _, steady_eq _, steady_eq _, steady_eq _, steady_eq _, steady_eq _, steady_eq _, steady_eq _, steady_eq _, steady_eq _, steady_bx _, steady_eq _, trivial⟩) ?_ ?_
      · refine ⟨?_, ?_, ?_, ?_, ?_, ?_, ?_, ?_, ?_, ?_, ?_, ?_, ?_, trivial⟩
        · intro _
          refine ob_plain [10] rfl rfl fun aa g h => ?_
          have r0 := seen_out (v := .slice (some ⟨Oe, 0, none⟩) k ce) rfl rfl h.1
          have e0 := getD_of r0
          exact upon_value (v := .slice (some ⟨Oe, 0, none⟩) k ce) (by simp [go_sem, e0, r0]) (Below.refl _ _) rfl
        · intro _
          refine ob_plain [12] rfl rfl fun aa g h => ?_
          have r0 := seen_out (v := .int .i64 (j : Int)) rfl rfl h.1
          have e0 := getD_of r0
          exact upon_value (v := .int .i64 (j : Int)) (by simp [go_sem, e0, r0]) (Below.refl _ _) rfl
        · intro _
          refine ob_plain [7] rfl rfl fun aa g h => ?_
          have r0 := seen_out (v := .slice (some ⟨bb, ob, none⟩) k cb) rfl rfl h.1
          have e0 := getD_of r0
          exact upon_value (v := .slice (some ⟨bb, ob, none⟩) k cb) (by simp [go_sem, e0, r0]) (Below.refl _ _) rfl
        · intro _
          refine ob_plain [12] rfl rfl fun aa g h => ?_
          have r0 := seen_out (v := .int .i64 (j : Int)) rfl rfl h.1
          have e0 := getD_of r0
          exact upon_value (v := .int .i64 (j : Int)) (by simp [go_sem, e0, r0]) (Below.refl _ _) rfl
        · intro _
          refine ob_plain [54, 55] rfl rfl fun aa g h => ?_
          obtain ⟨_, r0, rfl⟩ := seen_in rfl h.1
          have e0 := getD_of r0
          obtain ⟨_, r1, rfl⟩ := seen_in rfl h.2.1
          have e1 := getD_of r1
          exact upon_value (v := .pointer (some ⟨bb, ob + j, none⟩)) (by simp [go_sem, e0, r0, e1, r1, ij]) (Below.refl _ _) rfl
        · intro _
          refine ob_plain [56] rfl rfl fun aa g h => ?_
          obtain ⟨_, r0, rfl⟩ := seen_in rfl h.1
          have e0 := getD_of r0
          exact upon_value (v := (.slice pB nB cB)) (by simp [go_sem, e0, r0, fA g]) (Below.refl _ _) rfl
        · intro _
          refine ob_plain [10] rfl rfl fun aa g h => ?_
          have r0 := seen_out (v := .slice (some ⟨Oe, 0, none⟩) k ce) rfl rfl h.1
          have e0 := getD_of r0
          exact upon_value (v := .slice (some ⟨Oe, 0, none⟩) k ce) (by simp [go_sem, e0, r0]) (Below.refl _ _) rfl
        · intro _
          refine ob_plain [12] rfl rfl fun aa g h => ?_
          have r0 := seen_out (v := .int .i64 (j : Int)) rfl rfl h.1
          have e0 := getD_of r0
          exact upon_value (v := .int .i64 (j : Int)) (by simp [go_sem, e0, r0]) (Below.refl _ _) rfl
        · intro _
          refine ob_plain [58, 59] rfl rfl fun aa g h => ?_
          obtain ⟨_, r0, rfl⟩ := seen_in rfl h.1
          have e0 := getD_of r0
          obtain ⟨_, r1, rfl⟩ := seen_in rfl h.2.1
          have e1 := getD_of r1
          exact upon_value (v := .pointer (some ⟨Oe, j, none⟩)) (by simp [go_sem, e0, r0, e1, r1, ij]) (Below.refl _ _) rfl
        · intro _
          refine ob_plain [60] rfl rfl fun aa g h => ?_
          obtain ⟨_, r0, rfl⟩ := seen_in rfl h.1
          have e0 := getD_of r0
          exact upon_value (v := (.slice pE nE cE)) (by simp [go_sem, e0, r0, fD g]) (Below.refl _ _) rfl
        · intro _
          refine ob_plain [57, 61] rfl rfl fun aa g h => ?_
          obtain ⟨_, r0, rfl⟩ := seen_in rfl h.1
          have e0 := getD_of r0
          obtain ⟨_, r1, rfl⟩ := seen_in rfl h.2.1
          have e1 := getD_of r1
          refine upon_enter (f := 22) (args := #[(.slice pB nB cB), (.slice pE nE cE)]) (by simp [go_sem, e0, r0, e1, r1]) rfl ?_
          exact (HHe g).mono fun e w' ⟨u, he, hu, hB⟩ => ⟨u, he, hB, hu⟩
        · intro _
          refine ob_plain [52, 53] rfl rfl fun aa g h => ?_
          obtain ⟨_, r0, rfl⟩ := seen_in rfl h.1
          have e0 := getD_of r0
          obtain ⟨_, r1, rfl⟩ := seen_in rfl h.2.1
          have e1 := getD_of r1
          exact upon_value (v := .pointer (some ⟨Oe, j, none⟩)) (by simp [go_sem, e0, r0, e1, r1, ij]) (Below.refl _ _) rfl
        · exact fun h => absurd rfl h
      rintro w7 hB8 _ rfl _ rfl _ rfl _ rfl _ rfl _ rfl _ rfl _ rfl _ rfl _ rfl vk hvk _ rfl
      simp only [Act.put, List.setIfInBounds_toArray, List.set_cons_succ, List.set_cons_zero]
      obtain ⟨p7, n7, c7, rfl⟩ := bx_sl hvk
      have hod7 := HODS.out.kept hB8
      have hoe7 := HOES.out.kept hB8
      have q0 := (hB8.cell (p := ⟨Oe, j, none⟩) hOe6).trans HCE5.out
      have z0 := (HOEK6.out.kept (grown_below hB8) (.inr (by simp [Value.ownBlock]))).frozenAt j
      have hoeT := hoe7.set HLE.out HATE.out hvk
      rw [HSE.out] at hoeT
      have hodT := hod7.off (u' := .slice p7 n7 c7) hoe7 HLE.out HATE.out hne
      have hfT := bx_off (z := .slice p7 n7 c7) (HFS.out.grow hB8) q0 ⟨_, _, _, rfl⟩
      have hB9 : Below W2.heap.size W2 (w7.setCell ⟨Oe, j, none⟩ (.slice p7 n7 c7)) := (below_then hB7 hB8).setCell (p := ⟨Oe, j, none⟩) hBe2 _
      have HR9 : Hid (IsoR W2 Bd Be Od Oe cd ce k A B D E vf f (j + 1) (w7.setCell ⟨Oe, j, none⟩ (.slice p7 n7 c7))) := Lib.hid ⟨_, _, hodT, hoeT, hfT, hB9⟩
      refine ⟨_, by simp [go_sem, q0, z0]; rfl, ?_⟩
      rename_i K hK
      refine hK _ _ ?_
      clear hK K fA fD HHe HHe2 q0 z0 hod7 hoe7 hoeT hodT hfT
      go_wp2_with (fail)
      go_roundw
      case rel => exact ⟨j + 1, by go_num, by omega, HR9⟩
      case measure => simp [intOf]; omega
    · obtain rfl : j = k := by omega
      have sD := sq_hul QA.out QD.out
      have sE := sq_hul QB.out QE.out
      rw [List.take_of_length_le (by rw [sD.1]; exact Nat.le_refl _), List.drop_of_length_le (by rw [QD.out.1]; exact Nat.le_refl _), List.append_nil] at hod
      rw [List.take_of_length_le (by rw [sE.1]; exact Nat.le_refl _), List.drop_of_length_le (by rw [QE.out.1]; exact Nat.le_refl _), List.append_nil] at hoe
      have hd : Mx wr _ (hulM A D j) := hod.mx (by rw [sD.1]; unfold maxLen; omega)
      have he : Mx wr _ (hulM B E j) := hoe.mx (by rw [sE.1]; unfold maxLen; omega)
      have ha := HA2.out.grow grows_bx hB
      have hb := HB2.out.grow grows_bx hB
      have hx := HX2.out.grow hB
      have hTT : Below w.heap.size w wr := hT2.trans (hB.mono hT2.size)
      have SD := Lib.hid sD
      have SE := Lib.hid sE
      clear hod hoe sD sE HR
      go_wp2_with (fail)
      refine (r3hull _ _ c f _ hx hf (by rw [Qcl.out, Qfl.out]) (by rw [Qcl.out]; omega)).mono ?_
      rintro e w' ⟨vh, rfl, hh, hB1⟩
      replace ha := ha.grow grows_bx hB1
      replace hb := hb.grow grows_bx hB1
      replace hd := hd.grow grows_bx hB1
      replace he := he.grow grows_bx hB1
      replace hx := hx.grow hB1
      have hT5 := hTT.trans (hB1.mono hTT.size)
      clear hf hB1 hTT
      go_wp2_with (fail)
      refine (mul_k _ _ A B j _ ha hb QA.out QB.out hk1 hk6).mono ?_
      rintro e w' ⟨vp, rfl, hp, hB1⟩
      replace ha := ha.grow grows_bx hB1
      replace hd := hd.grow grows_bx hB1
      replace he := he.grow grows_bx hB1
      replace hx := hx.grow hB1
      replace hh := hh.grow hB1
      replace hT5 := hT5.trans (hB1.mono hT5.size)
      clear hb hB1
      go_wp2_with (fail)
      refine (mul_k _ _ (hulM A D j) (hulM B E j) j _ hd he SD.out SE.out hk1 hk6).mono ?_
      rintro e w' ⟨vq, rfl, hq, hB1⟩
      replace ha := ha.grow grows_bx hB1
      replace hd := hd.grow grows_bx hB1
      replace hp := hp.grow grows_bx hB1
      replace hx := hx.grow hB1
      replace hh := hh.grow hB1
      replace hT5 := hT5.trans (hB1.mono hT5.size)
      clear he hB1
      have sP := sq_mulT QA.out QB.out
      have sQ := sq_mulT SD.out SE.out
      obtain ⟨pp, cp, rfl⟩ := hp.shape sP.1
      obtain ⟨pq, cq, rfl⟩ := hq.shape sQ.1
      obtain ⟨W9, hW9⟩ : ∃ W9, w' = W9 := ⟨_, rfl⟩
      rw [hW9] at ha hd hp hq hx hh hT5 ⊢
      have HAA := Lib.hid ha
      have HDD := Lib.hid hd
      have HPP := Lib.hid hp
      have HQQ := Lib.hid hq
      have HXX := Lib.hid hx
      have HHH := Lib.hid hh
      have SP := Lib.hid sP
      have SQ := Lib.hid sQ
      clear ha hd hp hq hx hh sP sQ hW9
      go_wp2_with (fail)
      go_loopw [15] (fun u wr => ∃ i : Nat, u = .int .i64 i ∧ i ≤ j ∧ Below W9.heap.size W9 wr) (fun i _ => j - (intOf i).toNat)
      case atStart => exact ⟨0, rfl, Nat.zero_le _, Below.refl _ _⟩
      case round =>
        obtain ⟨i, rfl, hi, hBi⟩ := hrel
        by_cases hlt2 : i < j
        · have ii : (i : Int) < j := by omega
          obtain ⟨rp, hrp⟩ : ∃ r, (mulT j A B)[i]? = some r := ⟨_, List.getElem?_eq_getElem (by rw [SP.out.1]; exact hlt2)⟩
          obtain ⟨rq, hrq⟩ : ∃ r, (mulT j (hulM A D j) (hulM B E j))[i]? = some r := ⟨_, List.getElem?_eq_getElem (by rw [SQ.out.1]; exact hlt2)⟩
          have lp := (SP.out.2 _ (List.mem_of_getElem? hrp)).1
          have lq := (SQ.out.2 _ (List.mem_of_getElem? hrq)).1
          have hsub := sub_all (mul_iso_row QA.out QB.out QD.out QE.out hlt2 hrp hrq)
          obtain ⟨bp, op, uP, hpp, hbp, rdP⟩ := HPP.out.rd grows_bx hrp
          obtain ⟨bq, oq, uQ, hpq, hbq, rdQ⟩ := HQQ.out.rd grows_bx hrq
          subst hpp hpq
          obtain ⟨p1, c1, rfl⟩ := (rdP ⟨W9, Below.refl _ _⟩).2.2.shape lp
          obtain ⟨p2, c2, rfl⟩ := (rdQ ⟨W9, Below.refl _ _⟩).2.2.shape lq
          have fP := fun g : Grown wr => (rdP ⟨g.w, below_then hBi g.h⟩).2.1
          have fQ := fun g : Grown wr => (rdQ ⟨g.w, below_then hBi g.h⟩).2.1
          have hs := fun g : Grown wr => r3subset _ _ rp rq g.w (rdP ⟨g.w, below_then hBi g.h⟩).2.2 (rdQ ⟨g.w, below_then hBi g.h⟩).2.2 (by rw [lp, lq])
          rw [hsub] at hs
          dsimp only at fP fQ
          have HS := Lib.hid hs
          clear hs rdP rdQ hrp hrq lp lq hsub
          go_wp2_with (fail)
          refine region_pred (lk [(91, fun u _ => u = .slice (some ⟨bp, op, none⟩) j cp), (92, fun u _ => u = .int .i64 (i : Int)), (93, fun u _ => u = .pointer (some ⟨bp, op + i, none⟩)), (94, fun u _ => u = .slice p1 j c1), (95, fun u _ => u = .int .i64 (j : Int)), (96, fun u _ => u = .slice pa j ca), (97, fun u _ => u = .int .i64 (j : Int)), (98, fun u _ => u = .bool false), (99, fun u _ => u = .bool false), (100, fun u _ => u = .slice (some ⟨bq, oq, none⟩) j cq), (101, fun u _ => u = .int .i64 (i : Int)), (102, fun u _ => u = .pointer (some ⟨bq, oq + i, none⟩)), (103, fun u _ => u = .slice p2 j c2), (104, fun u _ => u = .int .i64 (j : Int)), (105, fun u _ => u = .slice pa j ca), (106, fun u _ => u = .int .i64 (j : Int)), (107, fun u _ => u = .bool false), (108, fun u _ => u = .bool false), (109, fun u _ => u = .bool false), (110, fun u _ => u = .slice (some ⟨bp, op, none⟩) j cp), (111, fun u _ => u = .int .i64 (i : Int)), (112, fun u _ => u = .pointer (some ⟨bp, op + i, none⟩)), (113, fun u _ => u = .slice p1 j c1), (114, fun u _ => u = .slice (some ⟨bq, oq, none⟩) j cq), (115, fun u _ => u = .int .i64 (i : Int)), (116, fun u _ => u = .pointer (some ⟨bq, oq + i, none⟩)), (117, fun u _ => u = .slice p2 j c2), (118, fun u _ => u = .bool true), (119, fun u _ => u = .bool false), (120, fun u _ => u = .bool false)]) (by kernel_rfl) (by kernel_rfl) (lk_steady _ ⟨steady_eq _, steady_eq _, steady_eq _, steady_eq _, steady_eq _, steady_eq _, steady_eq _, steady_eq _, steady_eq _, steady_eq _, steady_eq _, steady_eq _, steady_eq _, steady_eq _, steady_eq _, steady_eq _, steady_eq _, steady_eq _, steady_eq _, steady_eq _, steady_eq _, steady_eq _, steady_eq _, steady_eq _, steady_eq _, steady_eq _, steady_eq _, steady_eq _, steady_eq _, steady_eq _, trivial⟩) ?_ ?_
          · refine ⟨?_, ?_, ?_, ?_, ?_, ?_, ?_, ?_, ?_, ?_, ?_, ?_, ?_, ?_, ?_, ?_, ?_, ?_, ?_, ?_, ?_, ?_, ?_, ?_, ?_, ?_, ?_, ?_, ?_, ?_, trivial⟩
            · refine ob_plain [13] rfl rfl fun aa g h => ?_
              have r0 := seen_out (v := .slice (some ⟨bp, op, none⟩) j cp) rfl rfl h.1
              have e0 := getD_of r0
              exact upon_value (v := .slice (some ⟨bp, op, none⟩) j cp) (by simp [go_sem, e0, r0]) (Below.refl _ _) rfl
            · refine ob_plain [15] rfl rfl fun aa g h => ?_
              have r0 := seen_out (v := .int .i64 (i : Int)) rfl rfl h.1
              have e0 := getD_of r0
              exact upon_value (v := .int .i64 (i : Int)) (by simp [go_sem, e0, r0]) (Below.refl _ _) rfl
            · refine ob_plain [91, 92] rfl rfl fun aa g h => ?_
              obtain ⟨_, r0, rfl⟩ := seen_in rfl h.1
              have e0 := getD_of r0
              obtain ⟨_, r1, rfl⟩ := seen_in rfl h.2.1
              have e1 := getD_of r1
              exact upon_value (v := .pointer (some ⟨bp, op + i, none⟩)) (by simp [go_sem, e0, r0, e1, r1, ii]) (Below.refl _ _) rfl
            · refine ob_plain [93] rfl rfl fun aa g h => ?_
              obtain ⟨_, r0, rfl⟩ := seen_in rfl h.1
              have e0 := getD_of r0
              exact upon_value (v := .slice p1 j c1) (by simp [go_sem, e0, r0, fP g]) (Below.refl _ _) rfl
            · refine ob_plain [94] rfl rfl fun aa g h => ?_
              obtain ⟨_, r0, rfl⟩ := seen_in rfl h.1
              have e0 := getD_of r0
              exact upon_value (v := .int .i64 (j : Int)) (by simp [go_sem, e0, r0]) (Below.refl _ _) rfl
            · refine ob_plain [6] rfl rfl fun aa g h => ?_
              have r0 := seen_out (v := .slice pa j ca) rfl rfl h.1
              have e0 := getD_of r0
              exact upon_value (v := .slice pa j ca) (by simp [go_sem, e0, r0]) (Below.refl _ _) rfl
            · refine ob_plain [96] rfl rfl fun aa g h => ?_
              obtain ⟨_, r0, rfl⟩ := seen_in rfl h.1
              have e0 := getD_of r0
              exact upon_value (v := .int .i64 (j : Int)) (by simp [go_sem, e0, r0]) (Below.refl _ _) rfl
            · refine ob_plain [95, 97] rfl rfl fun aa g h => ?_
              obtain ⟨_, r0, rfl⟩ := seen_in rfl h.1
              have e0 := getD_of r0
              obtain ⟨_, r1, rfl⟩ := seen_in rfl h.2.1
              have e1 := getD_of r1
              exact upon_value (v := .bool false) (by simp [go_sem, e0, r0, e1, r1]) (Below.refl _ _) rfl
            · refine ob_plain [98] rfl rfl fun aa g h => ?_
              obtain ⟨_, r0, rfl⟩ := seen_in rfl h.1
              have e0 := getD_of r0
              exact upon_value (v := .bool false) (by simp [go_sem, e0, r0]) (Below.refl _ _) rfl
            · refine ob_gtrue [14] 8 false 99 rfl rfl rfl rfl (fun v w h => h) fun aa g h => ?_
              have r0 := seen_out (v := .slice (some ⟨bq, oq, none⟩) j cq) rfl rfl h.1
              have e0 := getD_of r0
              exact upon_value (v := .slice (some ⟨bq, oq, none⟩) j cq) (by simp [go_sem, e0, r0]) (Below.refl _ _) rfl
            · refine ob_gtrue [15] 8 false 99 rfl rfl rfl rfl (fun v w h => h) fun aa g h => ?_
              have r0 := seen_out (v := .int .i64 (i : Int)) rfl rfl h.1
              have e0 := getD_of r0
              exact upon_value (v := .int .i64 (i : Int)) (by simp [go_sem, e0, r0]) (Below.refl _ _) rfl
            · refine ob_gtrue [100, 101] 8 false 99 rfl rfl rfl rfl (fun v w h => h) fun aa g h => ?_
              obtain ⟨_, r0, rfl⟩ := seen_in rfl h.1
              have e0 := getD_of r0
              obtain ⟨_, r1, rfl⟩ := seen_in rfl h.2.1
              have e1 := getD_of r1
              exact upon_value (v := .pointer (some ⟨bq, oq + i, none⟩)) (by simp [go_sem, e0, r0, e1, r1, ii]) (Below.refl _ _) rfl
            · refine ob_gtrue [102] 8 false 99 rfl rfl rfl rfl (fun v w h => h) fun aa g h => ?_
              obtain ⟨_, r0, rfl⟩ := seen_in rfl h.1
              have e0 := getD_of r0
              exact upon_value (v := .slice p2 j c2) (by simp [go_sem, e0, r0, fQ g]) (Below.refl _ _) rfl
            · refine ob_gtrue [103] 8 false 99 rfl rfl rfl rfl (fun v w h => h) fun aa g h => ?_
              obtain ⟨_, r0, rfl⟩ := seen_in rfl h.1
              have e0 := getD_of r0
              exact upon_value (v := .int .i64 (j : Int)) (by simp [go_sem, e0, r0]) (Below.refl _ _) rfl
            · refine ob_gtrue [6] 8 false 99 rfl rfl rfl rfl (fun v w h => h) fun aa g h => ?_
              have r0 := seen_out (v := .slice pa j ca) rfl rfl h.1
              have e0 := getD_of r0
              exact upon_value (v := .slice pa j ca) (by simp [go_sem, e0, r0]) (Below.refl _ _) rfl
            · refine ob_gtrue [105] 8 false 99 rfl rfl rfl rfl (fun v w h => h) fun aa g h => ?_
              obtain ⟨_, r0, rfl⟩ := seen_in rfl h.1
              have e0 := getD_of r0
              exact upon_value (v := .int .i64 (j : Int)) (by simp [go_sem, e0, r0]) (Below.refl _ _) rfl
            · refine ob_gtrue [104, 106] 8 false 99 rfl rfl rfl rfl (fun v w h => h) fun aa g h => ?_
              obtain ⟨_, r0, rfl⟩ := seen_in rfl h.1
              have e0 := getD_of r0
              obtain ⟨_, r1, rfl⟩ := seen_in rfl h.2.1
              have e1 := getD_of r1
              exact upon_value (v := .bool false) (by simp [go_sem, e0, r0, e1, r1]) (Below.refl _ _) rfl
            · refine ob_plain [99, 107] rfl rfl fun aa g h => ?_
              obtain ⟨_, r0, rfl⟩ := seen_in rfl h.1
              have e0 := getD_of r0
              obtain ⟨_, r1, rfl⟩ := seen_in rfl h.2.1
              have e1 := getD_of r1
              exact upon_value (v := .bool false) (by simp [go_sem, e0, r0, e1, r1]) (Below.refl _ _) rfl
            · refine ob_plain [108] rfl rfl fun aa g h => ?_
              obtain ⟨_, r0, rfl⟩ := seen_in rfl h.1
              have e0 := getD_of r0
              exact upon_value (v := .bool false) (by simp [go_sem, e0, r0]) (Below.refl _ _) rfl
            · refine ob_gtrue [13] 18 false 109 rfl rfl rfl rfl (fun v w h => h) fun aa g h => ?_
              have r0 := seen_out (v := .slice (some ⟨bp, op, none⟩) j cp) rfl rfl h.1
              have e0 := getD_of r0
              exact upon_value (v := .slice (some ⟨bp, op, none⟩) j cp) (by simp [go_sem, e0, r0]) (Below.refl _ _) rfl
            · refine ob_gtrue [15] 18 false 109 rfl rfl rfl rfl (fun v w h => h) fun aa g h => ?_
              have r0 := seen_out (v := .int .i64 (i : Int)) rfl rfl h.1
              have e0 := getD_of r0
              exact upon_value (v := .int .i64 (i : Int)) (by simp [go_sem, e0, r0]) (Below.refl _ _) rfl
            · refine ob_gtrue [110, 111] 18 false 109 rfl rfl rfl rfl (fun v w h => h) fun aa g h => ?_
              obtain ⟨_, r0, rfl⟩ := seen_in rfl h.1
              have e0 := getD_of r0
              obtain ⟨_, r1, rfl⟩ := seen_in rfl h.2.1
              have e1 := getD_of r1
              exact upon_value (v := .pointer (some ⟨bp, op + i, none⟩)) (by simp [go_sem, e0, r0, e1, r1, ii]) (Below.refl _ _) rfl
            · refine ob_gtrue [112] 18 false 109 rfl rfl rfl rfl (fun v w h => h) fun aa g h => ?_
              obtain ⟨_, r0, rfl⟩ := seen_in rfl h.1
              have e0 := getD_of r0
              exact upon_value (v := .slice p1 j c1) (by simp [go_sem, e0, r0, fP g]) (Below.refl _ _) rfl
            · refine ob_gtrue [14] 18 false 109 rfl rfl rfl rfl (fun v w h => h) fun aa g h => ?_
              have r0 := seen_out (v := .slice (some ⟨bq, oq, none⟩) j cq) rfl rfl h.1
              have e0 := getD_of r0
              exact upon_value (v := .slice (some ⟨bq, oq, none⟩) j cq) (by simp [go_sem, e0, r0]) (Below.refl _ _) rfl
            · refine ob_gtrue [15] 18 false 109 rfl rfl rfl rfl (fun v w h => h) fun aa g h => ?_
              have r0 := seen_out (v := .int .i64 (i : Int)) rfl rfl h.1
              have e0 := getD_of r0
              exact upon_value (v := .int .i64 (i : Int)) (by simp [go_sem, e0, r0]) (Below.refl _ _) rfl
            · refine ob_gtrue [114, 115] 18 false 109 rfl rfl rfl rfl (fun v w h => h) fun aa g h => ?_
              obtain ⟨_, r0, rfl⟩ := seen_in rfl h.1
              have e0 := getD_of r0
              obtain ⟨_, r1, rfl⟩ := seen_in rfl h.2.1
              have e1 := getD_of r1
              exact upon_value (v := .pointer (some ⟨bq, oq + i, none⟩)) (by simp [go_sem, e0, r0, e1, r1, ii]) (Below.refl _ _) rfl
            · refine ob_gtrue [116] 18 false 109 rfl rfl rfl rfl (fun v w h => h) fun aa g h => ?_
              obtain ⟨_, r0, rfl⟩ := seen_in rfl h.1
              have e0 := getD_of r0
              exact upon_value (v := .slice p2 j c2) (by simp [go_sem, e0, r0, fQ g]) (Below.refl _ _) rfl
            · refine ob_gtrue [113, 117] 18 false 109 rfl rfl rfl rfl (fun v w h => h) fun aa g h => ?_
              obtain ⟨_, r0, rfl⟩ := seen_in rfl h.1
              have e0 := getD_of r0
              obtain ⟨_, r1, rfl⟩ := seen_in rfl h.2.1
              have e1 := getD_of r1
              refine upon_enter (f := 23) (args := #[.slice p1 j c1, .slice p2 j c2]) (by simp [go_sem, e0, r0, e1, r1]) rfl ?_
              exact (HS.out g).mono fun e w' ⟨he, hB⟩ => ⟨_, he, hB, rfl⟩
            · refine ob_gtrue [118] 18 false 109 rfl rfl rfl rfl (fun v w h => h) fun aa g h => ?_
              obtain ⟨_, r0, rfl⟩ := seen_in rfl h.1
              have e0 := getD_of r0
              exact upon_value (v := .bool false) (by simp [go_sem, e0, r0]) (Below.refl _ _) rfl
            · refine ob_plain [109, 119] rfl rfl fun aa g h => ?_
              obtain ⟨_, r0, rfl⟩ := seen_in rfl h.1
              have e0 := getD_of r0
              obtain ⟨_, r1, rfl⟩ := seen_in rfl h.2.1
              have e1 := getD_of r1
              exact upon_value (v := .bool false) (by simp [go_sem, e0, r0, e1, r1]) (Below.refl _ _) rfl
          rintro w10 hB10 _ rfl _ rfl _ rfl _ rfl _ rfl _ rfl _ rfl _ rfl _ rfl _ rfl _ rfl _ rfl _ rfl _ rfl _ rfl _ rfl _ rfl _ rfl _ rfl _ rfl _ rfl _ rfl _ rfl _ rfl _ rfl _ rfl _ rfl _ rfl _ rfl _ rfl
          simp only [Act.put, List.setIfInBounds_toArray, List.set_cons_succ, List.set_cons_zero]
          rename_i K hK
          refine hK _ _ ?_
          clear hK K fP fQ
          have hB11 := below_then hBi hB10
          go_wp2_with (fail)
          go_roundw
          case rel => exact ⟨i + 1, by go_num, by omega, hB11⟩
          case measure => simp [intOf]; omega
        · obtain rfl : i = j := by omega
          have ha := HAA.out.grow grows_bx hBi
          have hd := HDD.out.grow grows_bx hBi
          have hx := HXX.out.grow hBi
          have hh := HHH.out.grow hBi
          have hT10 := hT5.trans (hBi.mono hT5.size)
          go_wp2_with (fail)
          refine (apply_k _ _ A c i _ ha hx QA.out Qcl.out Qcv.out hk6).mono ?_
          rintro e w' ⟨vu, rfl, hu, hB1⟩
          replace hd := hd.grow grows_bx hB1
          replace hh := hh.grow hB1
          have hT11 := hT10.trans (hB1.mono hT10.size)
          have hfl : (hullL c f).length = i := by rw [hullL_len (by rw [Qcl.out, Qfl.out]), Qcl.out]
          clear ha hx hB1
          go_wp2_with (fail)
          refine (apply_k _ _ (hulM A D i) (hullL c f) i _ hd hh SD.out hfl (hullL_vl Qcv.out Qfv.out) hk6).mono ?_
          rintro e w' ⟨vv, rfl, hv, hB1⟩
          replace hu := hu.grow hB1
          have hT12 := hT11.trans (hB1.mono hT11.size)
          have lu : (apM A c).length = i := by unfold apM; rw [List.length_map, QA.out.1]
          have lv : (apM (hulM A D i) (hullL c f)).length = i := by unfold apM; rw [List.length_map, SD.out.1]
          obtain ⟨pu, cu, rfl⟩ := hu.shape lu
          obtain ⟨pv, cv, rfl⟩ := hv.shape lv
          have hsub := sub_all (ap_iso QA.out QD.out Qcl.out Qfl.out Qcv.out Qfv.out)
          have hs := r3subset _ _ _ _ w' hu hv (by rw [lu, lv])
          rw [hsub] at hs
          have HS := Lib.hid hs
          clear hd hh hu hv hB1 hsub hs lu lv hfl
          go_wp2_with (fail)
          refine HS.out.mono ?_
          rintro e w12 ⟨rfl, hB1⟩
          have hT13 := hT12.trans (hB1.mono hT12.size)
          clear hB1 HS
          go_wp2_with (fail)
          go_ret
          exact ⟨rfl, hT13⟩
end Go.Proofs.Ythejcoidgmaidaa
