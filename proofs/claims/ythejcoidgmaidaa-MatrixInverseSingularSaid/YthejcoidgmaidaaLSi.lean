/-
  law04: MatrixInverseSingular.
-/
import Derived.Test.YthejcoidgmaidaaSingM
import Derived.Test.YthejcoidgmaidaaRead4
import Derived.Test.YthejcoidgmaidaaR7
namespace Go.Proofs.Ythejcoidgmaidaa
open Go.ChangeShapes Go.WideShapes Go.ChangeAt Go.RowKit
set_option linter.unusedVariables false
set_option linter.unusedSimpArgs false
set_option maxRecDepth 100000
attribute [local irreducible] Calls

set_option maxHeartbeats 64000000 in
theorem singular (w : World) (vA vB vC : Value) (n : Int) (la lb lc : List (Int × Int)) (hA : Bx w vA la ∧ I64 la) (hB : Bx w vB lb ∧ I64 lb) (hC : Bx w vC lc ∧ I64 lc) (hn : 0 ≤ n ∧ n < 256) (a1 : Value) (fl1 : List Int) (hF : Us w a1 fl1 ∧ U16 fl1) (ra rb : Int) (hr01 : ∀ x ∈ [ra, rb], IntKind.has .u8 x) :
    Calls Try.prog 9 #[.agg #[vA, vB, vC, .int .u8 n], a1, .agg #[.int .u8 ra, .int .u8 rb]] w fun e w' => e = .returned (.bool true) ∧ Below w.heap.size w w' := by
  obtain ⟨hn0, hn1⟩ := hn
  have hm0 : 0 ≤ n % 4 := Int.emod_nonneg _ (by decide)
  have hm1 : n % 4 < 4 := Int.emod_lt_of_pos _ (by decide)
  obtain ⟨k, hk⟩ : ∃ k : Nat, 1 + n % 4 = (k : Int) := ⟨(1 + n % 4).toNat, by omega⟩
  have hk1 : 1 ≤ k := by omega
  have hk4 : k ≤ 4 := by omega
  have hk6 : k ≤ 6 := by omega
  have HA := Lib.hid hA
  have HB := Lib.hid hB
  have HC := Lib.hid hC
  clear hA hB hC
  have HF := Lib.hid hF
  clear hF
  have hr0 : 0 ≤ ra ∧ ra < 256 := by
    have := hr01 ra (by simp)
    unfold IntKind.has IntKind.min IntKind.max at this
    simp [IntKind.signed, IntKind.bits] at this
    omega
  have hr1 : 0 ≤ rb ∧ rb < 256 := by
    have := hr01 rb (by simp)
    unfold IntKind.has IntKind.min IntKind.max at this
    simp [IntKind.signed, IntKind.bits] at this
    omega
  clear hr01
  obtain ⟨i0, e0i, hi0⟩ : ∃ i : Nat, ra % (k : Int) = (i : Int) ∧ i < k := ⟨(ra % (k : Int)).toNat, by rw [Int.toNat_of_nonneg (Int.emod_nonneg _ (by omega))], by have := Int.emod_lt_of_pos ra (show (0 : Int) < k by omega); have := Int.emod_nonneg ra (show (k : Int) ≠ 0 by omega); omega⟩
  obtain ⟨k0, e1i, hk0⟩ : ∃ i : Nat, rb % (k : Int) = (i : Int) ∧ i < k := ⟨(rb % (k : Int)).toNat, by rw [Int.toNat_of_nonneg (Int.emod_nonneg _ (by omega))], by have := Int.emod_lt_of_pos rb (show (0 : Int) < k by omega); have := Int.emod_nonneg rb (show (k : Int) ≠ 0 by omega); omega⟩
  have e0j : ra.tmod (k : Int) = (i0 : Int) := by rw [Int.tmod_eq_emod_of_nonneg hr0.1, e0i]
  have e1j : rb.tmod (k : Int) = (k0 : Int) := by rw [Int.tmod_eq_emod_of_nonneg hr1.1, e1i]
  have wr0 := wrap_ok ra (by omega) (by omega)
  have wr1 := wrap_ok rb (by omega) (by omega)
  have kn0 : ¬ ((k : Int) = 0) := by omega
  have kn1 : ¬ (k = 0) := by omega
  have E1 := Lib.hid e0i
  have E2 := Lib.hid e1i
  have E3 := Lib.hid e0j
  have E4 := Lib.hid e1j
  have E5 := Lib.hid wr0
  have E6 := Lib.hid wr1
  clear e0i e1i e0j e1j wr0 wr1
  go_enter Try.func9, Try.ntmps9
  go_wp2_with (fail)
  generalize hW0 : World.alloc (World.alloc w _) _ = W0
  have hT0 : Below w.heap.size w W0 := by subst hW0; exact (((Below.refl w.heap.size w).alloc (by go_size) _).alloc (by go_size) _)
  have Y0 : w.heap.size < W0.heap.size := by subst hW0; simp <;> omega
  have Y1 : w.heap.size + 1 < W0.heap.size := by subst hW0; simp <;> omega
  have F0_0 : ∀ g : Grown W0, g.w.cell? ⟨w.heap.size, 0, none⟩ = some (vA) := fun g => (g.cell Y0).trans (by subst hW0; simp [go_sem])
  have F0_1 : ∀ g : Grown W0, g.w.cell? ⟨w.heap.size, 1, none⟩ = some (vB) := fun g => (g.cell Y0).trans (by subst hW0; simp [go_sem])
  have F0_2 : ∀ g : Grown W0, g.w.cell? ⟨w.heap.size, 2, none⟩ = some (vC) := fun g => (g.cell Y0).trans (by subst hW0; simp [go_sem])
  have F0_3 : ∀ g : Grown W0, g.w.cell? ⟨w.heap.size, 3, none⟩ = some (.int .u8 n) := fun g => (g.cell Y0).trans (by subst hW0; simp [go_sem])
  have F1_0 : ∀ g : Grown W0, g.w.cell? ⟨w.heap.size + 1, 0, none⟩ = some (.int .u8 ra) := fun g => (g.cell Y1).trans (by subst hW0; simp [go_sem])
  have F1_1 : ∀ g : Grown W0, g.w.cell? ⟨w.heap.size + 1, 1, none⟩ = some (.int .u8 rb) := fun g => (g.cell Y1).trans (by subst hW0; simp [go_sem])
  clear Y0 Y1 hW0
  obtain ⟨g0, hg0⟩ : ∃ g : Grown W0, W0 = g.w := ⟨⟨W0, Below.refl _ _⟩, rfl⟩
  rw [hg0]
  refine (sanity4 _).mono ?_
  rintro e w' ⟨rfl, hB⟩
  obtain ⟨g1, rfl⟩ := grow g0 hB
  clear hB hg0
  go_wp2_with (fail)
  refine (law4small vA vB vC la lb lc n k _ ((HA.out.1.grow hT0).grow g1.h) ((HB.out.1.grow hT0).grow g1.h) ((HC.out.1.grow hT0).grow g1.h) HA.out.2 HB.out.2 HC.out.2 hn0 hn1 hk).mono ?_
  rintro e w' ⟨va, vb, vx, c, rfl, ⟨BA, us, A, hBA, qA, hOA⟩, _, _, _, _, hB⟩
  have QA := Lib.hid qA
  obtain ⟨O, c', rfl⟩ := own_cut hOA qA.1 hk1
  have hBA0 : w.heap.size ≤ BA := Nat.le_trans (below_then hT0 g1.h).size hBA
  obtain ⟨g2, rfl⟩ := grow g1 hB
  clear hB qA hBA
  go_wp2_with (fail)
  have e0i := E1.out
  have e1i := E2.out
  have e0j := E3.out
  have e1j := E4.out
  have wr0 := E5.out
  have wr1 := E6.out
  have F1_0 : ∀ g : Grown g2.w, g.w.cell? ⟨w.heap.size + 1, 0, none⟩ = some (.int .u8 ra) := fun g => F1_0 ⟨g.w, below_then g2.h g.h⟩
  have F1_1 : ∀ g : Grown g2.w, g.w.cell? ⟨w.heap.size + 1, 1, none⟩ = some (.int .u8 rb) := fun g => F1_1 ⟨g.w, below_then g2.h g.h⟩
  refine region_pred (lk [(33, fun u _ => u = .pointer (some ⟨w.heap.size + 1, 0, none⟩)), (34, fun u _ => u = .int .u8 ra), (35, fun u _ => u = .int .i64 ra), (36, fun u _ => u = .int .i64 (k : Int)), (37, fun u _ => u = .int .i64 (i0 : Int)), (38, fun u _ => u = .pointer (some ⟨w.heap.size + 1, 1, none⟩)), (39, fun u _ => u = .int .u8 rb), (40, fun u _ => u = .int .i64 rb), (41, fun u _ => u = .int .i64 (k : Int)), (42, fun u _ => u = .int .i64 (k0 : Int)), (12, fun u _ => u = .int .i64 (i0 : Int)), (13, fun u _ => u = .int .i64 (k0 : Int))]) (by kernel_rfl) (by kernel_rfl) (lk_steady _ ⟨steady_eq _, steady_eq _, steady_eq _, steady_eq _, steady_eq _, steady_eq _, steady_eq _, steady_eq _, steady_eq _, steady_eq _, steady_eq _, steady_eq _, trivial⟩) ?_ ?_
  · refine ⟨?_, ?_, ?_, ?_, ?_, ?_, ?_, ?_, ?_, ?_, ?_, ?_, trivial⟩
    · refine ob_plain [5] rfl rfl fun aa g h => ?_
      have r0 := seen_out (v := .pointer (some ⟨w.heap.size + 1, 0, none⟩)) rfl rfl h.1
      have e0 := getD_of r0
      exact upon_value (v := .pointer (some ⟨w.heap.size + 1, 0, none⟩)) (by simp [go_sem, e0, r0]) (Below.refl _ _) rfl
    · refine ob_plain [33] rfl rfl fun aa g h => ?_
      obtain ⟨_, r0, rfl⟩ := seen_in rfl h.1
      have e0 := getD_of r0
      exact upon_value (v := .int .u8 ra) (by simp [go_sem, e0, r0, F1_0 g]) (Below.refl _ _) rfl
    · refine ob_plain [34] rfl rfl fun aa g h => ?_
      obtain ⟨_, r0, rfl⟩ := seen_in rfl h.1
      have e0 := getD_of r0
      exact upon_value (v := .int .i64 ra) (by simp [go_sem, e0, r0, wr0]) (Below.refl _ _) rfl
    · refine ob_plain [11] rfl rfl fun aa g h => ?_
      have r0 := seen_out (v := .int .i64 (k : Int)) rfl rfl h.1
      have e0 := getD_of r0
      exact upon_value (v := .int .i64 (k : Int)) (by simp [go_sem, e0, r0]) (Below.refl _ _) rfl
    · refine ob_plain [35, 36] rfl rfl fun aa g h => ?_
      obtain ⟨_, r0, rfl⟩ := seen_in rfl h.1
      have e0 := getD_of r0
      obtain ⟨_, r1, rfl⟩ := seen_in rfl h.2.1
      have e1 := getD_of r1
      exact upon_value (v := .int .i64 (i0 : Int)) (by simp [go_sem, e0, r0, e1, r1, e0i, e0j, kn1]) (Below.refl _ _) rfl
    · refine ob_plain [5] rfl rfl fun aa g h => ?_
      have r0 := seen_out (v := .pointer (some ⟨w.heap.size + 1, 0, none⟩)) rfl rfl h.1
      have e0 := getD_of r0
      exact upon_value (v := .pointer (some ⟨w.heap.size + 1, 1, none⟩)) (by simp [go_sem, e0, r0]) (Below.refl _ _) rfl
    · refine ob_plain [38] rfl rfl fun aa g h => ?_
      obtain ⟨_, r0, rfl⟩ := seen_in rfl h.1
      have e0 := getD_of r0
      exact upon_value (v := .int .u8 rb) (by simp [go_sem, e0, r0, F1_1 g]) (Below.refl _ _) rfl
    · refine ob_plain [39] rfl rfl fun aa g h => ?_
      obtain ⟨_, r0, rfl⟩ := seen_in rfl h.1
      have e0 := getD_of r0
      exact upon_value (v := .int .i64 rb) (by simp [go_sem, e0, r0, wr1]) (Below.refl _ _) rfl
    · refine ob_plain [11] rfl rfl fun aa g h => ?_
      have r0 := seen_out (v := .int .i64 (k : Int)) rfl rfl h.1
      have e0 := getD_of r0
      exact upon_value (v := .int .i64 (k : Int)) (by simp [go_sem, e0, r0]) (Below.refl _ _) rfl
    · refine ob_plain [40, 41] rfl rfl fun aa g h => ?_
      obtain ⟨_, r0, rfl⟩ := seen_in rfl h.1
      have e0 := getD_of r0
      obtain ⟨_, r1, rfl⟩ := seen_in rfl h.2.1
      have e1 := getD_of r1
      exact upon_value (v := .int .i64 (k0 : Int)) (by simp [go_sem, e0, r0, e1, r1, e1i, e1j, kn1]) (Below.refl _ _) rfl
    · refine ob_plain [37] rfl rfl fun aa g h => ?_
      obtain ⟨_, r0, rfl⟩ := seen_in rfl h.1
      have e0 := getD_of r0
      exact upon_value (v := .int .i64 (i0 : Int)) (by simp [go_sem, e0, r0]) (Below.refl _ _) rfl
    · refine ob_plain [42] rfl rfl fun aa g h => ?_
      obtain ⟨_, r0, rfl⟩ := seen_in rfl h.1
      have e0 := getD_of r0
      exact upon_value (v := .int .i64 (k0 : Int)) (by simp [go_sem, e0, r0]) (Below.refl _ _) rfl
  rintro w5 hB5 _ rfl _ rfl _ rfl _ rfl _ rfl _ rfl _ rfl _ rfl _ rfl _ rfl _ rfl _ rfl
  simp only [Act.put, List.setIfInBounds_toArray, List.set_cons_succ, List.set_cons_zero]
  rename_i K hK
  refine hK _ _ ?_
  clear hK K e0i e1i e0j e1j wr0 wr1 F1_0 F1_1 F0_0 F0_1 F0_2 F0_3
  replace hOA := hOA.kept hB5
  obtain ⟨g3, rfl⟩ := grow g2 hB5
  clear hB5
  go_wp2_with (fail)
  refine (r4sample_o _ a1 A fl1 k _ (qm_mx QA.out hOA hk6) QA.out ((HF.out.1.grow hT0).grow g3.h) HF.out.2 hk6).mono ?_
  rintro e w' ⟨vm, ps, P, rfl, qP1, qP2, hOP, hB⟩
  have QP1 := Lib.hid qP1
  have QP2 := Lib.hid qP2
  have hSz : ∀ R, R < g3.w.heap.size → R < g3.w.heap.size := fun _ h => h
  have hOA3 := hOA
  replace hOA := hOA.kept hB
  obtain ⟨W3, hW3⟩ : ∃ W3, g3.w.heap.size = W3 := ⟨_, rfl⟩
  rw [hW3] at hOP
  have hul : ∀ i R r c, us[i]? = some (Value.slice (some ⟨R, 0, none⟩) r c) → A[i]? ≠ none → R < W3 := fun i R r c h hn => by
    obtain ⟨ra, hra⟩ := Option.ne_none_iff_exists'.1 hn
    obtain ⟨R', c1, hu, _, _, _, h4, _⟩ := own_rowc hOA3 hra
    obtain ⟨e, _⟩ := own_slot hu h
    omega
  have HUL := Lib.hid hul
  obtain ⟨g4, rfl⟩ := grow g3 hB
  have hT4 := below_then hT0 g4.h
  obtain ⟨W4, hW4⟩ : ∃ W4, g4.w = W4 := ⟨_, rfl⟩
  rw [hW4] at hOA hOP hT4 ⊢
  have HOA := Lib.hid hOA
  have HOP := Lib.hid hOP
  clear hB qP1 qP2 hOA hOA3 hOP hSz hul hW4 hW3
  obtain ⟨pm, cm, rfl⟩ := (samp_nx HOP.out QP1.out QA.out.1 QP2.out hk6).shape QP1.out
  obtain ⟨T, hTT⟩ : ∃ T, tgt P i0 k0 = T := ⟨_, rfl⟩
  have hTb : ∀ j, -16777216 < T j ∧ T j < 16777216 := fun j => by
    rw [← hTT]
    unfold tgt
    split
    · decide
    · exact elP_bd QA.out QP1.out QP2.out k0 j
  have HTB := Lib.hid hTb
  have HTT := Lib.hid hTT
  have hs0 : Hid (matOf (hlF A i0 T 0) k = A) := Lib.hid (by
    have : hlF A i0 T 0 = elI A := by
      funext a b
      unfold hlF
      rw [if_neg (fun q => by have := q.2; omega)]
    rw [this]
    exact mat_el ⟨QA.out.1, fun r hr => (QA.out.2 r hr).1⟩)
  clear hTb hTT
  go_wp2_with (fail)
  go_loopw [15] (fun u wr => ∃ j : Nat, u = .int .i64 j ∧ j ≤ k ∧ Hid (OwnM BA wr (.slice (some ⟨O, 0, none⟩) k c') us (matOf (hlF A i0 T j) k)) ∧ Hid (OwnN W3 wr (.slice pm k cm) ps P) ∧ Below w.heap.size w wr) (fun i _ => k - (intOf i).toNat)
  case atStart => exact ⟨0, rfl, Nat.zero_le _, by rw [hs0.out]; exact HOA, HOP, hT4⟩
  case round =>
    clear HOA HOP hT4 hs0
    obtain ⟨j, rfl, hj, HOM, HON, hB⟩ := hrel
    by_cases hlt : j < k
    · have ij : (j : Int) < k := by omega
      have ii0 : (i0 : Int) < k := by omega
      have ik0 : (k0 : Int) < k := by omega
      have hrow := mat_row (F := hlF A i0 T j) hi0
      have hrl : (rowOf (hlF A i0 T j) k i0).length = k := by simp [rowOf]
      obtain ⟨R, c, hu, b1, b2, b3, b4, b5, hcell, hown⟩ := own_rowc HOM.out hrow
      have hRW := HUL.out i0 R _ c hu (by rw [List.getElem?_eq_getElem (by rw [QA.out.1]; exact hi0)]; simp)
      obtain ⟨x, y, hxy⟩ : ∃ x y, elI A i0 j = (x, y) := ⟨_, _, rfl⟩
      have hat : (rowOf (hlF A i0 T j) k i0)[j]? = some (x, y) := by
        rw [row_at hlt]
        unfold hlF
        rw [if_neg (fun q => by have := q.2; omega), hxy]
      have q0 := hown.cellAt (j * 2) (by rw [hrl]; omega)
      have q1 := hown.cellAt (j * 2 + 1) (by rw [hrl]; omega)
      rw [(cz_get _ _ _ hat).1] at q0
      rw [(cz_get _ _ _ hat).2] at q1
      dsimp only at q0 q1
      have hup := HOM.out.set (k := j) (x := min x (T j)) (y := max y (T j)) hrow hu
      have hup2 : (matOf (hlF A i0 T j) k).set i0 ((rowOf (hlF A i0 T j) k i0).set j (min x (T j), max y (T j))) = matOf (hlF A i0 T (j + 1)) k := by
        rw [mat_set _ hi0 hlt]
        have e : (min x (T j), max y (T j)) = hullI (elI A i0 j, (T j, T j)) := by rw [hxy]; rfl
        rw [e, hl_next]
      have HUP2 := Lib.hid hup2
      rw [hrl] at hcell hu
      have tb := HTB.out j
      have HTJ : Hid (T j = if i0 = k0 then 0 else elP P k0 j) := Lib.hid (by rw [← HTT.out]; rfl)
      have HROW := Lib.hid hrow
      have HU := Lib.hid hu
      have HOWN := Lib.hid hown
      have HAT := Lib.hid hat
      have HCELL := Lib.hid hcell
      have HQ0 := Lib.hid q0
      have HQ1 := Lib.hid q1
      obtain ⟨tj, htj⟩ : ∃ t, T j = t := ⟨_, rfl⟩
      rw [htj] at tb HTJ HUP2
      have HPT := Lib.hid (fun w => point_num (x := tj) (by unfold Num; omega) w)
      have HHL := Lib.hid (fun w => r2hull x y tj tj w)
      clear hup hup2 hrow hu hown hat hcell htj q0 q1 hxy
      have fin : ∀ w5, Below wr.heap.size wr w5 → Hid (OwnM BA ((w5.setCell ⟨R, j * 2, none⟩ (.int .i64 (min x tj))).setCell ⟨R, j * 2 + 1, none⟩ (.int .i64 (max y tj))) (.slice (some ⟨O, 0, none⟩) k c') us (matOf (hlF A i0 T (j + 1)) k)) ∧ Hid (OwnN W3 ((w5.setCell ⟨R, j * 2, none⟩ (.int .i64 (min x tj))).setCell ⟨R, j * 2 + 1, none⟩ (.int .i64 (max y tj))) (.slice pm k cm) ps P) ∧ Below w.heap.size w ((w5.setCell ⟨R, j * 2, none⟩ (.int .i64 (min x tj))).setCell ⟨R, j * 2 + 1, none⟩ (.int .i64 (max y tj))) := fun w5 hb5 => by
        have h1 := (HOM.out.kept hb5).set (k := j) (x := min x tj) (y := max y tj) HROW.out (by rw [show (rowOf (hlF A i0 T j) k i0).length = k by simp [rowOf]]; exact HU.out)
        rw [HUP2.out] at h1
        have h2 := HON.out.kept hb5
        have ho := HOWN.out.kept (grown_below hb5) (.inr (by simp [Value.ownBlock]))
        have h3 := h2.off (k := j * 2) (z := .int .i64 (min x tj)) hRW ho
        have h4 := h3.off (k := j * 2 + 1) (z := .int .i64 (max y tj)) hRW (ho.stored (j * 2) (.int .i64 (min x tj))).1
        exact ⟨Lib.hid h1, Lib.hid h4, ((hB.trans (hb5.mono hB.size)).setCell (p := ⟨R, j * 2, none⟩) (Nat.le_trans hBA0 b3) _).setCell (p := ⟨R, j * 2 + 1, none⟩) (Nat.le_trans hBA0 b3) _⟩
      have FIN := Lib.hid fin
      clear fin
      by_cases hik : i0 = k0
      · have hne : ((i0 : Int) != (k0 : Int)) = false := by simp; omega
        obtain rfl : tj = 0 := by rw [HTJ.out, if_pos hik]
        go_wp2_with (fail)
        refine region_data 16 37 _ (by kernel_rfl) new_iv (by kernel_rfl) ?_
        refine data_op (.slice (some ⟨O, 0, none⟩) k c') rfl (RQ_pure (fun w => by simp [go_sem])) ?_
        simp only [Act.put, List.setIfInBounds_toArray, List.set_cons_succ, List.set_cons_zero]
        refine data_op (.int .i64 (i0 : Int)) rfl (RQ_pure (fun w => by simp [go_sem])) ?_
        simp only [Act.put, List.setIfInBounds_toArray, List.set_cons_succ, List.set_cons_zero]
        refine data_op (.pointer (some ⟨O, i0, none⟩)) rfl (RQ_pure (fun w => by simp [go_sem, ii0])) ?_
        simp only [Act.put, List.setIfInBounds_toArray, List.set_cons_succ, List.set_cons_zero]
        refine data_op (.slice (some ⟨R, 0, none⟩) k c) rfl (RQ_load rfl rfl (load_sl (fun w h => by simp [go_sem, h]) b2 HCELL.out)) ?_
        simp only [Act.put, List.setIfInBounds_toArray, List.set_cons_succ, List.set_cons_zero]
        refine data_op (.int .i64 (j : Int)) rfl (RQ_pure (fun w => by simp [go_sem])) ?_
        simp only [Act.put, List.setIfInBounds_toArray, List.set_cons_succ, List.set_cons_zero]
        refine data_op (.slice (some ⟨O, 0, none⟩) k c') rfl (RQ_pure (fun w => by simp [go_sem])) ?_
        simp only [Act.put, List.setIfInBounds_toArray, List.set_cons_succ, List.set_cons_zero]
        refine data_op (.int .i64 (i0 : Int)) rfl (RQ_pure (fun w => by simp [go_sem])) ?_
        simp only [Act.put, List.setIfInBounds_toArray, List.set_cons_succ, List.set_cons_zero]
        refine data_op (.pointer (some ⟨O, i0, none⟩)) rfl (RQ_pure (fun w => by simp [go_sem, ii0])) ?_
        simp only [Act.put, List.setIfInBounds_toArray, List.set_cons_succ, List.set_cons_zero]
        refine data_op (.slice (some ⟨R, 0, none⟩) k c) rfl (RQ_load rfl rfl (load_sl (fun w h => by simp [go_sem, h]) b2 HCELL.out)) ?_
        simp only [Act.put, List.setIfInBounds_toArray, List.set_cons_succ, List.set_cons_zero]
        refine data_op (.int .i64 (j : Int)) rfl (RQ_pure (fun w => by simp [go_sem])) ?_
        simp only [Act.put, List.setIfInBounds_toArray, List.set_cons_succ, List.set_cons_zero]
        refine data_op (.pointer (some ⟨R, j * 2, none⟩)) rfl (RQ_pure (fun w => by simp [go_sem, ij])) ?_
        simp only [Act.put, List.setIfInBounds_toArray, List.set_cons_succ, List.set_cons_zero]
        refine data_op _ rfl (RQ_load rfl rfl (load_iv_at b4 HQ0.out HQ1.out)) ?_
        simp only [Act.put, List.setIfInBounds_toArray, List.set_cons_succ, List.set_cons_zero]
        refine data_op (.int .i64 0) rfl (RQ_pure (fun w => by simp [go_sem])) ?_
        simp only [Act.put, List.setIfInBounds_toArray, List.set_cons_succ, List.set_cons_zero]
        refine data_op _ rfl (RQ_call HPT.out (fun _ => by simp [go_sem])) ?_
        simp only [Act.put, List.setIfInBounds_toArray, List.set_cons_succ, List.set_cons_zero]
        refine data_op _ rfl (RQ_call HHL.out (fun _ => by simp [go_sem])) ?_
        simp only [Act.put, List.setIfInBounds_toArray, List.set_cons_succ, List.set_cons_zero]
        refine data_op (.pointer (some ⟨R, j * 2, none⟩)) rfl (RQ_pure (fun w => by simp [go_sem, ij])) ?_
        simp only [Act.put, List.setIfInBounds_toArray, List.set_cons_succ, List.set_cons_zero]
        refine data_end ?_
        intro w5 hB5
        simp only [Act.put, List.drop_succ_cons, List.drop_zero, List.take_succ_cons, List.take_zero, alDsts, List.filterMap_cons, List.filterMap_nil, isAl, Bool.false_eq_true, if_false, if_true, finK]
        obtain ⟨HOM5, HON5, hB6⟩ := FIN.out w5 hB5
        have s0 := (hB5.cell (p := ⟨R, j * 2, none⟩) b4).trans HQ0.out
        have s1 := (hB5.cell (p := ⟨R, j * 2 + 1, none⟩) b4).trans HQ1.out
        have ho := HOWN.out.kept (grown_below hB5) (.inr (by simp [Value.ownBlock]))
        have z0 := ho.frozenAt (j * 2)
        have z1 := ho.frozenAt (j * 2 + 1)
        clear ho
        go_wp2_with (fail)
        go_roundw
        case rel => exact ⟨j + 1, by go_num, by omega, HOM5, HON5, hB6⟩
        case measure => simp [intOf]; omega
      · have hne : ((i0 : Int) != (k0 : Int)) = true := by simp; omega
        have htj : elP P k0 j = tj := by rw [HTJ.out, if_neg hik]
        obtain ⟨mk, hpk, hml, hmj⟩ := samp_at QA.out QP1.out QP2.out hk0 hlt
        rw [htj] at hmj
        obtain ⟨bm, om, bq, oq, cq, rfl, g1', g2'⟩ := nx_open (samp_nx HON.out QP1.out QA.out.1 QP2.out hk6) hpk (by omega)
        have h1 := g1' ⟨wr, Below.refl _ _⟩
        have h2 := g2' ⟨wr, Below.refl _ _⟩ j _ hmj
        dsimp only at h1 h2
        rw [hml] at h1
        clear g1' g2' hpk hml hmj htj
        go_wp2_with (fail)
        clear h1 h2
        refine region_data 16 37 _ (by kernel_rfl) new_iv (by kernel_rfl) ?_
        refine data_op (.slice (some ⟨O, 0, none⟩) k c') rfl (RQ_pure (fun w => by simp [go_sem])) ?_
        simp only [Act.put, List.setIfInBounds_toArray, List.set_cons_succ, List.set_cons_zero]
        refine data_op (.int .i64 (i0 : Int)) rfl (RQ_pure (fun w => by simp [go_sem])) ?_
        simp only [Act.put, List.setIfInBounds_toArray, List.set_cons_succ, List.set_cons_zero]
        refine data_op (.pointer (some ⟨O, i0, none⟩)) rfl (RQ_pure (fun w => by simp [go_sem, ii0])) ?_
        simp only [Act.put, List.setIfInBounds_toArray, List.set_cons_succ, List.set_cons_zero]
        refine data_op (.slice (some ⟨R, 0, none⟩) k c) rfl (RQ_load rfl rfl (load_sl (fun w h => by simp [go_sem, h]) b2 HCELL.out)) ?_
        simp only [Act.put, List.setIfInBounds_toArray, List.set_cons_succ, List.set_cons_zero]
        refine data_op (.int .i64 (j : Int)) rfl (RQ_pure (fun w => by simp [go_sem])) ?_
        simp only [Act.put, List.setIfInBounds_toArray, List.set_cons_succ, List.set_cons_zero]
        refine data_op (.slice (some ⟨O, 0, none⟩) k c') rfl (RQ_pure (fun w => by simp [go_sem])) ?_
        simp only [Act.put, List.setIfInBounds_toArray, List.set_cons_succ, List.set_cons_zero]
        refine data_op (.int .i64 (i0 : Int)) rfl (RQ_pure (fun w => by simp [go_sem])) ?_
        simp only [Act.put, List.setIfInBounds_toArray, List.set_cons_succ, List.set_cons_zero]
        refine data_op (.pointer (some ⟨O, i0, none⟩)) rfl (RQ_pure (fun w => by simp [go_sem, ii0])) ?_
        simp only [Act.put, List.setIfInBounds_toArray, List.set_cons_succ, List.set_cons_zero]
        refine data_op (.slice (some ⟨R, 0, none⟩) k c) rfl (RQ_load rfl rfl (load_sl (fun w h => by simp [go_sem, h]) b2 HCELL.out)) ?_
        simp only [Act.put, List.setIfInBounds_toArray, List.set_cons_succ, List.set_cons_zero]
        refine data_op (.int .i64 (j : Int)) rfl (RQ_pure (fun w => by simp [go_sem])) ?_
        simp only [Act.put, List.setIfInBounds_toArray, List.set_cons_succ, List.set_cons_zero]
        refine data_op (.pointer (some ⟨R, j * 2, none⟩)) rfl (RQ_pure (fun w => by simp [go_sem, ij])) ?_
        simp only [Act.put, List.setIfInBounds_toArray, List.set_cons_succ, List.set_cons_zero]
        refine data_op _ rfl (RQ_load rfl rfl (load_iv_at b4 HQ0.out HQ1.out)) ?_
        simp only [Act.put, List.setIfInBounds_toArray, List.set_cons_succ, List.set_cons_zero]
        refine data_op (.int .i64 tj) rfl (RQ_pure (fun w => by simp [go_sem])) ?_
        simp only [Act.put, List.setIfInBounds_toArray, List.set_cons_succ, List.set_cons_zero]
        refine data_op _ rfl (RQ_call HPT.out (fun _ => by simp [go_sem])) ?_
        simp only [Act.put, List.setIfInBounds_toArray, List.set_cons_succ, List.set_cons_zero]
        refine data_op _ rfl (RQ_call HHL.out (fun _ => by simp [go_sem])) ?_
        simp only [Act.put, List.setIfInBounds_toArray, List.set_cons_succ, List.set_cons_zero]
        refine data_op (.pointer (some ⟨R, j * 2, none⟩)) rfl (RQ_pure (fun w => by simp [go_sem, ij])) ?_
        simp only [Act.put, List.setIfInBounds_toArray, List.set_cons_succ, List.set_cons_zero]
        refine data_end ?_
        intro w5 hB5
        simp only [Act.put, List.drop_succ_cons, List.drop_zero, List.take_succ_cons, List.take_zero, alDsts, List.filterMap_cons, List.filterMap_nil, isAl, Bool.false_eq_true, if_false, if_true, finK]
        obtain ⟨HOM5, HON5, hB6⟩ := FIN.out w5 hB5
        have s0 := (hB5.cell (p := ⟨R, j * 2, none⟩) b4).trans HQ0.out
        have s1 := (hB5.cell (p := ⟨R, j * 2 + 1, none⟩) b4).trans HQ1.out
        have ho := HOWN.out.kept (grown_below hB5) (.inr (by simp [Value.ownBlock]))
        have z0 := ho.frozenAt (j * 2)
        have z1 := ho.frozenAt (j * 2 + 1)
        clear ho
        go_wp2_with (fail)
        go_roundw
        case rel => exact ⟨j + 1, by go_num, by omega, HOM5, HON5, hB6⟩
        case measure => simp [intOf]; omega
    · obtain rfl : j = k := by omega
      have HNX := Lib.hid (samp_nx HON.out QP1.out QA.out.1 QP2.out hk6)
      have hqm := qm_mat (k := j) (hl_sm (c := j) (i0 := i0) QA.out HTB.out)
      have hmx := qm_mx hqm HOM.out hk6
      have hnone : invV (matOf (hlF A i0 T j) j) j = none := by rw [← HTT.out]; exact sing_none QA.out QP1.out QP2.out hi0 hk0
      have HI := Lib.hid (inv_ok _ _ j wr hmx (qm_sq hqm) hk1 hk6)
      have HNO := Lib.hid hnone
      have HOAj := Lib.hid HOM.out
      clear hmx hnone hqm HOM HON
      go_wp2_with (fail)
      refine HI.out.mono ?_
      rintro e w6 ⟨_, r2, hB6⟩
      obtain rfl := r2 HNO.out
      have hB7 := below_then hB hB6
      have HNX7 := Lib.hid (HNX.out.grow grows_pt hB6)
      clear r2 HI HNO hB6 hB HNX HOAj
      go_wp2_with (fail)
      refine (r4ident j w6 hk1 hk6).mono ?_
      rintro e w7 ⟨vd, ds, rfl, hOD, hB8⟩
      obtain ⟨Od, cd, rfl⟩ := own_cut hOD (by simp [matOf]) hk1
      obtain ⟨D, hDD⟩ : ∃ D, dia P = D := ⟨_, rfl⟩
      have hDb : ∀ i, 4 ≤ D i ∧ D i ≤ 33554432 := fun i => by rw [← hDD]; exact dia_bd QA.out QP1.out QP2.out i
      have hOD0 : Hid (OwnM w6.heap.size w7 (.slice (some ⟨Od, 0, none⟩) j cd) ds (matOf (dgC D 0) j)) := Lib.hid (by rw [dgC_zero]; exact hOD)
      have HDB := Lib.hid hDb
      have HDD := Lib.hid hDD
      clear hDb hDD hOD
      go_wp2_with (fail)
      go_loopw [20] (fun u wr => ∃ m : Nat, u = .int .i64 m ∧ m ≤ j ∧ Hid (OwnM w6.heap.size wr (.slice (some ⟨Od, 0, none⟩) j cd) ds (matOf (dgC D m) j)) ∧ Below w6.heap.size w6 wr) (fun i _ => j - (intOf i).toNat)
      case atStart => exact ⟨0, rfl, Nat.zero_le _, hOD0, hB8⟩
      case round =>
        clear hOD0 hB8
        obtain ⟨m, rfl, hm, HOM, hB⟩ := hrel
        by_cases hlt2 : m < j
        · have im : (m : Int) < j := by omega
          have hrow := mat_row (F := dgC D m) hlt2
          have hrl : (rowOf (dgC D m) j m).length = j := by simp [rowOf]
          obtain ⟨R, c, hu, b1, b2, b3, b4, b5, hcell, hown⟩ := own_rowc HOM.out hrow
          obtain ⟨x0, y0, hat⟩ : ∃ x y, (rowOf (dgC D m) j m)[m]? = some (x, y) := ⟨_, _, row_at hlt2⟩
          have q0 := hown.cellAt (m * 2) (by rw [hrl]; omega)
          have q1 := hown.cellAt (m * 2 + 1) (by rw [hrl]; omega)
          rw [(cz_get _ _ _ hat).1] at q0
          rw [(cz_get _ _ _ hat).2] at q1
          dsimp only at q0 q1
          have hup2 : (matOf (dgC D m) j).set m ((rowOf (dgC D m) j m).set m (D m, D m)) = matOf (dgC D (m + 1)) j := by
            rw [mat_set _ hlt2 hlt2, dgC_next]
          rw [hrl] at hcell hu
          obtain ⟨mk, hpk, hml, hmj⟩ := samp_at QA.out QP1.out QP2.out hlt2 hlt2
          obtain ⟨px, hel⟩ : ∃ x, elP P m m = x := ⟨_, rfl⟩
          rw [hel] at hmj
          have hpb := elP_bd QA.out QP1.out QP2.out m m
          rw [hel] at hpb
          have hDm : D m = max px (-px) + 4 := by rw [← HDD.out]; unfold dia; rw [hel]
          obtain ⟨bm, om, bq, oq, cq, rfl, g1', g2'⟩ := nx_open HNX7.out hpk (by omega)
          have h1 := g1' ⟨wr, hB⟩
          have h2 := g2' ⟨wr, hB⟩ m _ hmj
          dsimp only at h1 h2
          rw [hml] at h1
          have bm0 : bm < wr.heap.size := (cell_blk h1).1
          have bq0 : bq < wr.heap.size := (cell_blk h2).1
          obtain ⟨Dm, hDD2⟩ : ∃ d, D m = d := ⟨_, rfl⟩
          have hDmb := HDB.out m
          rw [hDD2] at hDm hup2 hDmb
          have HAB := Lib.hid (fun w => law4abs px w ⟨by omega, by omega⟩)
          have HPT := Lib.hid (fun w => point_num (x := Dm) (by unfold Num; omega) w)
          have HUP2 := Lib.hid hup2
          have HROW := Lib.hid hrow
          have HU := Lib.hid hu
          have HOWN := Lib.hid hown
          have HCELL := Lib.hid hcell
          have HQ0 := Lib.hid q0
          have HQ1 := Lib.hid q1
          have H1 := Lib.hid h1
          have H2 := Lib.hid h2
          have wD : IntKind.i64.wrap (max px (-px) + 4) = max px (-px) + 4 := wrap_ok _ (by omega) (by omega)
          have hDm' : max px (-px) + 4 = Dm := hDm.symm
          have WD := Lib.hid wD
          have HDm := Lib.hid hDm'
          have WDm := Lib.hid (wrap_ok Dm (by omega) (by omega))
          clear g1' g2' hpk hml hmj hel hup2 hrow hu hown hcell q0 q1 h1 h2 hDm hDD2 hat wD hDm'
          go_wp2_with (fail)
          refine region_data 16 37 _ (by kernel_rfl) new_iv (by kernel_rfl) ?_
          refine data_op (.slice (some ⟨Od, 0, none⟩) j cd) rfl (RQ_pure (fun w => by simp [go_sem])) ?_
          simp only [Act.put, List.setIfInBounds_toArray, List.set_cons_succ, List.set_cons_zero]
          refine data_op (.int .i64 (m : Int)) rfl (RQ_pure (fun w => by simp [go_sem])) ?_
          simp only [Act.put, List.setIfInBounds_toArray, List.set_cons_succ, List.set_cons_zero]
          refine data_op (.pointer (some ⟨Od, m, none⟩)) rfl (RQ_pure (fun w => by simp [go_sem, im])) ?_
          simp only [Act.put, List.setIfInBounds_toArray, List.set_cons_succ, List.set_cons_zero]
          refine data_op (.slice (some ⟨R, 0, none⟩) j c) rfl (RQ_load rfl rfl (load_sl (fun w h => by simp [go_sem, h]) b2 HCELL.out)) ?_
          simp only [Act.put, List.setIfInBounds_toArray, List.set_cons_succ, List.set_cons_zero]
          refine data_op (.int .i64 (m : Int)) rfl (RQ_pure (fun w => by simp [go_sem])) ?_
          simp only [Act.put, List.setIfInBounds_toArray, List.set_cons_succ, List.set_cons_zero]
          refine data_op (.slice (some ⟨bm, om, none⟩) j cm) rfl (RQ_pure (fun w => by simp [go_sem])) ?_
          simp only [Act.put, List.setIfInBounds_toArray, List.set_cons_succ, List.set_cons_zero]
          refine data_op (.int .i64 (m : Int)) rfl (RQ_pure (fun w => by simp [go_sem])) ?_
          simp only [Act.put, List.setIfInBounds_toArray, List.set_cons_succ, List.set_cons_zero]
          refine data_op (.pointer (some ⟨bm, om + m, none⟩)) rfl (RQ_pure (fun w => by simp [go_sem, im])) ?_
          simp only [Act.put, List.setIfInBounds_toArray, List.set_cons_succ, List.set_cons_zero]
          refine data_op (.slice (some ⟨bq, oq, none⟩) j cq) rfl (RQ_load rfl rfl (load_sl (fun w h => by simp [go_sem, h]) bm0 H1.out)) ?_
          simp only [Act.put, List.setIfInBounds_toArray, List.set_cons_succ, List.set_cons_zero]
          refine data_op (.int .i64 (m : Int)) rfl (RQ_pure (fun w => by simp [go_sem])) ?_
          simp only [Act.put, List.setIfInBounds_toArray, List.set_cons_succ, List.set_cons_zero]
          refine data_op (.pointer (some ⟨bq, oq + m, none⟩)) rfl (RQ_pure (fun w => by simp [go_sem, im])) ?_
          simp only [Act.put, List.setIfInBounds_toArray, List.set_cons_succ, List.set_cons_zero]
          refine data_op (.int .i64 px) rfl (RQ_load rfl rfl (load_i64c (fun w h => by simp [go_sem, h]) bq0 H2.out)) ?_
          simp only [Act.put, List.setIfInBounds_toArray, List.set_cons_succ, List.set_cons_zero]
          refine data_op _ rfl (RQ_call_same HAB.out (fun _ => by simp [go_sem])) ?_
          simp only [Act.put, List.setIfInBounds_toArray, List.set_cons_succ, List.set_cons_zero]
          refine data_op (.int .i64 Dm) rfl (RQ_pure (fun w => by simp [go_sem, WD.out, HDm.out, WDm.out])) ?_
          simp only [Act.put, List.setIfInBounds_toArray, List.set_cons_succ, List.set_cons_zero]
          refine data_op _ rfl (RQ_call HPT.out (fun _ => by simp [go_sem])) ?_
          simp only [Act.put, List.setIfInBounds_toArray, List.set_cons_succ, List.set_cons_zero]
          refine data_op (.pointer (some ⟨R, m * 2, none⟩)) rfl (RQ_pure (fun w => by simp [go_sem, im])) ?_
          simp only [Act.put, List.setIfInBounds_toArray, List.set_cons_succ, List.set_cons_zero]
          refine data_end ?_
          intro w5 hB5
          simp only [Act.put, List.drop_succ_cons, List.drop_zero, List.take_succ_cons, List.take_zero, alDsts, List.filterMap_cons, List.filterMap_nil, isAl, Bool.false_eq_true, if_false, if_true, finK]
          have s0 := (hB5.cell (p := ⟨R, m * 2, none⟩) b4).trans HQ0.out
          have s1 := (hB5.cell (p := ⟨R, m * 2 + 1, none⟩) b4).trans HQ1.out
          have ho := HOWN.out.kept (grown_below hB5) (.inr (by simp [Value.ownBlock]))
          have z0 := ho.frozenAt (m * 2)
          have z1 := ho.frozenAt (m * 2 + 1)
          have h1 := (HOM.out.kept hB5).set (k := m) (x := Dm) (y := Dm) HROW.out (by rw [show (rowOf (dgC D m) j m).length = j by simp [rowOf]]; exact HU.out)
          rw [HUP2.out] at h1
          have HM5 := Lib.hid h1
          have hB6 : Below w6.heap.size w6 ((w5.setCell ⟨R, m * 2, none⟩ (.int .i64 Dm)).setCell ⟨R, m * 2 + 1, none⟩ (.int .i64 Dm)) := ((hB.trans (hB5.mono hB.size)).setCell (p := ⟨R, m * 2, none⟩) b3 _).setCell (p := ⟨R, m * 2 + 1, none⟩) b3 _
          clear ho h1
          go_wp2_with (fail)
          go_roundw
          case rel => exact ⟨m + 1, by go_num, by omega, HM5, hB6⟩
          case measure => simp [intOf]; omega
        · obtain rfl : m = j := by omega
          have hqm : Sq m (matOf (dgC D m) m) := by rw [dgC_end]; exact dgF_sq HDB.out
          have hmx := HOM.out.mx (by simp [matOf]; unfold maxLen; omega) (fun r hr => by rw [(hqm.2 r hr).1]; unfold maxLen; omega)
          have hsome : invV (matOf (dgC D m) m) m = some (matOf (invD D) m) := by rw [dgC_end]; exact inv_diag HDB.out
          have HI := Lib.hid (inv_ok _ _ m wr hmx hqm hk1 hk6)
          have HSO := Lib.hid hsome
          clear hmx hsome hqm HOM
          go_wp2_with (fail)
          refine HI.out.mono ?_
          rintro e w8 ⟨rb, _, hB9⟩
          obtain ⟨vn, rfl, hn⟩ := rb _ HSO.out
          have hnl : (matOf (invD D) m).length = m := by simp [matOf]
          obtain ⟨pn, cn, rfl⟩ := hn.shape hnl
          have HN := Lib.hid hn
          have hB10 := below_then hB hB9
          have HNX8 := Lib.hid (HNX7.out.grow grows_pt hB10)
          have hB11 := below_then hB7 hB10
          clear rb HI HSO hn hnl hB9 hB hB10 hB7 HNX7
          go_wp2_with (fail)
          go_loopw [23] (fun u wr => ∃ j : Nat, u = .int .i64 j ∧ j ≤ m ∧ Below w8.heap.size w8 wr) (fun i _ => m - (intOf i).toNat)
          case atStart => exact ⟨0, rfl, Nat.zero_le _, Below.refl _ _⟩
          case round =>
            obtain ⟨j, rfl, hj, hB⟩ := hrel
            by_cases hlt3 : j < m
            · have ij : (j : Int) < m := by omega
              obtain ⟨mk, hpk, hml, hmj⟩ := samp_at QA.out QP1.out QP2.out hlt3 hlt3
              obtain ⟨x, hel⟩ : ∃ x, elP P j j = x := ⟨_, rfl⟩
              rw [hel] at hmj
              have hpb := elP_bd QA.out QP1.out QP2.out j j
              rw [hel] at hpb
              obtain ⟨Dj, hDD2⟩ : ∃ d, D j = d := ⟨_, rfl⟩
              have hDm : max x (-x) + 4 = Dj := by rw [← hDD2, ← HDD.out]; unfold dia; rw [hel]
              have hDmb := HDB.out j
              rw [hDD2] at hDmb
              have hq := quoD_val (d := Dj) hDmb.1
              obtain ⟨q1, q2, hqq⟩ : ∃ q1 q2, quoD Dj = (q1, q2) := ⟨_, _, rfl⟩
              have hrow := mat_row (F := invD D) hlt3
              have hrl : (rowOf (invD D) m j).length = m := by simp [rowOf]
              have hat : (rowOf (invD D) m j)[j]? = some (q1, q2) := by
                rw [row_at hlt3]
                unfold invD
                rw [if_pos rfl, hDD2, hqq]
              obtain ⟨bn, on, u, hpn, hbn, rdn⟩ := HN.out.rd grows_bx hrow
              subst hpn
              have hu := (rdn ⟨w8, Below.refl _ _⟩).2.2
              dsimp only at hu
              obtain ⟨pr, cr, rfl⟩ := hu.shape hrl
              obtain ⟨br, orr, rfl, hbr, rd⟩ := hu.rd2 hat
              obtain ⟨bm, om, bq, oq, cq, rfl, g1', g2'⟩ := nx_open HNX8.out hpk (by omega)
              have f0 := fun g : Grown wr => (rdn ⟨g.w, below_then hB g.h⟩).2.1
              have f1 := fun g : Grown wr => (rd ⟨g.w, below_then hB g.h⟩).2.1
              have f2 := fun g : Grown wr => (rd ⟨g.w, below_then hB g.h⟩).2.2
              have f3 := fun g : Grown wr => g1' ⟨g.w, below_then hB g.h⟩
              have f4 := fun g : Grown wr => g2' ⟨g.w, below_then hB g.h⟩ j _ hmj
              dsimp only at f0 f1 f2 f3 f4
              rw [hml] at f3
              have hdv := fun w => r2div 65536 65536 Dj Dj w vb_one (.inr ⟨⟨by omega, by omega⟩, ⟨by omega, by omega⟩, Int.le_refl _⟩)
              rw [show divLo 65536 65536 Dj Dj = q1 from congrArg Prod.fst hqq, show divHi 65536 65536 Dj Dj = q2 from congrArg Prod.snd hqq] at hdv
              have HDV := Lib.hid hdv
              have HP1 := Lib.hid (fun w => point_num (x := 65536) (by decide) w)
              have HPD := Lib.hid (fun w => point_num (x := Dj) (by unfold Num; omega) w)
              have HAB := Lib.hid (fun w => law4abs x w ⟨by omega, by omega⟩)
              have hD := hDm
              have wD := wrap_ok Dj (by omega) (by omega)
              clear g1' g2' hpk hml hmj hel hdv hq hqq hrow hrl hat rdn rd hu hDD2 hDm hpb
              have HD := Lib.hid hD
              have HWD := Lib.hid wD
              clear hD wD
              go_wp2_with (fail)
              have hD := HD.out
              have wD := HWD.out
              refine region_pred (lk [(124, fun u _ => u = .slice (some ⟨bn, on, none⟩) m cn), (125, fun u _ => u = .int .i64 (j : Int)), (126, fun u _ => u = .pointer (some ⟨bn, on + j, none⟩)), (127, fun u _ => u = .slice (some ⟨br, orr, none⟩) m cr), (128, fun u _ => u = .int .i64 (m : Int)), (129, fun u _ => u = .int .i64 (m : Int)), (130, fun u _ => u = .bool false), (131, fun u _ => u = .bool false), (132, fun u _ => u = .slice (some ⟨bn, on, none⟩) m cn), (133, fun u _ => u = .int .i64 (j : Int)), (134, fun u _ => u = .pointer (some ⟨bn, on + j, none⟩)), (135, fun u _ => u = .slice (some ⟨br, orr, none⟩) m cr), (136, fun u _ => u = .int .i64 (j : Int)), (137, fun u _ => u = .pointer (some ⟨br, orr + j * 2, none⟩)), (138, fun u _ => u = .agg #[.int .i64 q1, .int .i64 q2]), (139, fun u _ => u = .agg #[.int .i64 65536, .int .i64 65536]), (140, fun u _ => u = .slice (some ⟨bm, om, none⟩) m cm), (141, fun u _ => u = .int .i64 (j : Int)), (142, fun u _ => u = .pointer (some ⟨bm, om + j, none⟩)), (143, fun u _ => u = .slice (some ⟨bq, oq, none⟩) m cq), (144, fun u _ => u = .int .i64 (j : Int)), (145, fun u _ => u = .pointer (some ⟨bq, oq + j, none⟩)), (146, fun u _ => u = .int .i64 x), (147, fun u _ => u = .int .i64 (max x (-x))), (148, fun u _ => u = .int .i64 Dj), (149, fun u _ => u = .agg #[.int .i64 Dj, .int .i64 Dj]), (150, fun u _ => u = .agg #[.int .i64 q1, .int .i64 q2]), (151, fun u _ => u = .bool false), (152, fun u _ => u = .bool false)]) (by kernel_rfl) (by kernel_rfl) (lk_steady _ ⟨steady_eq _, steady_eq _, steady_eq _, steady_eq _, steady_eq _, steady_eq _, steady_eq _, steady_eq _, steady_eq _, steady_eq _, steady_eq _, steady_eq _, steady_eq _, steady_eq _, steady_eq _, steady_eq _, steady_eq _, steady_eq _, steady_eq _, steady_eq _, steady_eq _, steady_eq _, steady_eq _, steady_eq _, steady_eq _, steady_eq _, steady_eq _, steady_eq _, steady_eq _, trivial⟩) ?_ ?_
              · refine ⟨?_, ?_, ?_, ?_, ?_, ?_, ?_, ?_, ?_, ?_, ?_, ?_, ?_, ?_, ?_, ?_, ?_, ?_, ?_, ?_, ?_, ?_, ?_, ?_, ?_, ?_, ?_, ?_, ?_, trivial⟩
                · refine ob_plain [21] rfl rfl fun aa g h => ?_
                  have r0 := seen_out (v := .slice (some ⟨bn, on, none⟩) m cn) rfl rfl h.1
                  have e0 := getD_of r0
                  exact upon_value (v := .slice (some ⟨bn, on, none⟩) m cn) (by simp [go_sem, e0, r0]) (Below.refl _ _) rfl
                · refine ob_plain [23] rfl rfl fun aa g h => ?_
                  have r0 := seen_out (v := .int .i64 (j : Int)) rfl rfl h.1
                  have e0 := getD_of r0
                  exact upon_value (v := .int .i64 (j : Int)) (by simp [go_sem, e0, r0]) (Below.refl _ _) rfl
                · refine ob_plain [124, 125] rfl rfl fun aa g h => ?_
                  obtain ⟨_, r0, rfl⟩ := seen_in rfl h.1
                  have e0 := getD_of r0
                  obtain ⟨_, r1, rfl⟩ := seen_in rfl h.2.1
                  have e1 := getD_of r1
                  exact upon_value (v := .pointer (some ⟨bn, on + j, none⟩)) (by simp [go_sem, e0, r0, e1, r1, ij]) (Below.refl _ _) rfl
                · refine ob_plain [126] rfl rfl fun aa g h => ?_
                  obtain ⟨_, r0, rfl⟩ := seen_in rfl h.1
                  have e0 := getD_of r0
                  exact upon_value (v := .slice (some ⟨br, orr, none⟩) m cr) (by simp [go_sem, e0, r0, f0 g]) (Below.refl _ _) rfl
                · refine ob_plain [127] rfl rfl fun aa g h => ?_
                  obtain ⟨_, r0, rfl⟩ := seen_in rfl h.1
                  have e0 := getD_of r0
                  exact upon_value (v := .int .i64 (m : Int)) (by simp [go_sem, e0, r0]) (Below.refl _ _) rfl
                · refine ob_plain [11] rfl rfl fun aa g h => ?_
                  have r0 := seen_out (v := .int .i64 (m : Int)) rfl rfl h.1
                  have e0 := getD_of r0
                  exact upon_value (v := .int .i64 (m : Int)) (by simp [go_sem, e0, r0]) (Below.refl _ _) rfl
                · refine ob_plain [128, 129] rfl rfl fun aa g h => ?_
                  obtain ⟨_, r0, rfl⟩ := seen_in rfl h.1
                  have e0 := getD_of r0
                  obtain ⟨_, r1, rfl⟩ := seen_in rfl h.2.1
                  have e1 := getD_of r1
                  exact upon_value (v := .bool false) (by simp [go_sem, e0, r0, e1, r1]) (Below.refl _ _) rfl
                · refine ob_plain [130] rfl rfl fun aa g h => ?_
                  obtain ⟨_, r0, rfl⟩ := seen_in rfl h.1
                  have e0 := getD_of r0
                  exact upon_value (v := .bool false) (by simp [go_sem, e0, r0]) (Below.refl _ _) rfl
                · refine ob_gtrue [21] 7 false 131 rfl rfl rfl rfl (fun v w h => h) fun aa g h => ?_
                  have r0 := seen_out (v := .slice (some ⟨bn, on, none⟩) m cn) rfl rfl h.1
                  have e0 := getD_of r0
                  exact upon_value (v := .slice (some ⟨bn, on, none⟩) m cn) (by simp [go_sem, e0, r0]) (Below.refl _ _) rfl
                · refine ob_gtrue [23] 7 false 131 rfl rfl rfl rfl (fun v w h => h) fun aa g h => ?_
                  have r0 := seen_out (v := .int .i64 (j : Int)) rfl rfl h.1
                  have e0 := getD_of r0
                  exact upon_value (v := .int .i64 (j : Int)) (by simp [go_sem, e0, r0]) (Below.refl _ _) rfl
                · refine ob_gtrue [132, 133] 7 false 131 rfl rfl rfl rfl (fun v w h => h) fun aa g h => ?_
                  obtain ⟨_, r0, rfl⟩ := seen_in rfl h.1
                  have e0 := getD_of r0
                  obtain ⟨_, r1, rfl⟩ := seen_in rfl h.2.1
                  have e1 := getD_of r1
                  exact upon_value (v := .pointer (some ⟨bn, on + j, none⟩)) (by simp [go_sem, e0, r0, e1, r1, ij]) (Below.refl _ _) rfl
                · refine ob_gtrue [134] 7 false 131 rfl rfl rfl rfl (fun v w h => h) fun aa g h => ?_
                  obtain ⟨_, r0, rfl⟩ := seen_in rfl h.1
                  have e0 := getD_of r0
                  exact upon_value (v := .slice (some ⟨br, orr, none⟩) m cr) (by simp [go_sem, e0, r0, f0 g]) (Below.refl _ _) rfl
                · refine ob_gtrue [23] 7 false 131 rfl rfl rfl rfl (fun v w h => h) fun aa g h => ?_
                  have r0 := seen_out (v := .int .i64 (j : Int)) rfl rfl h.1
                  have e0 := getD_of r0
                  exact upon_value (v := .int .i64 (j : Int)) (by simp [go_sem, e0, r0]) (Below.refl _ _) rfl
                · refine ob_gtrue [135, 136] 7 false 131 rfl rfl rfl rfl (fun v w h => h) fun aa g h => ?_
                  obtain ⟨_, r0, rfl⟩ := seen_in rfl h.1
                  have e0 := getD_of r0
                  obtain ⟨_, r1, rfl⟩ := seen_in rfl h.2.1
                  have e1 := getD_of r1
                  exact upon_value (v := .pointer (some ⟨br, orr + j * 2, none⟩)) (by simp [go_sem, e0, r0, e1, r1, ij]) (Below.refl _ _) rfl
                · refine ob_gtrue [137] 7 false 131 rfl rfl rfl rfl (fun v w h => h) fun aa g h => ?_
                  obtain ⟨_, r0, rfl⟩ := seen_in rfl h.1
                  have e0 := getD_of r0
                  exact upon_value (v := .agg #[.int .i64 q1, .int .i64 q2]) (by simp [go_sem, e0, r0, f1 g, f2 g]) (Below.refl _ _) rfl
                · refine ob_gtrue [] 7 false 131 rfl rfl rfl rfl (fun v w h => h) fun aa g h => ?_
                  refine upon_enter (f := 35) (args := #[.int .i64 65536]) (by simp [go_sem]) rfl ?_
                  exact (HP1.out _).mono fun e w' ⟨he, hB⟩ => ⟨_, he, hB, rfl⟩
                · refine ob_gtrue [14] 7 false 131 rfl rfl rfl rfl (fun v w h => h) fun aa g h => ?_
                  have r0 := seen_out (v := .slice (some ⟨bm, om, none⟩) m cm) rfl rfl h.1
                  have e0 := getD_of r0
                  exact upon_value (v := .slice (some ⟨bm, om, none⟩) m cm) (by simp [go_sem, e0, r0]) (Below.refl _ _) rfl
                · refine ob_gtrue [23] 7 false 131 rfl rfl rfl rfl (fun v w h => h) fun aa g h => ?_
                  have r0 := seen_out (v := .int .i64 (j : Int)) rfl rfl h.1
                  have e0 := getD_of r0
                  exact upon_value (v := .int .i64 (j : Int)) (by simp [go_sem, e0, r0]) (Below.refl _ _) rfl
                · refine ob_gtrue [140, 141] 7 false 131 rfl rfl rfl rfl (fun v w h => h) fun aa g h => ?_
                  obtain ⟨_, r0, rfl⟩ := seen_in rfl h.1
                  have e0 := getD_of r0
                  obtain ⟨_, r1, rfl⟩ := seen_in rfl h.2.1
                  have e1 := getD_of r1
                  exact upon_value (v := .pointer (some ⟨bm, om + j, none⟩)) (by simp [go_sem, e0, r0, e1, r1, ij]) (Below.refl _ _) rfl
                · refine ob_gtrue [142] 7 false 131 rfl rfl rfl rfl (fun v w h => h) fun aa g h => ?_
                  obtain ⟨_, r0, rfl⟩ := seen_in rfl h.1
                  have e0 := getD_of r0
                  exact upon_value (v := .slice (some ⟨bq, oq, none⟩) m cq) (by simp [go_sem, e0, r0, f3 g]) (Below.refl _ _) rfl
                · refine ob_gtrue [23] 7 false 131 rfl rfl rfl rfl (fun v w h => h) fun aa g h => ?_
                  have r0 := seen_out (v := .int .i64 (j : Int)) rfl rfl h.1
                  have e0 := getD_of r0
                  exact upon_value (v := .int .i64 (j : Int)) (by simp [go_sem, e0, r0]) (Below.refl _ _) rfl
                · refine ob_gtrue [143, 144] 7 false 131 rfl rfl rfl rfl (fun v w h => h) fun aa g h => ?_
                  obtain ⟨_, r0, rfl⟩ := seen_in rfl h.1
                  have e0 := getD_of r0
                  obtain ⟨_, r1, rfl⟩ := seen_in rfl h.2.1
                  have e1 := getD_of r1
                  exact upon_value (v := .pointer (some ⟨bq, oq + j, none⟩)) (by simp [go_sem, e0, r0, e1, r1, ij]) (Below.refl _ _) rfl
                · refine ob_gtrue [145] 7 false 131 rfl rfl rfl rfl (fun v w h => h) fun aa g h => ?_
                  obtain ⟨_, r0, rfl⟩ := seen_in rfl h.1
                  have e0 := getD_of r0
                  exact upon_value (v := .int .i64 x) (by simp [go_sem, e0, r0, f4 g]) (Below.refl _ _) rfl
                · refine ob_gtrue [146] 7 false 131 rfl rfl rfl rfl (fun v w h => h) fun aa g h => ?_
                  obtain ⟨_, r0, rfl⟩ := seen_in rfl h.1
                  have e0 := getD_of r0
                  refine upon_enter (f := 32) (args := #[.int .i64 x]) (by simp [go_sem, e0, r0]) rfl ?_
                  exact (HAB.out _).mono fun e w' ⟨he, hw⟩ => ⟨_, he, hw ▸ Below.refl _ _, rfl⟩
                · refine ob_gtrue [147] 7 false 131 rfl rfl rfl rfl (fun v w h => h) fun aa g h => ?_
                  obtain ⟨_, r0, rfl⟩ := seen_in rfl h.1
                  have e0 := getD_of r0
                  exact upon_value (v := .int .i64 Dj) (by simp [go_sem, e0, r0, hD, wD]) (Below.refl _ _) rfl
                · refine ob_gtrue [148] 7 false 131 rfl rfl rfl rfl (fun v w h => h) fun aa g h => ?_
                  obtain ⟨_, r0, rfl⟩ := seen_in rfl h.1
                  have e0 := getD_of r0
                  refine upon_enter (f := 35) (args := #[.int .i64 Dj]) (by simp [go_sem, e0, r0]) rfl ?_
                  exact (HPD.out _).mono fun e w' ⟨he, hB⟩ => ⟨_, he, hB, rfl⟩
                · refine ob_gtrue [139, 149] 7 false 131 rfl rfl rfl rfl (fun v w h => h) fun aa g h => ?_
                  obtain ⟨_, r0, rfl⟩ := seen_in rfl h.1
                  have e0 := getD_of r0
                  obtain ⟨_, r1, rfl⟩ := seen_in rfl h.2.1
                  have e1 := getD_of r1
                  refine upon_enter (f := 38) (args := #[.agg #[.int .i64 65536, .int .i64 65536], .agg #[.int .i64 Dj, .int .i64 Dj]]) (by simp [go_sem, e0, r0, e1, r1]) rfl ?_
                  exact (HDV.out _).mono fun e w' ⟨he, hB⟩ => ⟨_, he, hB, rfl⟩
                · refine ob_gtrue [138, 150] 7 false 131 rfl rfl rfl rfl (fun v w h => h) fun aa g h => ?_
                  obtain ⟨_, r0, rfl⟩ := seen_in rfl h.1
                  have e0 := getD_of r0
                  obtain ⟨_, r1, rfl⟩ := seen_in rfl h.2.1
                  have e1 := getD_of r1
                  exact upon_value (v := .bool false) (by simp [go_sem, e0, r0, e1, r1]) (Below.refl _ _) rfl
                · refine ob_plain [131, 151] rfl rfl fun aa g h => ?_
                  obtain ⟨_, r0, rfl⟩ := seen_in rfl h.1
                  have e0 := getD_of r0
                  obtain ⟨_, r1, rfl⟩ := seen_in rfl h.2.1
                  have e1 := getD_of r1
                  exact upon_value (v := .bool false) (by simp [go_sem, e0, r0, e1, r1]) (Below.refl _ _) rfl
              rintro w9 hB12 _ rfl _ rfl _ rfl _ rfl _ rfl _ rfl _ rfl _ rfl _ rfl _ rfl _ rfl _ rfl _ rfl _ rfl _ rfl _ rfl _ rfl _ rfl _ rfl _ rfl _ rfl _ rfl _ rfl _ rfl _ rfl _ rfl _ rfl _ rfl _ rfl
              simp only [Act.put, List.setIfInBounds_toArray, List.set_cons_succ, List.set_cons_zero]
              rename_i K hK
              refine hK _ _ ?_
              clear hK K f0 f1 f2 f3 f4 hD wD
              have hB13 := below_then hB hB12
              go_wp2_with (fail)
              go_roundw
              case rel => exact ⟨j + 1, by go_num, by omega, hB13⟩
              case measure => simp [intOf]; omega
            · obtain rfl : j = m := by omega
              go_wp2_with (fail)
              go_ret
              exact ⟨rfl, below_then hB11 hB⟩
end Go.Proofs.Ythejcoidgmaidaa
