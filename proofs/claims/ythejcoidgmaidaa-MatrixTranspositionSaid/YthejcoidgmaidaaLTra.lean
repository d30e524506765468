/-
  law04: MatrixTransposition.
-/
import Derived.Test.YthejcoidgmaidaaK4
namespace Go.Proofs.Ythejcoidgmaidaa
open Go.ChangeShapes Go.WideShapes Go.ChangeAt Go.RowKit
set_option linter.unusedVariables false
set_option linter.unusedSimpArgs false
set_option maxRecDepth 100000
attribute [local irreducible] Calls

theorem tra_end (w w15 : World) (aa : Act) (hdf : aa.defers = []) (hu : aa.tmps[2]? = some (.bool true)) (hT : Below w.heap.size w w15) : Code.ret.wp Try.prog (bodyPost Try.prog Try.f6 fun e w' => e = .returned (.bool true) ∧ Below w.heap.size w w') aa w15 :=
  wp_ret (bodyPost_ret (v := .bool true) (by simp [results, Try.results6, go_sem, hu]) hdf ⟨rfl, hT⟩)
section
variable (k : Nat) (A B C : List (List (Int × Int))) (d : List (Int × Int))
def phiTr : Tmp → Value → World → Prop := lk [(29, fun u w' => Mx w' u (trM k (trM k A))),
  (30, fun u w' => Mx w' u A),
  (31, fun u _ => u = .bool true),
  (32, fun u _ => u = .bool true),
  (33, fun u w' => Mx w' u A),
  (34, fun u w' => Mx w' u B),
  (35, fun u w' => Mx w' u (mulT k A B)),
  (36, fun u w' => Mx w' u (trM k (mulT k A B))),
  (37, fun u w' => Mx w' u B),
  (38, fun u w' => Mx w' u (trM k B)),
  (39, fun u w' => Mx w' u A),
  (40, fun u w' => Mx w' u (trM k A)),
  (41, fun u w' => Mx w' u (mulT k (trM k B) (trM k A))),
  (42, fun u _ => u = .bool true),
  (43, fun u _ => u = .bool true),
  (44, fun u _ => u = .bool true),
  (45, fun u w' => Mx w' u (matOf idF k)),
  (46, fun u w' => Mx w' u C),
  (47, fun u w' => Mx w' u (mulT k (matOf idF k) C)),
  (48, fun u w' => Mx w' u C),
  (49, fun u _ => u = .bool true),
  (50, fun u _ => u = .bool true),
  (51, fun u _ => u = .bool true),
  (52, fun u w' => Mx w' u C),
  (53, fun u w' => Mx w' u (matOf idF k)),
  (54, fun u w' => Mx w' u (mulT k C (matOf idF k))),
  (55, fun u w' => Mx w' u C),
  (56, fun u _ => u = .bool true),
  (57, fun u _ => u = .bool true),
  (58, fun u _ => u = .bool true),
  (59, fun u w' => Mx w' u (matOf idF k)),
  (60, fun u w' => Bx w' u d),
  (61, fun u w' => Bx w' u (apM (matOf idF k) d)),
  (62, fun u w' => Bx w' u d),
  (63, fun u _ => u = .bool true),
  (64, fun u _ => u = .bool true),
  (65, fun u _ => u = .bool true),
  (66, fun u w' => Mx w' u (matOf idF k)),
  (67, fun u w' => Mx w' u (trM k (matOf idF k))),
  (68, fun u w' => Mx w' u (matOf idF k)),
  (69, fun u _ => u = .bool true),
  (70, fun u _ => u = .bool true),
  (71, fun u _ => u = .bool true),
  (72, fun u _ => u = .bool true),
  (73, fun u _ => u = .bool true),
  (2, fun u _ => u = .bool true)]
theorem phiTr_steady : ∀ t v w1 w2, Below w1.heap.size w1 w2 → phiTr k A B C d t v w1 → phiTr k A B C d t v w2 := lk_steady _ ⟨steady_mx _, steady_mx _, steady_eq _, steady_eq _, steady_mx _, steady_mx _, steady_mx _, steady_mx _, steady_mx _, steady_mx _, steady_mx _, steady_mx _, steady_mx _, steady_eq _, steady_eq _, steady_eq _, steady_mx _, steady_mx _, steady_mx _, steady_mx _, steady_eq _, steady_eq _, steady_eq _, steady_mx _, steady_mx _, steady_mx _, steady_mx _, steady_eq _, steady_eq _, steady_eq _, steady_mx _, steady_bx _, steady_bx _, steady_bx _, steady_eq _, steady_eq _, steady_eq _, steady_mx _, steady_mx _, steady_mx _, steady_eq _, steady_eq _, steady_eq _, steady_eq _, steady_eq _, steady_eq _, trivial⟩
end
set_option maxHeartbeats 32000000 in
theorem transposition (w : World) (vA vB vC : Value) (n : Int) (la lb lc : List (Int × Int)) (hA : Bx w vA la ∧ I64 la) (hB : Bx w vB lb ∧ I64 lb) (hC : Bx w vC lc ∧ I64 lc) (hn : 0 ≤ n ∧ n < 256) :
    Calls Try.prog 6 #[.agg #[vA, vB, vC, .int .u8 n]] w fun e w' => e = .returned (.bool true) ∧ Below w.heap.size w w' := by
  obtain ⟨hn0, hn1⟩ := hn
  have hm0 : 0 ≤ n % 4 := Int.emod_nonneg _ (by decide)
  have hm1 : n % 4 < 4 := Int.emod_lt_of_pos _ (by decide)
  obtain ⟨k, hk⟩ : ∃ k : Nat, 1 + n % 4 = (k : Int) := ⟨(1 + n % 4).toNat, by omega⟩
  have hk1 : 1 ≤ k := by omega
  have hk4 : k ≤ 4 := by omega
  have hk6 : k ≤ 6 := by omega
  have HA := Lib.hid hA
  have HB := Lib.hid hB
  have HC := Lib.hid hC
  clear hA hB hC
  go_enter Try.func6, Try.ntmps6
  go_wp2_with (fail)
  generalize hW0 : World.alloc w _ = W0
  have hT0 : Below w.heap.size w W0 := by subst hW0; exact ((Below.refl w.heap.size w).alloc (by go_size) _)
  have Y0 : w.heap.size < W0.heap.size := by subst hW0; simp <;> omega
  have F0_0 : ∀ g : Grown W0, g.w.cell? ⟨w.heap.size, 0, none⟩ = some (vA) := fun g => (g.cell Y0).trans (by subst hW0; simp [go_sem])
  have F0_1 : ∀ g : Grown W0, g.w.cell? ⟨w.heap.size, 1, none⟩ = some (vB) := fun g => (g.cell Y0).trans (by subst hW0; simp [go_sem])
  have F0_2 : ∀ g : Grown W0, g.w.cell? ⟨w.heap.size, 2, none⟩ = some (vC) := fun g => (g.cell Y0).trans (by subst hW0; simp [go_sem])
  have F0_3 : ∀ g : Grown W0, g.w.cell? ⟨w.heap.size, 3, none⟩ = some (.int .u8 n) := fun g => (g.cell Y0).trans (by subst hW0; simp [go_sem])
  clear Y0 hW0
  obtain ⟨g0, hg0⟩ : ∃ g : Grown W0, W0 = g.w := ⟨⟨W0, Below.refl _ _⟩, rfl⟩
  rw [hg0]
  refine (sanity4 _).mono ?_
  rintro e w' ⟨rfl, hB⟩
  obtain ⟨g1, rfl⟩ := grow g0 hB
  clear hB hg0
  go_wp2_with (fail)
  refine (law4made vA vB vC la lb lc n k _ ((HA.out.1.grow hT0).grow g1.h) ((HB.out.1.grow hT0).grow g1.h) ((HC.out.1.grow hT0).grow g1.h) HA.out.2 HB.out.2 HC.out.2 hn0 hn1 hk).mono ?_
  rintro e w' ⟨va, vb, vx, x, rfl, sA, sB, qxl, qxv, hx, hB⟩
  obtain ⟨A, qA, ha⟩ := smat_mx sA hk6
  have QA := Lib.hid qA
  obtain ⟨B, qB, hb⟩ := smat_mx sB hk6
  have QB := Lib.hid qB
  clear sA sB qA qB qxl qxv hx
  obtain ⟨g2, rfl⟩ := grow g1 hB
  clear hB
  go_wp2_with (fail)
  refine (law4small vA vB vC la lb lc n k _ ((HA.out.1.grow hT0).grow g2.h) ((HB.out.1.grow hT0).grow g2.h) ((HC.out.1.grow hT0).grow g2.h) HA.out.2 HB.out.2 HC.out.2 hn0 hn1 hk).mono ?_
  rintro e w' ⟨vc, vc2, vd, d, rfl, sA, sB, qdl, qdv, hd, hB⟩
  obtain ⟨C, qC, hc⟩ := smat_mx sA hk6
  have QC := Lib.hid qC
  have Qdl := Lib.hid qdl
  have Qdv := Lib.hid qdv
  clear sA sB qC qdl qdv
  obtain ⟨g3, rfl⟩ := grow g2 hB
  replace ha := ha.grow grows_bx hB
  replace hb := hb.grow grows_bx hB
  clear hB
  obtain ⟨pc, cc, rfl⟩ := hc.shape QC.out.1
  go_wp2_with (fail)
  refine (ident_k k _ hk1 hk6).mono ?_
  rintro e w' ⟨vu, rfl, hu, hB⟩
  obtain ⟨g4, rfl⟩ := grow g3 hB
  replace hd := hd.grow hB
  replace ha := ha.grow grows_bx hB
  replace hb := hb.grow grows_bx hB
  replace hc := hc.grow grows_bx hB
  clear hB
  go_wp2_with (fail)
  refine (transp_k va A k _ ha QA.out hk1 hk6).mono ?_
  rintro e w' ⟨vt, rfl, ht, hB⟩
  obtain ⟨g5, rfl⟩ := grow g4 hB
  replace hd := hd.grow hB
  replace ha := ha.grow grows_bx hB
  replace hb := hb.grow grows_bx hB
  replace hc := hc.grow grows_bx hB
  replace hu := hu.grow grows_bx hB
  clear hB
  have hT := below_then hT0 g5.h
  rename_i K hK
  refine hK _ _ ?_
  clear hK K
  refine list_pred (phiTr k A B C d) (by as_aux_lemma => kernel_rfl) (phiTr_steady k A B C d) ?_ ?_
  · refine ⟨?_, ?_, ?_, ?_, ?_, ?_, ?_, ?_, ?_, ?_, ?_, ?_, ?_, ?_, ?_, ?_, ?_, ?_, ?_, ?_, ?_, ?_, ?_, ?_, ?_, ?_, ?_, ?_, ?_, ?_, ?_, ?_, ?_, ?_, ?_, ?_, ?_, ?_, ?_, ?_, ?_, ?_, ?_, ?_, ?_, ?_, trivial⟩
    · refine ob_plain [28] rfl rfl fun aa g h => ?_
      have r0 := seen_out (v := vt) rfl rfl h.1
      have e0 := getD_of r0
      refine upon_enter (f := 26) (args := #[vt]) (by simp [go_sem, e0, r0]) rfl ?_
      exact (transp_k _ (trM k A) k _ (ht.grow grows_bx g.h) (sq_trM QA.out) hk1 hk6).mono fun e w' ⟨u, he, hu, hB⟩ => ⟨u, he, hB, hu⟩
    · refine ob_plain [4] rfl rfl fun aa g h => ?_
      have r0 := seen_out (v := va) rfl rfl h.1
      have e0 := getD_of r0
      exact upon_value (v := va) (by simp [go_sem, e0, r0]) (Below.refl _ _) (ha.grow grows_bx g.h)
    · refine ob_plain [29, 30] rfl rfl fun aa g h => ?_
      obtain ⟨v0, r0, p0⟩ := seen_in rfl h.1
      have e0 := getD_of r0
      obtain ⟨v1, r1, p1⟩ := seen_in rfl h.2.1
      have e1 := getD_of r1
      refine upon_enter (f := 25) (args := #[v0, v1]) (by simp [go_sem, e0, r0, e1, r1]) rfl ?_
      exact (same_k _ _ (trM k (trM k A)) A _ (p0) (p1) (tr_tr QA.out)).mono fun e w' ⟨he, hB⟩ => ⟨_, he, hB, rfl⟩
    · refine ob_plain [31] rfl rfl fun aa g h => ?_
      obtain ⟨_, r0, rfl⟩ := seen_in rfl h.1
      have e0 := getD_of r0
      exact upon_value (v := .bool true) (by simp [go_sem, e0, r0]) (Below.refl _ _) rfl
    · refine ob_gtrue [4] 5 true 32 rfl rfl rfl rfl (fun v w h => h) fun aa g h => ?_
      have r0 := seen_out (v := va) rfl rfl h.1
      have e0 := getD_of r0
      exact upon_value (v := va) (by simp [go_sem, e0, r0]) (Below.refl _ _) (ha.grow grows_bx g.h)
    · refine ob_gtrue [5] 5 true 32 rfl rfl rfl rfl (fun v w h => h) fun aa g h => ?_
      have r0 := seen_out (v := vb) rfl rfl h.1
      have e0 := getD_of r0
      exact upon_value (v := vb) (by simp [go_sem, e0, r0]) (Below.refl _ _) (hb.grow grows_bx g.h)
    · refine ob_gtrue [33, 34] 5 true 32 rfl rfl rfl rfl (fun v w h => h) fun aa g h => ?_
      obtain ⟨v0, r0, p0⟩ := seen_in rfl h.1
      have e0 := getD_of r0
      obtain ⟨v1, r1, p1⟩ := seen_in rfl h.2.1
      have e1 := getD_of r1
      refine upon_enter (f := 18) (args := #[v0, v1]) (by simp [go_sem, e0, r0, e1, r1]) rfl ?_
      exact (mul_k _ _ A B k _ (p0) (p1) QA.out QB.out hk1 hk6).mono fun e w' ⟨u, he, hu, hB⟩ => ⟨u, he, hB, hu⟩
    · refine ob_gtrue [35] 5 true 32 rfl rfl rfl rfl (fun v w h => h) fun aa g h => ?_
      obtain ⟨v0, r0, p0⟩ := seen_in rfl h.1
      have e0 := getD_of r0
      refine upon_enter (f := 26) (args := #[v0]) (by simp [go_sem, e0, r0]) rfl ?_
      exact (transp_k _ (mulT k A B) k _ (p0) (sq_mulT QA.out QB.out) hk1 hk6).mono fun e w' ⟨u, he, hu, hB⟩ => ⟨u, he, hB, hu⟩
    · refine ob_gtrue [5] 5 true 32 rfl rfl rfl rfl (fun v w h => h) fun aa g h => ?_
      have r0 := seen_out (v := vb) rfl rfl h.1
      have e0 := getD_of r0
      exact upon_value (v := vb) (by simp [go_sem, e0, r0]) (Below.refl _ _) (hb.grow grows_bx g.h)
    · refine ob_gtrue [37] 5 true 32 rfl rfl rfl rfl (fun v w h => h) fun aa g h => ?_
      obtain ⟨v0, r0, p0⟩ := seen_in rfl h.1
      have e0 := getD_of r0
      refine upon_enter (f := 26) (args := #[v0]) (by simp [go_sem, e0, r0]) rfl ?_
      exact (transp_k _ B k _ (p0) QB.out hk1 hk6).mono fun e w' ⟨u, he, hu, hB⟩ => ⟨u, he, hB, hu⟩
    · refine ob_gtrue [4] 5 true 32 rfl rfl rfl rfl (fun v w h => h) fun aa g h => ?_
      have r0 := seen_out (v := va) rfl rfl h.1
      have e0 := getD_of r0
      exact upon_value (v := va) (by simp [go_sem, e0, r0]) (Below.refl _ _) (ha.grow grows_bx g.h)
    · refine ob_gtrue [39] 5 true 32 rfl rfl rfl rfl (fun v w h => h) fun aa g h => ?_
      obtain ⟨v0, r0, p0⟩ := seen_in rfl h.1
      have e0 := getD_of r0
      refine upon_enter (f := 26) (args := #[v0]) (by simp [go_sem, e0, r0]) rfl ?_
      exact (transp_k _ A k _ (p0) QA.out hk1 hk6).mono fun e w' ⟨u, he, hu, hB⟩ => ⟨u, he, hB, hu⟩
    · refine ob_gtrue [38, 40] 5 true 32 rfl rfl rfl rfl (fun v w h => h) fun aa g h => ?_
      obtain ⟨v0, r0, p0⟩ := seen_in rfl h.1
      have e0 := getD_of r0
      obtain ⟨v1, r1, p1⟩ := seen_in rfl h.2.1
      have e1 := getD_of r1
      refine upon_enter (f := 18) (args := #[v0, v1]) (by simp [go_sem, e0, r0, e1, r1]) rfl ?_
      exact (mul_k _ _ (trM k B) (trM k A) k _ (p0) (p1) (sq_trM QB.out) (sq_trM QA.out) hk1 hk6).mono fun e w' ⟨u, he, hu, hB⟩ => ⟨u, he, hB, hu⟩
    · refine ob_gtrue [36, 41] 5 true 32 rfl rfl rfl rfl (fun v w h => h) fun aa g h => ?_
      obtain ⟨v0, r0, p0⟩ := seen_in rfl h.1
      have e0 := getD_of r0
      obtain ⟨v1, r1, p1⟩ := seen_in rfl h.2.1
      have e1 := getD_of r1
      refine upon_enter (f := 25) (args := #[v0, v1]) (by simp [go_sem, e0, r0, e1, r1]) rfl ?_
      exact (same_k _ _ (trM k (mulT k A B)) (mulT k (trM k B) (trM k A)) _ (p0) (p1) (tr_mul QA.out QB.out)).mono fun e w' ⟨he, hB⟩ => ⟨_, he, hB, rfl⟩
    · refine ob_plain [32, 42] rfl rfl fun aa g h => ?_
      obtain ⟨_, r0, rfl⟩ := seen_in rfl h.1
      have e0 := getD_of r0
      obtain ⟨_, r1, rfl⟩ := seen_in rfl h.2.1
      have e1 := getD_of r1
      exact upon_value (v := .bool true) (by simp [go_sem, e0, r0, e1, r1]) (Below.refl _ _) rfl
    · refine ob_plain [43] rfl rfl fun aa g h => ?_
      obtain ⟨_, r0, rfl⟩ := seen_in rfl h.1
      have e0 := getD_of r0
      exact upon_value (v := .bool true) (by simp [go_sem, e0, r0]) (Below.refl _ _) rfl
    · refine ob_gtrue [10] 17 true 44 rfl rfl rfl rfl (fun v w h => h) fun aa g h => ?_
      have r0 := seen_out (v := vu) rfl rfl h.1
      have e0 := getD_of r0
      exact upon_value (v := vu) (by simp [go_sem, e0, r0]) (Below.refl _ _) (hu.grow grows_bx g.h)
    · refine ob_gtrue [7] 17 true 44 rfl rfl rfl rfl (fun v w h => h) fun aa g h => ?_
      have r0 := seen_out (v := .slice pc k cc) rfl rfl h.1
      have e0 := getD_of r0
      exact upon_value (v := .slice pc k cc) (by simp [go_sem, e0, r0]) (Below.refl _ _) (hc.grow grows_bx g.h)
    · refine ob_gtrue [45, 46] 17 true 44 rfl rfl rfl rfl (fun v w h => h) fun aa g h => ?_
      obtain ⟨v0, r0, p0⟩ := seen_in rfl h.1
      have e0 := getD_of r0
      obtain ⟨v1, r1, p1⟩ := seen_in rfl h.2.1
      have e1 := getD_of r1
      refine upon_enter (f := 18) (args := #[v0, v1]) (by simp [go_sem, e0, r0, e1, r1]) rfl ?_
      exact (mul_k _ _ (matOf idF k) C k _ (p0) (p1) (sq_id k) (qm_sq QC.out) hk1 hk6).mono fun e w' ⟨u, he, hu, hB⟩ => ⟨u, he, hB, hu⟩
    · refine ob_gtrue [7] 17 true 44 rfl rfl rfl rfl (fun v w h => h) fun aa g h => ?_
      have r0 := seen_out (v := .slice pc k cc) rfl rfl h.1
      have e0 := getD_of r0
      exact upon_value (v := .slice pc k cc) (by simp [go_sem, e0, r0]) (Below.refl _ _) (hc.grow grows_bx g.h)
    · refine ob_gtrue [47, 48] 17 true 44 rfl rfl rfl rfl (fun v w h => h) fun aa g h => ?_
      obtain ⟨v0, r0, p0⟩ := seen_in rfl h.1
      have e0 := getD_of r0
      obtain ⟨v1, r1, p1⟩ := seen_in rfl h.2.1
      have e1 := getD_of r1
      refine upon_enter (f := 25) (args := #[v0, v1]) (by simp [go_sem, e0, r0, e1, r1]) rfl ?_
      exact (same_k _ _ (mulT k (matOf idF k) C) C _ (p0) (p1) (one_mul QC.out)).mono fun e w' ⟨he, hB⟩ => ⟨_, he, hB, rfl⟩
    · refine ob_plain [44, 49] rfl rfl fun aa g h => ?_
      obtain ⟨_, r0, rfl⟩ := seen_in rfl h.1
      have e0 := getD_of r0
      obtain ⟨_, r1, rfl⟩ := seen_in rfl h.2.1
      have e1 := getD_of r1
      exact upon_value (v := .bool true) (by simp [go_sem, e0, r0, e1, r1]) (Below.refl _ _) rfl
    · refine ob_plain [50] rfl rfl fun aa g h => ?_
      obtain ⟨_, r0, rfl⟩ := seen_in rfl h.1
      have e0 := getD_of r0
      exact upon_value (v := .bool true) (by simp [go_sem, e0, r0]) (Below.refl _ _) rfl
    · refine ob_gtrue [7] 24 true 51 rfl rfl rfl rfl (fun v w h => h) fun aa g h => ?_
      have r0 := seen_out (v := .slice pc k cc) rfl rfl h.1
      have e0 := getD_of r0
      exact upon_value (v := .slice pc k cc) (by simp [go_sem, e0, r0]) (Below.refl _ _) (hc.grow grows_bx g.h)
    · refine ob_gtrue [10] 24 true 51 rfl rfl rfl rfl (fun v w h => h) fun aa g h => ?_
      have r0 := seen_out (v := vu) rfl rfl h.1
      have e0 := getD_of r0
      exact upon_value (v := vu) (by simp [go_sem, e0, r0]) (Below.refl _ _) (hu.grow grows_bx g.h)
    · refine ob_gtrue [52, 53] 24 true 51 rfl rfl rfl rfl (fun v w h => h) fun aa g h => ?_
      obtain ⟨v0, r0, p0⟩ := seen_in rfl h.1
      have e0 := getD_of r0
      obtain ⟨v1, r1, p1⟩ := seen_in rfl h.2.1
      have e1 := getD_of r1
      refine upon_enter (f := 18) (args := #[v0, v1]) (by simp [go_sem, e0, r0, e1, r1]) rfl ?_
      exact (mul_k _ _ C (matOf idF k) k _ (p0) (p1) (qm_sq QC.out) (sq_id k) hk1 hk6).mono fun e w' ⟨u, he, hu, hB⟩ => ⟨u, he, hB, hu⟩
    · refine ob_gtrue [7] 24 true 51 rfl rfl rfl rfl (fun v w h => h) fun aa g h => ?_
      have r0 := seen_out (v := .slice pc k cc) rfl rfl h.1
      have e0 := getD_of r0
      exact upon_value (v := .slice pc k cc) (by simp [go_sem, e0, r0]) (Below.refl _ _) (hc.grow grows_bx g.h)
    · refine ob_gtrue [54, 55] 24 true 51 rfl rfl rfl rfl (fun v w h => h) fun aa g h => ?_
      obtain ⟨v0, r0, p0⟩ := seen_in rfl h.1
      have e0 := getD_of r0
      obtain ⟨v1, r1, p1⟩ := seen_in rfl h.2.1
      have e1 := getD_of r1
      refine upon_enter (f := 25) (args := #[v0, v1]) (by simp [go_sem, e0, r0, e1, r1]) rfl ?_
      exact (same_k _ _ (mulT k C (matOf idF k)) C _ (p0) (p1) (mul_one QC.out)).mono fun e w' ⟨he, hB⟩ => ⟨_, he, hB, rfl⟩
    · refine ob_plain [51, 56] rfl rfl fun aa g h => ?_
      obtain ⟨_, r0, rfl⟩ := seen_in rfl h.1
      have e0 := getD_of r0
      obtain ⟨_, r1, rfl⟩ := seen_in rfl h.2.1
      have e1 := getD_of r1
      exact upon_value (v := .bool true) (by simp [go_sem, e0, r0, e1, r1]) (Below.refl _ _) rfl
    · refine ob_plain [57] rfl rfl fun aa g h => ?_
      obtain ⟨_, r0, rfl⟩ := seen_in rfl h.1
      have e0 := getD_of r0
      exact upon_value (v := .bool true) (by simp [go_sem, e0, r0]) (Below.refl _ _) rfl
    · refine ob_gtrue [10] 31 true 58 rfl rfl rfl rfl (fun v w h => h) fun aa g h => ?_
      have r0 := seen_out (v := vu) rfl rfl h.1
      have e0 := getD_of r0
      exact upon_value (v := vu) (by simp [go_sem, e0, r0]) (Below.refl _ _) (hu.grow grows_bx g.h)
    · refine ob_gtrue [9] 31 true 58 rfl rfl rfl rfl (fun v w h => h) fun aa g h => ?_
      have r0 := seen_out (v := vd) rfl rfl h.1
      have e0 := getD_of r0
      exact upon_value (v := vd) (by simp [go_sem, e0, r0]) (Below.refl _ _) (hd.grow g.h)
    · refine ob_gtrue [59, 60] 31 true 58 rfl rfl rfl rfl (fun v w h => h) fun aa g h => ?_
      obtain ⟨v0, r0, p0⟩ := seen_in rfl h.1
      have e0 := getD_of r0
      obtain ⟨v1, r1, p1⟩ := seen_in rfl h.2.1
      have e1 := getD_of r1
      refine upon_enter (f := 14) (args := #[v0, v1]) (by simp [go_sem, e0, r0, e1, r1]) rfl ?_
      exact (apply_k _ _ (matOf idF k) d k _ (p0) (p1) (sq_id k) Qdl.out (fun p hp => sm_vb (Qdv.out p hp)) hk6).mono fun e w' ⟨u, he, hu, hB⟩ => ⟨u, he, hB, hu⟩
    · refine ob_gtrue [9] 31 true 58 rfl rfl rfl rfl (fun v w h => h) fun aa g h => ?_
      have r0 := seen_out (v := vd) rfl rfl h.1
      have e0 := getD_of r0
      exact upon_value (v := vd) (by simp [go_sem, e0, r0]) (Below.refl _ _) (hd.grow g.h)
    · refine ob_gtrue [61, 62] 31 true 58 rfl rfl rfl rfl (fun v w h => h) fun aa g h => ?_
      obtain ⟨v0, r0, p0⟩ := seen_in rfl h.1
      have e0 := getD_of r0
      obtain ⟨v1, r1, p1⟩ := seen_in rfl h.2.1
      have e1 := getD_of r1
      refine upon_enter (f := 27) (args := #[v0, v1]) (by simp [go_sem, e0, r0, e1, r1]) rfl ?_
      exact (same_b _ _ (apM (matOf idF k) d) d _ (p0) (p1) (one_ap Qdl.out Qdv.out)).mono fun e w' ⟨he, hB⟩ => ⟨_, he, hB, rfl⟩
    · refine ob_plain [58, 63] rfl rfl fun aa g h => ?_
      obtain ⟨_, r0, rfl⟩ := seen_in rfl h.1
      have e0 := getD_of r0
      obtain ⟨_, r1, rfl⟩ := seen_in rfl h.2.1
      have e1 := getD_of r1
      exact upon_value (v := .bool true) (by simp [go_sem, e0, r0, e1, r1]) (Below.refl _ _) rfl
    · refine ob_plain [64] rfl rfl fun aa g h => ?_
      obtain ⟨_, r0, rfl⟩ := seen_in rfl h.1
      have e0 := getD_of r0
      exact upon_value (v := .bool true) (by simp [go_sem, e0, r0]) (Below.refl _ _) rfl
    · refine ob_gtrue [10] 38 true 65 rfl rfl rfl rfl (fun v w h => h) fun aa g h => ?_
      have r0 := seen_out (v := vu) rfl rfl h.1
      have e0 := getD_of r0
      exact upon_value (v := vu) (by simp [go_sem, e0, r0]) (Below.refl _ _) (hu.grow grows_bx g.h)
    · refine ob_gtrue [66] 38 true 65 rfl rfl rfl rfl (fun v w h => h) fun aa g h => ?_
      obtain ⟨v0, r0, p0⟩ := seen_in rfl h.1
      have e0 := getD_of r0
      refine upon_enter (f := 26) (args := #[v0]) (by simp [go_sem, e0, r0]) rfl ?_
      exact (transp_k _ (matOf idF k) k _ (p0) (sq_id k) hk1 hk6).mono fun e w' ⟨u, he, hu, hB⟩ => ⟨u, he, hB, hu⟩
    · refine ob_gtrue [10] 38 true 65 rfl rfl rfl rfl (fun v w h => h) fun aa g h => ?_
      have r0 := seen_out (v := vu) rfl rfl h.1
      have e0 := getD_of r0
      exact upon_value (v := vu) (by simp [go_sem, e0, r0]) (Below.refl _ _) (hu.grow grows_bx g.h)
    · refine ob_gtrue [67, 68] 38 true 65 rfl rfl rfl rfl (fun v w h => h) fun aa g h => ?_
      obtain ⟨v0, r0, p0⟩ := seen_in rfl h.1
      have e0 := getD_of r0
      obtain ⟨v1, r1, p1⟩ := seen_in rfl h.2.1
      have e1 := getD_of r1
      refine upon_enter (f := 25) (args := #[v0, v1]) (by simp [go_sem, e0, r0, e1, r1]) rfl ?_
      exact (same_k _ _ (trM k (matOf idF k)) (matOf idF k) _ (p0) (p1) (tr_id k)).mono fun e w' ⟨he, hB⟩ => ⟨_, he, hB, rfl⟩
    · refine ob_plain [65, 69] rfl rfl fun aa g h => ?_
      obtain ⟨_, r0, rfl⟩ := seen_in rfl h.1
      have e0 := getD_of r0
      obtain ⟨_, r1, rfl⟩ := seen_in rfl h.2.1
      have e1 := getD_of r1
      exact upon_value (v := .bool true) (by simp [go_sem, e0, r0, e1, r1]) (Below.refl _ _) rfl
    · refine ob_plain [70] rfl rfl fun aa g h => ?_
      obtain ⟨_, r0, rfl⟩ := seen_in rfl h.1
      have e0 := getD_of r0
      exact upon_value (v := .bool true) (by simp [go_sem, e0, r0]) (Below.refl _ _) rfl
    · refine ob_gtrue [3] 44 true 71 rfl rfl rfl rfl (fun v w h => h) fun aa g h => ?_
      have r0 := seen_out (v := .bool true) rfl rfl h.1
      have e0 := getD_of r0
      exact upon_value (v := .bool true) (by simp [go_sem, e0, r0]) (Below.refl _ _) rfl
    · refine ob_plain [71, 72] rfl rfl fun aa g h => ?_
      obtain ⟨_, r0, rfl⟩ := seen_in rfl h.1
      have e0 := getD_of r0
      obtain ⟨_, r1, rfl⟩ := seen_in rfl h.2.1
      have e1 := getD_of r1
      exact upon_value (v := .bool true) (by simp [go_sem, e0, r0, e1, r1]) (Below.refl _ _) rfl
    · refine ob_plain [73] rfl rfl fun aa g h => ?_
      obtain ⟨_, r0, rfl⟩ := seen_in rfl h.1
      have e0 := getD_of r0
      exact upon_value (v := .bool true) (by simp [go_sem, e0, r0]) (Below.refl _ _) rfl
  · intro aa ww hBw hdf hsz hval
    obtain ⟨u, hu', hpu⟩ := hval 2 (by decide)
    obtain rfl : u = .bool true := hpu
    rename_i K hK
    exact hK _ _ (tra_end w ww aa hdf hu' (below_then hT hBw))
end Go.Proofs.Ythejcoidgmaidaa
