/-
  The subdistributive law.
-/
import Derived.Test.YtgkhkclpgkohbaaSanity
import Derived.Test.YtgkhkclpgkohbaaSubMath
import Derived.Test.YtgkhkclpgkohbaaOpnd
import Derived.Deep.DrawnRows
namespace Go.Proofs.Ytgkhkclpgkohbaa
open Go.ChangeShapes Go.WideShapes Go.ChangeAt Go.RowKit
set_option linter.unusedVariables false
set_option linter.unusedSimpArgs false

open Go.BigFrame
attribute [local irreducible] Calls

set_option maxRecDepth 100000 in
set_option maxHeartbeats 8000000 in
theorem sub_walk1 (x0 x1 x2 x3 x4 x5 y0 y1 a b c d i j s1 s2 : Int) (w : World)  (m1 : ∀ w, Calls Try.prog 16 #[.agg #[.int .i64 x0, .int .i64 x1]] w fun e w' => e = .returned (.agg #[.int .i64 a, .int .i64 b]) ∧ Below w.heap.size w w') (m2 : ∀ w, Calls Try.prog 16 #[.agg #[.int .i64 x2, .int .i64 x3]] w fun e w' => e = .returned (.agg #[.int .i64 c, .int .i64 d]) ∧ Below w.heap.size w w') (m3 : ∀ w, Calls Try.prog 16 #[.agg #[.int .i64 y0, .int .i64 y1]] w fun e w' => e = .returned (.agg #[.int .i64 i, .int .i64 j]) ∧ Below w.heap.size w w') (ad : ∀ w, Calls Try.prog 45 #[.agg #[.int .i64 c, .int .i64 d], .agg #[.int .i64 i, .int .i64 j]] w fun e w' => e = .returned (.agg #[.int .i64 s1, .int .i64 s2]) ∧ Below w.heap.size w w') (e1 : ∀ w, Calls Try.prog 38 #[.agg #[.int .i64 a, .int .i64 b]] w fun e w' => e = .returned (.bool true) ∧ Below w.heap.size w w') :
    Calls Try.prog 8 #[.agg #[.int .i64 x0, .int .i64 x1, .int .i64 x2, .int .i64 x3, .int .i32 x4, .int .u16 x5], .agg #[.int .i64 y0, .int .i64 y1]] w fun e w' => e = .returned (.bool true) ∧ Below w.heap.size w w' := by
  have hm1 := Lib.hid m1
  clear m1
  have hm2 := Lib.hid m2
  clear m2
  have hm3 := Lib.hid m3
  clear m3
  have had := Lib.hid ad
  clear ad
  have he1 := Lib.hid e1
  clear e1
  go_enter Try.func8, Try.ntmps8
  go_wp2_with (fail)
  generalize hW0 : World.alloc (World.alloc w _) _ = W0
  have hT0 : Below w.heap.size w W0 := by subst hW0; exact (((Below.refl w.heap.size w).alloc (by go_size) _).alloc (by go_size) _)
  have Y0 : w.heap.size < W0.heap.size := by subst hW0; simp <;> omega
  have S0 : ∀ g : Grown W0, w.heap.size < g.w.heap.size := fun g => Nat.lt_of_lt_of_le Y0 g.h.size
  have F0_0 : ∀ g : Grown W0, g.w.cell? ⟨w.heap.size, 0, none⟩ = some (.int .i64 x0) := fun g => (g.cell Y0).trans (by subst hW0; simp [go_sem])
  have H0_0 : ∀ g : Grown W0, g.w.frozen? ⟨w.heap.size, 0, none⟩ = false := fun g => (g.frozen Y0).trans (by subst hW0; simp [go_sem])
  have F0_1 : ∀ g : Grown W0, g.w.cell? ⟨w.heap.size, 1, none⟩ = some (.int .i64 x1) := fun g => (g.cell Y0).trans (by subst hW0; simp [go_sem])
  have H0_1 : ∀ g : Grown W0, g.w.frozen? ⟨w.heap.size, 1, none⟩ = false := fun g => (g.frozen Y0).trans (by subst hW0; simp [go_sem])
  have F0_2 : ∀ g : Grown W0, g.w.cell? ⟨w.heap.size, 2, none⟩ = some (.int .i64 x2) := fun g => (g.cell Y0).trans (by subst hW0; simp [go_sem])
  have H0_2 : ∀ g : Grown W0, g.w.frozen? ⟨w.heap.size, 2, none⟩ = false := fun g => (g.frozen Y0).trans (by subst hW0; simp [go_sem])
  have F0_3 : ∀ g : Grown W0, g.w.cell? ⟨w.heap.size, 3, none⟩ = some (.int .i64 x3) := fun g => (g.cell Y0).trans (by subst hW0; simp [go_sem])
  have H0_3 : ∀ g : Grown W0, g.w.frozen? ⟨w.heap.size, 3, none⟩ = false := fun g => (g.frozen Y0).trans (by subst hW0; simp [go_sem])
  have F0_4 : ∀ g : Grown W0, g.w.cell? ⟨w.heap.size, 4, none⟩ = some (.int .i32 x4) := fun g => (g.cell Y0).trans (by subst hW0; simp [go_sem])
  have H0_4 : ∀ g : Grown W0, g.w.frozen? ⟨w.heap.size, 4, none⟩ = false := fun g => (g.frozen Y0).trans (by subst hW0; simp [go_sem])
  have F0_5 : ∀ g : Grown W0, g.w.cell? ⟨w.heap.size, 5, none⟩ = some (.int .u16 x5) := fun g => (g.cell Y0).trans (by subst hW0; simp [go_sem])
  have H0_5 : ∀ g : Grown W0, g.w.frozen? ⟨w.heap.size, 5, none⟩ = false := fun g => (g.frozen Y0).trans (by subst hW0; simp [go_sem])
  clear Y0
  have Y1 : w.heap.size + 1 < W0.heap.size := by subst hW0; simp <;> omega
  have S1 : ∀ g : Grown W0, w.heap.size + 1 < g.w.heap.size := fun g => Nat.lt_of_lt_of_le Y1 g.h.size
  have F1_0 : ∀ g : Grown W0, g.w.cell? ⟨w.heap.size + 1, 0, none⟩ = some (.int .i64 y0) := fun g => (g.cell Y1).trans (by subst hW0; simp [go_sem])
  have H1_0 : ∀ g : Grown W0, g.w.frozen? ⟨w.heap.size + 1, 0, none⟩ = false := fun g => (g.frozen Y1).trans (by subst hW0; simp [go_sem])
  have F1_1 : ∀ g : Grown W0, g.w.cell? ⟨w.heap.size + 1, 1, none⟩ = some (.int .i64 y1) := fun g => (g.cell Y1).trans (by subst hW0; simp [go_sem])
  have H1_1 : ∀ g : Grown W0, g.w.frozen? ⟨w.heap.size + 1, 1, none⟩ = false := fun g => (g.frozen Y1).trans (by subst hW0; simp [go_sem])
  clear Y1
  clear hW0
  obtain ⟨g0, hg0⟩ : ∃ g : Grown W0, W0 = g.w := ⟨⟨W0, Below.refl _ _⟩, rfl⟩
  rw [hg0]
  clear hg0
  refine (sanity2 _).mono ?_
  rintro e1 w1 ⟨rfl, hB1⟩
  obtain ⟨g1, rfl⟩ := grow g0 hB1
  clear hB1
  go_wp2_with (fail)
  refine region_data 11 23 _ (by kernel_rfl) new_iv (by kernel_rfl) ?_
  refine data_op (.pointer (some ⟨w.heap.size, 0, none⟩)) rfl (RQ_pure (fun w => by simp [go_sem])) ?_
  simp only [Act.put, List.setIfInBounds_toArray, List.set_cons_succ, List.set_cons_zero]
  refine data_op _ rfl (RQ_load rfl rfl (load_iv_at (S0 _) (F0_0 _) (F0_1 _))) ?_
  simp only [Act.put, List.setIfInBounds_toArray, List.set_cons_succ, List.set_cons_zero]
  refine data_op _ rfl (RQ_call hm1.out (fun _ => by simp [go_sem])) ?_
  simp only [Act.put, List.setIfInBounds_toArray, List.set_cons_succ, List.set_cons_zero]
  refine data_op (.pointer (some ⟨w.heap.size, 2, none⟩)) rfl (RQ_pure (fun w => by simp [go_sem])) ?_
  simp only [Act.put, List.setIfInBounds_toArray, List.set_cons_succ, List.set_cons_zero]
  refine data_op _ rfl (RQ_load rfl rfl (load_iv_at (S0 _) (F0_2 _) (F0_3 _))) ?_
  simp only [Act.put, List.setIfInBounds_toArray, List.set_cons_succ, List.set_cons_zero]
  refine data_op _ rfl (RQ_call hm2.out (fun _ => by simp [go_sem])) ?_
  simp only [Act.put, List.setIfInBounds_toArray, List.set_cons_succ, List.set_cons_zero]
  refine data_op _ rfl (RQ_load rfl rfl (load_iv_at (S1 _) (F1_0 _) (F1_1 _))) ?_
  simp only [Act.put, List.setIfInBounds_toArray, List.set_cons_succ, List.set_cons_zero]
  refine data_op _ rfl (RQ_call hm3.out (fun _ => by simp [go_sem])) ?_
  simp only [Act.put, List.setIfInBounds_toArray, List.set_cons_succ, List.set_cons_zero]
  refine data_al rfl ?_
  simp only [Act.put, List.setIfInBounds_toArray, List.set_cons_succ, List.set_cons_zero]
  refine data_al rfl ?_
  simp only [Act.put, List.setIfInBounds_toArray, List.set_cons_succ, List.set_cons_zero]
  refine data_al rfl ?_
  simp only [Act.put, List.setIfInBounds_toArray, List.set_cons_succ, List.set_cons_zero]
  refine data_end ?_
  intro wh hBh
  simp only [Act.put, List.drop_succ_cons, List.drop_zero, List.take_succ_cons, List.take_zero, alDsts, List.filterMap_cons, List.filterMap_nil, isAl, Bool.false_eq_true, if_false, if_true, finK]
  intro b0 p0 q0 r0 o0
  intro b1 p1 q1 r1 o1
  intro b2 p2 q2 r2 o2
  obtain ⟨u00, u01, v00, v01⟩ := new_cell o0
  obtain ⟨u10, u11, v10, v11⟩ := new_cell o1
  have n01 : b0 ≠ b1 := r1 b0 (by simp)
  obtain ⟨u20, u21, v20, v21⟩ := new_cell o2
  have n02 : b0 ≠ b2 := r2 b0 (by simp)
  have n12 : b1 ≠ b2 := r2 b1 (by simp)
  clear r0 o0 r1 o1 r2 o2
  simp only [List.setIfInBounds_toArray, List.set_cons_succ, List.set_cons_zero]
  refine list_store rfl rfl rfl rfl rfl (by exact u00) (by exact u01) (by exact v00) (by exact v01) ?_
  refine list_store rfl rfl rfl rfl rfl (by rw [st2_old (Ne.symm n01)]; exact u10) (by rw [st2_old (Ne.symm n01)]; exact u11) (by simp only [st2_frozen]; exact v10) (by simp only [st2_frozen]; exact v11) ?_
  refine list_store rfl rfl rfl rfl rfl (by rw [st2_old (Ne.symm n12)]; rw [st2_old (Ne.symm n02)]; exact u20) (by rw [st2_old (Ne.symm n12)]; rw [st2_old (Ne.symm n02)]; exact u21) (by simp only [st2_frozen]; exact v20) (by simp only [st2_frozen]; exact v21) ?_
  refine wpList_nil ?_
  generalize e1 : (st2 (st2 (st2 wh b0 (.int .i64 a) (.int .i64 b)) b1 (.int .i64 c) (.int .i64 d)) b2 (.int .i64 i) (.int .i64 j)) = W1
  have hL1 : Below g1.w.heap.size g1.w W1 := by rw [← e1]; exact (st2_below (st2_below (st2_below hBh p0) p1) p2)
  have hT1 : Below w.heap.size w W1 := below_then (below_then hT0 g1.h) hL1
  have s0 := S0 g1
  have Y0 : w.heap.size < W1.heap.size := Nat.lt_of_lt_of_le s0 hL1.size
  have c0_0 := F0_0 g1
  have d0_0 := H0_0 g1
  have c0_1 := F0_1 g1
  have d0_1 := H0_1 g1
  have c0_2 := F0_2 g1
  have d0_2 := H0_2 g1
  have c0_3 := F0_3 g1
  have d0_3 := H0_3 g1
  have c0_4 := F0_4 g1
  have d0_4 := H0_4 g1
  have c0_5 := F0_5 g1
  have d0_5 := H0_5 g1
  clear S0 F0_0 H0_0 F0_1 H0_1 F0_2 H0_2 F0_3 H0_3 F0_4 H0_4 F0_5 H0_5
  have S0 : ∀ g : Grown W1, w.heap.size < g.w.heap.size := fun g => Nat.lt_of_lt_of_le Y0 g.h.size
  have F0_0 : ∀ g : Grown W1, g.w.cell? ⟨w.heap.size, 0, none⟩ = some (.int .i64 x0) := fun g => (g.cell Y0).trans ((Below.cell hL1 (p := ⟨w.heap.size, 0, none⟩) s0).trans c0_0)
  have H0_0 : ∀ g : Grown W1, g.w.frozen? ⟨w.heap.size, 0, none⟩ = false := fun g => (g.frozen Y0).trans ((Below.frozen hL1 (p := ⟨w.heap.size, 0, none⟩) s0).trans d0_0)
  have F0_1 : ∀ g : Grown W1, g.w.cell? ⟨w.heap.size, 1, none⟩ = some (.int .i64 x1) := fun g => (g.cell Y0).trans ((Below.cell hL1 (p := ⟨w.heap.size, 1, none⟩) s0).trans c0_1)
  have H0_1 : ∀ g : Grown W1, g.w.frozen? ⟨w.heap.size, 1, none⟩ = false := fun g => (g.frozen Y0).trans ((Below.frozen hL1 (p := ⟨w.heap.size, 1, none⟩) s0).trans d0_1)
  have F0_2 : ∀ g : Grown W1, g.w.cell? ⟨w.heap.size, 2, none⟩ = some (.int .i64 x2) := fun g => (g.cell Y0).trans ((Below.cell hL1 (p := ⟨w.heap.size, 2, none⟩) s0).trans c0_2)
  have H0_2 : ∀ g : Grown W1, g.w.frozen? ⟨w.heap.size, 2, none⟩ = false := fun g => (g.frozen Y0).trans ((Below.frozen hL1 (p := ⟨w.heap.size, 2, none⟩) s0).trans d0_2)
  have F0_3 : ∀ g : Grown W1, g.w.cell? ⟨w.heap.size, 3, none⟩ = some (.int .i64 x3) := fun g => (g.cell Y0).trans ((Below.cell hL1 (p := ⟨w.heap.size, 3, none⟩) s0).trans c0_3)
  have H0_3 : ∀ g : Grown W1, g.w.frozen? ⟨w.heap.size, 3, none⟩ = false := fun g => (g.frozen Y0).trans ((Below.frozen hL1 (p := ⟨w.heap.size, 3, none⟩) s0).trans d0_3)
  have F0_4 : ∀ g : Grown W1, g.w.cell? ⟨w.heap.size, 4, none⟩ = some (.int .i32 x4) := fun g => (g.cell Y0).trans ((Below.cell hL1 (p := ⟨w.heap.size, 4, none⟩) s0).trans c0_4)
  have H0_4 : ∀ g : Grown W1, g.w.frozen? ⟨w.heap.size, 4, none⟩ = false := fun g => (g.frozen Y0).trans ((Below.frozen hL1 (p := ⟨w.heap.size, 4, none⟩) s0).trans d0_4)
  have F0_5 : ∀ g : Grown W1, g.w.cell? ⟨w.heap.size, 5, none⟩ = some (.int .u16 x5) := fun g => (g.cell Y0).trans ((Below.cell hL1 (p := ⟨w.heap.size, 5, none⟩) s0).trans c0_5)
  have H0_5 : ∀ g : Grown W1, g.w.frozen? ⟨w.heap.size, 5, none⟩ = false := fun g => (g.frozen Y0).trans ((Below.frozen hL1 (p := ⟨w.heap.size, 5, none⟩) s0).trans d0_5)
  clear Y0 s0 c0_0 d0_0 c0_1 d0_1 c0_2 d0_2 c0_3 d0_3 c0_4 d0_4 c0_5 d0_5
  have s1 := S1 g1
  have Y1 : w.heap.size + 1 < W1.heap.size := Nat.lt_of_lt_of_le s1 hL1.size
  have c1_0 := F1_0 g1
  have d1_0 := H1_0 g1
  have c1_1 := F1_1 g1
  have d1_1 := H1_1 g1
  clear S1 F1_0 H1_0 F1_1 H1_1
  have S1 : ∀ g : Grown W1, w.heap.size + 1 < g.w.heap.size := fun g => Nat.lt_of_lt_of_le Y1 g.h.size
  have F1_0 : ∀ g : Grown W1, g.w.cell? ⟨w.heap.size + 1, 0, none⟩ = some (.int .i64 y0) := fun g => (g.cell Y1).trans ((Below.cell hL1 (p := ⟨w.heap.size + 1, 0, none⟩) s1).trans c1_0)
  have H1_0 : ∀ g : Grown W1, g.w.frozen? ⟨w.heap.size + 1, 0, none⟩ = false := fun g => (g.frozen Y1).trans ((Below.frozen hL1 (p := ⟨w.heap.size + 1, 0, none⟩) s1).trans d1_0)
  have F1_1 : ∀ g : Grown W1, g.w.cell? ⟨w.heap.size + 1, 1, none⟩ = some (.int .i64 y1) := fun g => (g.cell Y1).trans ((Below.cell hL1 (p := ⟨w.heap.size + 1, 1, none⟩) s1).trans c1_1)
  have H1_1 : ∀ g : Grown W1, g.w.frozen? ⟨w.heap.size + 1, 1, none⟩ = false := fun g => (g.frozen Y1).trans ((Below.frozen hL1 (p := ⟨w.heap.size + 1, 1, none⟩) s1).trans d1_1)
  clear Y1 s1 c1_0 d1_0 c1_1 d1_1
  have Y2 : b0 < W1.heap.size := by rw [← e1]; simp only [st2_size]; exact q0
  have S2 : ∀ g : Grown W1, b0 < g.w.heap.size := fun g => Nat.lt_of_lt_of_le Y2 g.h.size
  have F2_0 : ∀ g : Grown W1, g.w.cell? ⟨b0, 0, none⟩ = some (.int .i64 a) := fun g => (g.cell Y2).trans (by rw [← e1]; rw [st2_old n02]; rw [st2_old n01]; exact st2_0 (u := .int .i64 0) (by exact u00))
  have H2_0 : ∀ g : Grown W1, g.w.frozen? ⟨b0, 0, none⟩ = false := fun g => (g.frozen Y2).trans (by rw [← e1]; simp only [st2_frozen]; exact v00)
  have F2_1 : ∀ g : Grown W1, g.w.cell? ⟨b0, 1, none⟩ = some (.int .i64 b) := fun g => (g.cell Y2).trans (by rw [← e1]; rw [st2_old n02]; rw [st2_old n01]; exact st2_1 (u := .int .i64 0) (by exact u01))
  have H2_1 : ∀ g : Grown W1, g.w.frozen? ⟨b0, 1, none⟩ = false := fun g => (g.frozen Y2).trans (by rw [← e1]; simp only [st2_frozen]; exact v01)
  clear Y2
  have Y3 : b1 < W1.heap.size := by rw [← e1]; simp only [st2_size]; exact q1
  have S3 : ∀ g : Grown W1, b1 < g.w.heap.size := fun g => Nat.lt_of_lt_of_le Y3 g.h.size
  have F3_0 : ∀ g : Grown W1, g.w.cell? ⟨b1, 0, none⟩ = some (.int .i64 c) := fun g => (g.cell Y3).trans (by rw [← e1]; rw [st2_old n12]; exact st2_0 (u := .int .i64 0) (by rw [st2_old (Ne.symm n01)]; exact u10))
  have H3_0 : ∀ g : Grown W1, g.w.frozen? ⟨b1, 0, none⟩ = false := fun g => (g.frozen Y3).trans (by rw [← e1]; simp only [st2_frozen]; exact v10)
  have F3_1 : ∀ g : Grown W1, g.w.cell? ⟨b1, 1, none⟩ = some (.int .i64 d) := fun g => (g.cell Y3).trans (by rw [← e1]; rw [st2_old n12]; exact st2_1 (u := .int .i64 0) (by rw [st2_old (Ne.symm n01)]; exact u11))
  have H3_1 : ∀ g : Grown W1, g.w.frozen? ⟨b1, 1, none⟩ = false := fun g => (g.frozen Y3).trans (by rw [← e1]; simp only [st2_frozen]; exact v11)
  clear Y3
  have Y4 : b2 < W1.heap.size := by rw [← e1]; simp only [st2_size]; exact q2
  have S4 : ∀ g : Grown W1, b2 < g.w.heap.size := fun g => Nat.lt_of_lt_of_le Y4 g.h.size
  have F4_0 : ∀ g : Grown W1, g.w.cell? ⟨b2, 0, none⟩ = some (.int .i64 i) := fun g => (g.cell Y4).trans (by rw [← e1]; exact st2_0 (u := .int .i64 0) (by rw [st2_old (Ne.symm n12)]; rw [st2_old (Ne.symm n02)]; exact u20))
  have H4_0 : ∀ g : Grown W1, g.w.frozen? ⟨b2, 0, none⟩ = false := fun g => (g.frozen Y4).trans (by rw [← e1]; simp only [st2_frozen]; exact v20)
  have F4_1 : ∀ g : Grown W1, g.w.cell? ⟨b2, 1, none⟩ = some (.int .i64 j) := fun g => (g.cell Y4).trans (by rw [← e1]; exact st2_1 (u := .int .i64 0) (by rw [st2_old (Ne.symm n12)]; rw [st2_old (Ne.symm n02)]; exact u21))
  have H4_1 : ∀ g : Grown W1, g.w.frozen? ⟨b2, 1, none⟩ = false := fun g => (g.frozen Y4).trans (by rw [← e1]; simp only [st2_frozen]; exact v21)
  clear Y4
  clear e1 hL1 hT0 hBh u00 u01 v00 v01 p0 q0 u10 u11 v10 v11 p1 q1 u20 u21 v20 v21 p2 q2 n01 n02 n12
  obtain ⟨h1, hg1⟩ : ∃ g : Grown W1, W1 = g.w := ⟨⟨W1, Below.refl _ _⟩, rfl⟩
  rw [hg1]
  clear hg1 g1
  go_wp2_with (fail)
  refine (had.out _).mono ?_
  rintro e2 w2 ⟨rfl, hB2⟩
  obtain ⟨g2, rfl⟩ := grow h1 hB2
  clear hB2
  go_wp2_with (fail)
  generalize hW2 : World.alloc g2.w _ = W2
  have hL2 : Below g2.w.heap.size g2.w W2 := by subst hW2; exact ((Below.refl _ _).alloc (by first | omega | (simp <;> omega)) _)
  have hT2 : Below w.heap.size w W2 := below_then (below_then hT1 g2.h) hL2
  obtain ⟨nb2, hnb2⟩ : ∃ nb, nb = g2.w.heap.size := ⟨_, rfl⟩
  have s0 := S0 g2
  have Y0 : w.heap.size < W2.heap.size := Nat.lt_of_lt_of_le s0 hL2.size
  have c0_0 := F0_0 g2
  have d0_0 := H0_0 g2
  have c0_1 := F0_1 g2
  have d0_1 := H0_1 g2
  have c0_2 := F0_2 g2
  have d0_2 := H0_2 g2
  have c0_3 := F0_3 g2
  have d0_3 := H0_3 g2
  have c0_4 := F0_4 g2
  have d0_4 := H0_4 g2
  have c0_5 := F0_5 g2
  have d0_5 := H0_5 g2
  clear S0 F0_0 H0_0 F0_1 H0_1 F0_2 H0_2 F0_3 H0_3 F0_4 H0_4 F0_5 H0_5
  have S0 : ∀ g : Grown W2, w.heap.size < g.w.heap.size := fun g => Nat.lt_of_lt_of_le Y0 g.h.size
  have F0_0 : ∀ g : Grown W2, g.w.cell? ⟨w.heap.size, 0, none⟩ = some (.int .i64 x0) := fun g => (g.cell Y0).trans ((Below.cell hL2 (p := ⟨w.heap.size, 0, none⟩) s0).trans c0_0)
  have H0_0 : ∀ g : Grown W2, g.w.frozen? ⟨w.heap.size, 0, none⟩ = false := fun g => (g.frozen Y0).trans ((Below.frozen hL2 (p := ⟨w.heap.size, 0, none⟩) s0).trans d0_0)
  have F0_1 : ∀ g : Grown W2, g.w.cell? ⟨w.heap.size, 1, none⟩ = some (.int .i64 x1) := fun g => (g.cell Y0).trans ((Below.cell hL2 (p := ⟨w.heap.size, 1, none⟩) s0).trans c0_1)
  have H0_1 : ∀ g : Grown W2, g.w.frozen? ⟨w.heap.size, 1, none⟩ = false := fun g => (g.frozen Y0).trans ((Below.frozen hL2 (p := ⟨w.heap.size, 1, none⟩) s0).trans d0_1)
  have F0_2 : ∀ g : Grown W2, g.w.cell? ⟨w.heap.size, 2, none⟩ = some (.int .i64 x2) := fun g => (g.cell Y0).trans ((Below.cell hL2 (p := ⟨w.heap.size, 2, none⟩) s0).trans c0_2)
  have H0_2 : ∀ g : Grown W2, g.w.frozen? ⟨w.heap.size, 2, none⟩ = false := fun g => (g.frozen Y0).trans ((Below.frozen hL2 (p := ⟨w.heap.size, 2, none⟩) s0).trans d0_2)
  have F0_3 : ∀ g : Grown W2, g.w.cell? ⟨w.heap.size, 3, none⟩ = some (.int .i64 x3) := fun g => (g.cell Y0).trans ((Below.cell hL2 (p := ⟨w.heap.size, 3, none⟩) s0).trans c0_3)
  have H0_3 : ∀ g : Grown W2, g.w.frozen? ⟨w.heap.size, 3, none⟩ = false := fun g => (g.frozen Y0).trans ((Below.frozen hL2 (p := ⟨w.heap.size, 3, none⟩) s0).trans d0_3)
  have F0_4 : ∀ g : Grown W2, g.w.cell? ⟨w.heap.size, 4, none⟩ = some (.int .i32 x4) := fun g => (g.cell Y0).trans ((Below.cell hL2 (p := ⟨w.heap.size, 4, none⟩) s0).trans c0_4)
  have H0_4 : ∀ g : Grown W2, g.w.frozen? ⟨w.heap.size, 4, none⟩ = false := fun g => (g.frozen Y0).trans ((Below.frozen hL2 (p := ⟨w.heap.size, 4, none⟩) s0).trans d0_4)
  have F0_5 : ∀ g : Grown W2, g.w.cell? ⟨w.heap.size, 5, none⟩ = some (.int .u16 x5) := fun g => (g.cell Y0).trans ((Below.cell hL2 (p := ⟨w.heap.size, 5, none⟩) s0).trans c0_5)
  have H0_5 : ∀ g : Grown W2, g.w.frozen? ⟨w.heap.size, 5, none⟩ = false := fun g => (g.frozen Y0).trans ((Below.frozen hL2 (p := ⟨w.heap.size, 5, none⟩) s0).trans d0_5)
  clear Y0 s0 c0_0 d0_0 c0_1 d0_1 c0_2 d0_2 c0_3 d0_3 c0_4 d0_4 c0_5 d0_5
  have s1 := S1 g2
  have Y1 : w.heap.size + 1 < W2.heap.size := Nat.lt_of_lt_of_le s1 hL2.size
  have c1_0 := F1_0 g2
  have d1_0 := H1_0 g2
  have c1_1 := F1_1 g2
  have d1_1 := H1_1 g2
  clear S1 F1_0 H1_0 F1_1 H1_1
  have S1 : ∀ g : Grown W2, w.heap.size + 1 < g.w.heap.size := fun g => Nat.lt_of_lt_of_le Y1 g.h.size
  have F1_0 : ∀ g : Grown W2, g.w.cell? ⟨w.heap.size + 1, 0, none⟩ = some (.int .i64 y0) := fun g => (g.cell Y1).trans ((Below.cell hL2 (p := ⟨w.heap.size + 1, 0, none⟩) s1).trans c1_0)
  have H1_0 : ∀ g : Grown W2, g.w.frozen? ⟨w.heap.size + 1, 0, none⟩ = false := fun g => (g.frozen Y1).trans ((Below.frozen hL2 (p := ⟨w.heap.size + 1, 0, none⟩) s1).trans d1_0)
  have F1_1 : ∀ g : Grown W2, g.w.cell? ⟨w.heap.size + 1, 1, none⟩ = some (.int .i64 y1) := fun g => (g.cell Y1).trans ((Below.cell hL2 (p := ⟨w.heap.size + 1, 1, none⟩) s1).trans c1_1)
  have H1_1 : ∀ g : Grown W2, g.w.frozen? ⟨w.heap.size + 1, 1, none⟩ = false := fun g => (g.frozen Y1).trans ((Below.frozen hL2 (p := ⟨w.heap.size + 1, 1, none⟩) s1).trans d1_1)
  clear Y1 s1 c1_0 d1_0 c1_1 d1_1
  have s2 := S2 g2
  have Y2 : b0 < W2.heap.size := Nat.lt_of_lt_of_le s2 hL2.size
  have c2_0 := F2_0 g2
  have d2_0 := H2_0 g2
  have c2_1 := F2_1 g2
  have d2_1 := H2_1 g2
  clear S2 F2_0 H2_0 F2_1 H2_1
  have S2 : ∀ g : Grown W2, b0 < g.w.heap.size := fun g => Nat.lt_of_lt_of_le Y2 g.h.size
  have F2_0 : ∀ g : Grown W2, g.w.cell? ⟨b0, 0, none⟩ = some (.int .i64 a) := fun g => (g.cell Y2).trans ((Below.cell hL2 (p := ⟨b0, 0, none⟩) s2).trans c2_0)
  have H2_0 : ∀ g : Grown W2, g.w.frozen? ⟨b0, 0, none⟩ = false := fun g => (g.frozen Y2).trans ((Below.frozen hL2 (p := ⟨b0, 0, none⟩) s2).trans d2_0)
  have F2_1 : ∀ g : Grown W2, g.w.cell? ⟨b0, 1, none⟩ = some (.int .i64 b) := fun g => (g.cell Y2).trans ((Below.cell hL2 (p := ⟨b0, 1, none⟩) s2).trans c2_1)
  have H2_1 : ∀ g : Grown W2, g.w.frozen? ⟨b0, 1, none⟩ = false := fun g => (g.frozen Y2).trans ((Below.frozen hL2 (p := ⟨b0, 1, none⟩) s2).trans d2_1)
  clear Y2 s2 c2_0 d2_0 c2_1 d2_1
  have s3 := S3 g2
  have Y3 : b1 < W2.heap.size := Nat.lt_of_lt_of_le s3 hL2.size
  have c3_0 := F3_0 g2
  have d3_0 := H3_0 g2
  have c3_1 := F3_1 g2
  have d3_1 := H3_1 g2
  clear S3 F3_0 H3_0 F3_1 H3_1
  have S3 : ∀ g : Grown W2, b1 < g.w.heap.size := fun g => Nat.lt_of_lt_of_le Y3 g.h.size
  have F3_0 : ∀ g : Grown W2, g.w.cell? ⟨b1, 0, none⟩ = some (.int .i64 c) := fun g => (g.cell Y3).trans ((Below.cell hL2 (p := ⟨b1, 0, none⟩) s3).trans c3_0)
  have H3_0 : ∀ g : Grown W2, g.w.frozen? ⟨b1, 0, none⟩ = false := fun g => (g.frozen Y3).trans ((Below.frozen hL2 (p := ⟨b1, 0, none⟩) s3).trans d3_0)
  have F3_1 : ∀ g : Grown W2, g.w.cell? ⟨b1, 1, none⟩ = some (.int .i64 d) := fun g => (g.cell Y3).trans ((Below.cell hL2 (p := ⟨b1, 1, none⟩) s3).trans c3_1)
  have H3_1 : ∀ g : Grown W2, g.w.frozen? ⟨b1, 1, none⟩ = false := fun g => (g.frozen Y3).trans ((Below.frozen hL2 (p := ⟨b1, 1, none⟩) s3).trans d3_1)
  clear Y3 s3 c3_0 d3_0 c3_1 d3_1
  have s4 := S4 g2
  have Y4 : b2 < W2.heap.size := Nat.lt_of_lt_of_le s4 hL2.size
  have c4_0 := F4_0 g2
  have d4_0 := H4_0 g2
  have c4_1 := F4_1 g2
  have d4_1 := H4_1 g2
  clear S4 F4_0 H4_0 F4_1 H4_1
  have S4 : ∀ g : Grown W2, b2 < g.w.heap.size := fun g => Nat.lt_of_lt_of_le Y4 g.h.size
  have F4_0 : ∀ g : Grown W2, g.w.cell? ⟨b2, 0, none⟩ = some (.int .i64 i) := fun g => (g.cell Y4).trans ((Below.cell hL2 (p := ⟨b2, 0, none⟩) s4).trans c4_0)
  have H4_0 : ∀ g : Grown W2, g.w.frozen? ⟨b2, 0, none⟩ = false := fun g => (g.frozen Y4).trans ((Below.frozen hL2 (p := ⟨b2, 0, none⟩) s4).trans d4_0)
  have F4_1 : ∀ g : Grown W2, g.w.cell? ⟨b2, 1, none⟩ = some (.int .i64 j) := fun g => (g.cell Y4).trans ((Below.cell hL2 (p := ⟨b2, 1, none⟩) s4).trans c4_1)
  have H4_1 : ∀ g : Grown W2, g.w.frozen? ⟨b2, 1, none⟩ = false := fun g => (g.frozen Y4).trans ((Below.frozen hL2 (p := ⟨b2, 1, none⟩) s4).trans d4_1)
  clear Y4 s4 c4_0 d4_0 c4_1 d4_1
  have Y5 : nb2 < W2.heap.size := by subst hW2; subst hnb2; simp <;> omega
  have S5 : ∀ g : Grown W2, nb2 < g.w.heap.size := fun g => Nat.lt_of_lt_of_le Y5 g.h.size
  have F5_0 : ∀ g : Grown W2, g.w.cell? ⟨nb2, 0, none⟩ = some (.int .i64 s1) := fun g => (g.cell Y5).trans (by subst hW2; subst hnb2; simp [go_sem])
  have H5_0 : ∀ g : Grown W2, g.w.frozen? ⟨nb2, 0, none⟩ = false := fun g => (g.frozen Y5).trans (by subst hW2; subst hnb2; simp [go_sem])
  have F5_1 : ∀ g : Grown W2, g.w.cell? ⟨nb2, 1, none⟩ = some (.int .i64 s2) := fun g => (g.cell Y5).trans (by subst hW2; subst hnb2; simp [go_sem])
  have H5_1 : ∀ g : Grown W2, g.w.frozen? ⟨nb2, 1, none⟩ = false := fun g => (g.frozen Y5).trans (by subst hW2; subst hnb2; simp [go_sem])
  clear Y5
  rw [← hnb2]
  clear hnb2 hW2 hT1 hL2
  obtain ⟨h2, hg2⟩ : ∃ g : Grown W2, W2 = g.w := ⟨⟨W2, Below.refl _ _⟩, rfl⟩
  rw [hg2]
  clear hg2 g2
  refine (he1.out _).mono ?_
  rintro e3 w3 ⟨rfl, hB3⟩
  obtain ⟨g3, rfl⟩ := grow h2 hB3
  clear hB3
  go_wp2_with (fail)
  have hB : Below w.heap.size w g3.w := below_then hT2 g3.h
  go_ret
  refine ⟨rfl, ?_⟩
  go_grown

set_option maxRecDepth 100000 in
set_option maxHeartbeats 8000000 in
theorem sub_walk2 (x0 x1 x2 x3 x4 x5 y0 y1 a b c d i j s1 s2 : Int) (w : World)  (m1 : ∀ w, Calls Try.prog 16 #[.agg #[.int .i64 x0, .int .i64 x1]] w fun e w' => e = .returned (.agg #[.int .i64 a, .int .i64 b]) ∧ Below w.heap.size w w') (m2 : ∀ w, Calls Try.prog 16 #[.agg #[.int .i64 x2, .int .i64 x3]] w fun e w' => e = .returned (.agg #[.int .i64 c, .int .i64 d]) ∧ Below w.heap.size w w') (m3 : ∀ w, Calls Try.prog 16 #[.agg #[.int .i64 y0, .int .i64 y1]] w fun e w' => e = .returned (.agg #[.int .i64 i, .int .i64 j]) ∧ Below w.heap.size w w') (ad : ∀ w, Calls Try.prog 45 #[.agg #[.int .i64 c, .int .i64 d], .agg #[.int .i64 i, .int .i64 j]] w fun e w' => e = .returned (.agg #[.int .i64 s1, .int .i64 s2]) ∧ Below w.heap.size w w') (e1 : ∀ w, Calls Try.prog 38 #[.agg #[.int .i64 a, .int .i64 b]] w fun e w' => e = .returned (.bool false) ∧ Below w.heap.size w w') (e2 : ∀ w, Calls Try.prog 38 #[.agg #[.int .i64 s1, .int .i64 s2]] w fun e w' => e = .returned (.bool true) ∧ Below w.heap.size w w') :
    Calls Try.prog 8 #[.agg #[.int .i64 x0, .int .i64 x1, .int .i64 x2, .int .i64 x3, .int .i32 x4, .int .u16 x5], .agg #[.int .i64 y0, .int .i64 y1]] w fun e w' => e = .returned (.bool true) ∧ Below w.heap.size w w' := by
  have hm1 := Lib.hid m1
  clear m1
  have hm2 := Lib.hid m2
  clear m2
  have hm3 := Lib.hid m3
  clear m3
  have had := Lib.hid ad
  clear ad
  have he1 := Lib.hid e1
  clear e1
  have he2 := Lib.hid e2
  clear e2
  go_enter Try.func8, Try.ntmps8
  go_wp2_with (fail)
  generalize hW0 : World.alloc (World.alloc w _) _ = W0
  have hT0 : Below w.heap.size w W0 := by subst hW0; exact (((Below.refl w.heap.size w).alloc (by go_size) _).alloc (by go_size) _)
  have Y0 : w.heap.size < W0.heap.size := by subst hW0; simp <;> omega
  have S0 : ∀ g : Grown W0, w.heap.size < g.w.heap.size := fun g => Nat.lt_of_lt_of_le Y0 g.h.size
  have F0_0 : ∀ g : Grown W0, g.w.cell? ⟨w.heap.size, 0, none⟩ = some (.int .i64 x0) := fun g => (g.cell Y0).trans (by subst hW0; simp [go_sem])
  have H0_0 : ∀ g : Grown W0, g.w.frozen? ⟨w.heap.size, 0, none⟩ = false := fun g => (g.frozen Y0).trans (by subst hW0; simp [go_sem])
  have F0_1 : ∀ g : Grown W0, g.w.cell? ⟨w.heap.size, 1, none⟩ = some (.int .i64 x1) := fun g => (g.cell Y0).trans (by subst hW0; simp [go_sem])
  have H0_1 : ∀ g : Grown W0, g.w.frozen? ⟨w.heap.size, 1, none⟩ = false := fun g => (g.frozen Y0).trans (by subst hW0; simp [go_sem])
  have F0_2 : ∀ g : Grown W0, g.w.cell? ⟨w.heap.size, 2, none⟩ = some (.int .i64 x2) := fun g => (g.cell Y0).trans (by subst hW0; simp [go_sem])
  have H0_2 : ∀ g : Grown W0, g.w.frozen? ⟨w.heap.size, 2, none⟩ = false := fun g => (g.frozen Y0).trans (by subst hW0; simp [go_sem])
  have F0_3 : ∀ g : Grown W0, g.w.cell? ⟨w.heap.size, 3, none⟩ = some (.int .i64 x3) := fun g => (g.cell Y0).trans (by subst hW0; simp [go_sem])
  have H0_3 : ∀ g : Grown W0, g.w.frozen? ⟨w.heap.size, 3, none⟩ = false := fun g => (g.frozen Y0).trans (by subst hW0; simp [go_sem])
  have F0_4 : ∀ g : Grown W0, g.w.cell? ⟨w.heap.size, 4, none⟩ = some (.int .i32 x4) := fun g => (g.cell Y0).trans (by subst hW0; simp [go_sem])
  have H0_4 : ∀ g : Grown W0, g.w.frozen? ⟨w.heap.size, 4, none⟩ = false := fun g => (g.frozen Y0).trans (by subst hW0; simp [go_sem])
  have F0_5 : ∀ g : Grown W0, g.w.cell? ⟨w.heap.size, 5, none⟩ = some (.int .u16 x5) := fun g => (g.cell Y0).trans (by subst hW0; simp [go_sem])
  have H0_5 : ∀ g : Grown W0, g.w.frozen? ⟨w.heap.size, 5, none⟩ = false := fun g => (g.frozen Y0).trans (by subst hW0; simp [go_sem])
  clear Y0
  have Y1 : w.heap.size + 1 < W0.heap.size := by subst hW0; simp <;> omega
  have S1 : ∀ g : Grown W0, w.heap.size + 1 < g.w.heap.size := fun g => Nat.lt_of_lt_of_le Y1 g.h.size
  have F1_0 : ∀ g : Grown W0, g.w.cell? ⟨w.heap.size + 1, 0, none⟩ = some (.int .i64 y0) := fun g => (g.cell Y1).trans (by subst hW0; simp [go_sem])
  have H1_0 : ∀ g : Grown W0, g.w.frozen? ⟨w.heap.size + 1, 0, none⟩ = false := fun g => (g.frozen Y1).trans (by subst hW0; simp [go_sem])
  have F1_1 : ∀ g : Grown W0, g.w.cell? ⟨w.heap.size + 1, 1, none⟩ = some (.int .i64 y1) := fun g => (g.cell Y1).trans (by subst hW0; simp [go_sem])
  have H1_1 : ∀ g : Grown W0, g.w.frozen? ⟨w.heap.size + 1, 1, none⟩ = false := fun g => (g.frozen Y1).trans (by subst hW0; simp [go_sem])
  clear Y1
  clear hW0
  obtain ⟨g0, hg0⟩ : ∃ g : Grown W0, W0 = g.w := ⟨⟨W0, Below.refl _ _⟩, rfl⟩
  rw [hg0]
  clear hg0
  refine (sanity2 _).mono ?_
  rintro e1 w1 ⟨rfl, hB1⟩
  obtain ⟨g1, rfl⟩ := grow g0 hB1
  clear hB1
  go_wp2_with (fail)
  refine region_data 11 23 _ (by kernel_rfl) new_iv (by kernel_rfl) ?_
  refine data_op (.pointer (some ⟨w.heap.size, 0, none⟩)) rfl (RQ_pure (fun w => by simp [go_sem])) ?_
  simp only [Act.put, List.setIfInBounds_toArray, List.set_cons_succ, List.set_cons_zero]
  refine data_op _ rfl (RQ_load rfl rfl (load_iv_at (S0 _) (F0_0 _) (F0_1 _))) ?_
  simp only [Act.put, List.setIfInBounds_toArray, List.set_cons_succ, List.set_cons_zero]
  refine data_op _ rfl (RQ_call hm1.out (fun _ => by simp [go_sem])) ?_
  simp only [Act.put, List.setIfInBounds_toArray, List.set_cons_succ, List.set_cons_zero]
  refine data_op (.pointer (some ⟨w.heap.size, 2, none⟩)) rfl (RQ_pure (fun w => by simp [go_sem])) ?_
  simp only [Act.put, List.setIfInBounds_toArray, List.set_cons_succ, List.set_cons_zero]
  refine data_op _ rfl (RQ_load rfl rfl (load_iv_at (S0 _) (F0_2 _) (F0_3 _))) ?_
  simp only [Act.put, List.setIfInBounds_toArray, List.set_cons_succ, List.set_cons_zero]
  refine data_op _ rfl (RQ_call hm2.out (fun _ => by simp [go_sem])) ?_
  simp only [Act.put, List.setIfInBounds_toArray, List.set_cons_succ, List.set_cons_zero]
  refine data_op _ rfl (RQ_load rfl rfl (load_iv_at (S1 _) (F1_0 _) (F1_1 _))) ?_
  simp only [Act.put, List.setIfInBounds_toArray, List.set_cons_succ, List.set_cons_zero]
  refine data_op _ rfl (RQ_call hm3.out (fun _ => by simp [go_sem])) ?_
  simp only [Act.put, List.setIfInBounds_toArray, List.set_cons_succ, List.set_cons_zero]
  refine data_al rfl ?_
  simp only [Act.put, List.setIfInBounds_toArray, List.set_cons_succ, List.set_cons_zero]
  refine data_al rfl ?_
  simp only [Act.put, List.setIfInBounds_toArray, List.set_cons_succ, List.set_cons_zero]
  refine data_al rfl ?_
  simp only [Act.put, List.setIfInBounds_toArray, List.set_cons_succ, List.set_cons_zero]
  refine data_end ?_
  intro wh hBh
  simp only [Act.put, List.drop_succ_cons, List.drop_zero, List.take_succ_cons, List.take_zero, alDsts, List.filterMap_cons, List.filterMap_nil, isAl, Bool.false_eq_true, if_false, if_true, finK]
  intro b0 p0 q0 r0 o0
  intro b1 p1 q1 r1 o1
  intro b2 p2 q2 r2 o2
  obtain ⟨u00, u01, v00, v01⟩ := new_cell o0
  obtain ⟨u10, u11, v10, v11⟩ := new_cell o1
  have n01 : b0 ≠ b1 := r1 b0 (by simp)
  obtain ⟨u20, u21, v20, v21⟩ := new_cell o2
  have n02 : b0 ≠ b2 := r2 b0 (by simp)
  have n12 : b1 ≠ b2 := r2 b1 (by simp)
  clear r0 o0 r1 o1 r2 o2
  simp only [List.setIfInBounds_toArray, List.set_cons_succ, List.set_cons_zero]
  refine list_store rfl rfl rfl rfl rfl (by exact u00) (by exact u01) (by exact v00) (by exact v01) ?_
  refine list_store rfl rfl rfl rfl rfl (by rw [st2_old (Ne.symm n01)]; exact u10) (by rw [st2_old (Ne.symm n01)]; exact u11) (by simp only [st2_frozen]; exact v10) (by simp only [st2_frozen]; exact v11) ?_
  refine list_store rfl rfl rfl rfl rfl (by rw [st2_old (Ne.symm n12)]; rw [st2_old (Ne.symm n02)]; exact u20) (by rw [st2_old (Ne.symm n12)]; rw [st2_old (Ne.symm n02)]; exact u21) (by simp only [st2_frozen]; exact v20) (by simp only [st2_frozen]; exact v21) ?_
  refine wpList_nil ?_
  generalize e1 : (st2 (st2 (st2 wh b0 (.int .i64 a) (.int .i64 b)) b1 (.int .i64 c) (.int .i64 d)) b2 (.int .i64 i) (.int .i64 j)) = W1
  have hL1 : Below g1.w.heap.size g1.w W1 := by rw [← e1]; exact (st2_below (st2_below (st2_below hBh p0) p1) p2)
  have hT1 : Below w.heap.size w W1 := below_then (below_then hT0 g1.h) hL1
  have s0 := S0 g1
  have Y0 : w.heap.size < W1.heap.size := Nat.lt_of_lt_of_le s0 hL1.size
  have c0_0 := F0_0 g1
  have d0_0 := H0_0 g1
  have c0_1 := F0_1 g1
  have d0_1 := H0_1 g1
  have c0_2 := F0_2 g1
  have d0_2 := H0_2 g1
  have c0_3 := F0_3 g1
  have d0_3 := H0_3 g1
  have c0_4 := F0_4 g1
  have d0_4 := H0_4 g1
  have c0_5 := F0_5 g1
  have d0_5 := H0_5 g1
  clear S0 F0_0 H0_0 F0_1 H0_1 F0_2 H0_2 F0_3 H0_3 F0_4 H0_4 F0_5 H0_5
  have S0 : ∀ g : Grown W1, w.heap.size < g.w.heap.size := fun g => Nat.lt_of_lt_of_le Y0 g.h.size
  have F0_0 : ∀ g : Grown W1, g.w.cell? ⟨w.heap.size, 0, none⟩ = some (.int .i64 x0) := fun g => (g.cell Y0).trans ((Below.cell hL1 (p := ⟨w.heap.size, 0, none⟩) s0).trans c0_0)
  have H0_0 : ∀ g : Grown W1, g.w.frozen? ⟨w.heap.size, 0, none⟩ = false := fun g => (g.frozen Y0).trans ((Below.frozen hL1 (p := ⟨w.heap.size, 0, none⟩) s0).trans d0_0)
  have F0_1 : ∀ g : Grown W1, g.w.cell? ⟨w.heap.size, 1, none⟩ = some (.int .i64 x1) := fun g => (g.cell Y0).trans ((Below.cell hL1 (p := ⟨w.heap.size, 1, none⟩) s0).trans c0_1)
  have H0_1 : ∀ g : Grown W1, g.w.frozen? ⟨w.heap.size, 1, none⟩ = false := fun g => (g.frozen Y0).trans ((Below.frozen hL1 (p := ⟨w.heap.size, 1, none⟩) s0).trans d0_1)
  have F0_2 : ∀ g : Grown W1, g.w.cell? ⟨w.heap.size, 2, none⟩ = some (.int .i64 x2) := fun g => (g.cell Y0).trans ((Below.cell hL1 (p := ⟨w.heap.size, 2, none⟩) s0).trans c0_2)
  have H0_2 : ∀ g : Grown W1, g.w.frozen? ⟨w.heap.size, 2, none⟩ = false := fun g => (g.frozen Y0).trans ((Below.frozen hL1 (p := ⟨w.heap.size, 2, none⟩) s0).trans d0_2)
  have F0_3 : ∀ g : Grown W1, g.w.cell? ⟨w.heap.size, 3, none⟩ = some (.int .i64 x3) := fun g => (g.cell Y0).trans ((Below.cell hL1 (p := ⟨w.heap.size, 3, none⟩) s0).trans c0_3)
  have H0_3 : ∀ g : Grown W1, g.w.frozen? ⟨w.heap.size, 3, none⟩ = false := fun g => (g.frozen Y0).trans ((Below.frozen hL1 (p := ⟨w.heap.size, 3, none⟩) s0).trans d0_3)
  have F0_4 : ∀ g : Grown W1, g.w.cell? ⟨w.heap.size, 4, none⟩ = some (.int .i32 x4) := fun g => (g.cell Y0).trans ((Below.cell hL1 (p := ⟨w.heap.size, 4, none⟩) s0).trans c0_4)
  have H0_4 : ∀ g : Grown W1, g.w.frozen? ⟨w.heap.size, 4, none⟩ = false := fun g => (g.frozen Y0).trans ((Below.frozen hL1 (p := ⟨w.heap.size, 4, none⟩) s0).trans d0_4)
  have F0_5 : ∀ g : Grown W1, g.w.cell? ⟨w.heap.size, 5, none⟩ = some (.int .u16 x5) := fun g => (g.cell Y0).trans ((Below.cell hL1 (p := ⟨w.heap.size, 5, none⟩) s0).trans c0_5)
  have H0_5 : ∀ g : Grown W1, g.w.frozen? ⟨w.heap.size, 5, none⟩ = false := fun g => (g.frozen Y0).trans ((Below.frozen hL1 (p := ⟨w.heap.size, 5, none⟩) s0).trans d0_5)
  clear Y0 s0 c0_0 d0_0 c0_1 d0_1 c0_2 d0_2 c0_3 d0_3 c0_4 d0_4 c0_5 d0_5
  have s1 := S1 g1
  have Y1 : w.heap.size + 1 < W1.heap.size := Nat.lt_of_lt_of_le s1 hL1.size
  have c1_0 := F1_0 g1
  have d1_0 := H1_0 g1
  have c1_1 := F1_1 g1
  have d1_1 := H1_1 g1
  clear S1 F1_0 H1_0 F1_1 H1_1
  have S1 : ∀ g : Grown W1, w.heap.size + 1 < g.w.heap.size := fun g => Nat.lt_of_lt_of_le Y1 g.h.size
  have F1_0 : ∀ g : Grown W1, g.w.cell? ⟨w.heap.size + 1, 0, none⟩ = some (.int .i64 y0) := fun g => (g.cell Y1).trans ((Below.cell hL1 (p := ⟨w.heap.size + 1, 0, none⟩) s1).trans c1_0)
  have H1_0 : ∀ g : Grown W1, g.w.frozen? ⟨w.heap.size + 1, 0, none⟩ = false := fun g => (g.frozen Y1).trans ((Below.frozen hL1 (p := ⟨w.heap.size + 1, 0, none⟩) s1).trans d1_0)
  have F1_1 : ∀ g : Grown W1, g.w.cell? ⟨w.heap.size + 1, 1, none⟩ = some (.int .i64 y1) := fun g => (g.cell Y1).trans ((Below.cell hL1 (p := ⟨w.heap.size + 1, 1, none⟩) s1).trans c1_1)
  have H1_1 : ∀ g : Grown W1, g.w.frozen? ⟨w.heap.size + 1, 1, none⟩ = false := fun g => (g.frozen Y1).trans ((Below.frozen hL1 (p := ⟨w.heap.size + 1, 1, none⟩) s1).trans d1_1)
  clear Y1 s1 c1_0 d1_0 c1_1 d1_1
  have Y2 : b0 < W1.heap.size := by rw [← e1]; simp only [st2_size]; exact q0
  have S2 : ∀ g : Grown W1, b0 < g.w.heap.size := fun g => Nat.lt_of_lt_of_le Y2 g.h.size
  have F2_0 : ∀ g : Grown W1, g.w.cell? ⟨b0, 0, none⟩ = some (.int .i64 a) := fun g => (g.cell Y2).trans (by rw [← e1]; rw [st2_old n02]; rw [st2_old n01]; exact st2_0 (u := .int .i64 0) (by exact u00))
  have H2_0 : ∀ g : Grown W1, g.w.frozen? ⟨b0, 0, none⟩ = false := fun g => (g.frozen Y2).trans (by rw [← e1]; simp only [st2_frozen]; exact v00)
  have F2_1 : ∀ g : Grown W1, g.w.cell? ⟨b0, 1, none⟩ = some (.int .i64 b) := fun g => (g.cell Y2).trans (by rw [← e1]; rw [st2_old n02]; rw [st2_old n01]; exact st2_1 (u := .int .i64 0) (by exact u01))
  have H2_1 : ∀ g : Grown W1, g.w.frozen? ⟨b0, 1, none⟩ = false := fun g => (g.frozen Y2).trans (by rw [← e1]; simp only [st2_frozen]; exact v01)
  clear Y2
  have Y3 : b1 < W1.heap.size := by rw [← e1]; simp only [st2_size]; exact q1
  have S3 : ∀ g : Grown W1, b1 < g.w.heap.size := fun g => Nat.lt_of_lt_of_le Y3 g.h.size
  have F3_0 : ∀ g : Grown W1, g.w.cell? ⟨b1, 0, none⟩ = some (.int .i64 c) := fun g => (g.cell Y3).trans (by rw [← e1]; rw [st2_old n12]; exact st2_0 (u := .int .i64 0) (by rw [st2_old (Ne.symm n01)]; exact u10))
  have H3_0 : ∀ g : Grown W1, g.w.frozen? ⟨b1, 0, none⟩ = false := fun g => (g.frozen Y3).trans (by rw [← e1]; simp only [st2_frozen]; exact v10)
  have F3_1 : ∀ g : Grown W1, g.w.cell? ⟨b1, 1, none⟩ = some (.int .i64 d) := fun g => (g.cell Y3).trans (by rw [← e1]; rw [st2_old n12]; exact st2_1 (u := .int .i64 0) (by rw [st2_old (Ne.symm n01)]; exact u11))
  have H3_1 : ∀ g : Grown W1, g.w.frozen? ⟨b1, 1, none⟩ = false := fun g => (g.frozen Y3).trans (by rw [← e1]; simp only [st2_frozen]; exact v11)
  clear Y3
  have Y4 : b2 < W1.heap.size := by rw [← e1]; simp only [st2_size]; exact q2
  have S4 : ∀ g : Grown W1, b2 < g.w.heap.size := fun g => Nat.lt_of_lt_of_le Y4 g.h.size
  have F4_0 : ∀ g : Grown W1, g.w.cell? ⟨b2, 0, none⟩ = some (.int .i64 i) := fun g => (g.cell Y4).trans (by rw [← e1]; exact st2_0 (u := .int .i64 0) (by rw [st2_old (Ne.symm n12)]; rw [st2_old (Ne.symm n02)]; exact u20))
  have H4_0 : ∀ g : Grown W1, g.w.frozen? ⟨b2, 0, none⟩ = false := fun g => (g.frozen Y4).trans (by rw [← e1]; simp only [st2_frozen]; exact v20)
  have F4_1 : ∀ g : Grown W1, g.w.cell? ⟨b2, 1, none⟩ = some (.int .i64 j) := fun g => (g.cell Y4).trans (by rw [← e1]; exact st2_1 (u := .int .i64 0) (by rw [st2_old (Ne.symm n12)]; rw [st2_old (Ne.symm n02)]; exact u21))
  have H4_1 : ∀ g : Grown W1, g.w.frozen? ⟨b2, 1, none⟩ = false := fun g => (g.frozen Y4).trans (by rw [← e1]; simp only [st2_frozen]; exact v21)
  clear Y4
  clear e1 hL1 hT0 hBh u00 u01 v00 v01 p0 q0 u10 u11 v10 v11 p1 q1 u20 u21 v20 v21 p2 q2 n01 n02 n12
  obtain ⟨h1, hg1⟩ : ∃ g : Grown W1, W1 = g.w := ⟨⟨W1, Below.refl _ _⟩, rfl⟩
  rw [hg1]
  clear hg1 g1
  go_wp2_with (fail)
  refine (had.out _).mono ?_
  rintro e2 w2 ⟨rfl, hB2⟩
  obtain ⟨g2, rfl⟩ := grow h1 hB2
  clear hB2
  go_wp2_with (fail)
  generalize hW2 : World.alloc g2.w _ = W2
  have hL2 : Below g2.w.heap.size g2.w W2 := by subst hW2; exact ((Below.refl _ _).alloc (by first | omega | (simp <;> omega)) _)
  have hT2 : Below w.heap.size w W2 := below_then (below_then hT1 g2.h) hL2
  obtain ⟨nb2, hnb2⟩ : ∃ nb, nb = g2.w.heap.size := ⟨_, rfl⟩
  have s0 := S0 g2
  have Y0 : w.heap.size < W2.heap.size := Nat.lt_of_lt_of_le s0 hL2.size
  have c0_0 := F0_0 g2
  have d0_0 := H0_0 g2
  have c0_1 := F0_1 g2
  have d0_1 := H0_1 g2
  have c0_2 := F0_2 g2
  have d0_2 := H0_2 g2
  have c0_3 := F0_3 g2
  have d0_3 := H0_3 g2
  have c0_4 := F0_4 g2
  have d0_4 := H0_4 g2
  have c0_5 := F0_5 g2
  have d0_5 := H0_5 g2
  clear S0 F0_0 H0_0 F0_1 H0_1 F0_2 H0_2 F0_3 H0_3 F0_4 H0_4 F0_5 H0_5
  have S0 : ∀ g : Grown W2, w.heap.size < g.w.heap.size := fun g => Nat.lt_of_lt_of_le Y0 g.h.size
  have F0_0 : ∀ g : Grown W2, g.w.cell? ⟨w.heap.size, 0, none⟩ = some (.int .i64 x0) := fun g => (g.cell Y0).trans ((Below.cell hL2 (p := ⟨w.heap.size, 0, none⟩) s0).trans c0_0)
  have H0_0 : ∀ g : Grown W2, g.w.frozen? ⟨w.heap.size, 0, none⟩ = false := fun g => (g.frozen Y0).trans ((Below.frozen hL2 (p := ⟨w.heap.size, 0, none⟩) s0).trans d0_0)
  have F0_1 : ∀ g : Grown W2, g.w.cell? ⟨w.heap.size, 1, none⟩ = some (.int .i64 x1) := fun g => (g.cell Y0).trans ((Below.cell hL2 (p := ⟨w.heap.size, 1, none⟩) s0).trans c0_1)
  have H0_1 : ∀ g : Grown W2, g.w.frozen? ⟨w.heap.size, 1, none⟩ = false := fun g => (g.frozen Y0).trans ((Below.frozen hL2 (p := ⟨w.heap.size, 1, none⟩) s0).trans d0_1)
  have F0_2 : ∀ g : Grown W2, g.w.cell? ⟨w.heap.size, 2, none⟩ = some (.int .i64 x2) := fun g => (g.cell Y0).trans ((Below.cell hL2 (p := ⟨w.heap.size, 2, none⟩) s0).trans c0_2)
  have H0_2 : ∀ g : Grown W2, g.w.frozen? ⟨w.heap.size, 2, none⟩ = false := fun g => (g.frozen Y0).trans ((Below.frozen hL2 (p := ⟨w.heap.size, 2, none⟩) s0).trans d0_2)
  have F0_3 : ∀ g : Grown W2, g.w.cell? ⟨w.heap.size, 3, none⟩ = some (.int .i64 x3) := fun g => (g.cell Y0).trans ((Below.cell hL2 (p := ⟨w.heap.size, 3, none⟩) s0).trans c0_3)
  have H0_3 : ∀ g : Grown W2, g.w.frozen? ⟨w.heap.size, 3, none⟩ = false := fun g => (g.frozen Y0).trans ((Below.frozen hL2 (p := ⟨w.heap.size, 3, none⟩) s0).trans d0_3)
  have F0_4 : ∀ g : Grown W2, g.w.cell? ⟨w.heap.size, 4, none⟩ = some (.int .i32 x4) := fun g => (g.cell Y0).trans ((Below.cell hL2 (p := ⟨w.heap.size, 4, none⟩) s0).trans c0_4)
  have H0_4 : ∀ g : Grown W2, g.w.frozen? ⟨w.heap.size, 4, none⟩ = false := fun g => (g.frozen Y0).trans ((Below.frozen hL2 (p := ⟨w.heap.size, 4, none⟩) s0).trans d0_4)
  have F0_5 : ∀ g : Grown W2, g.w.cell? ⟨w.heap.size, 5, none⟩ = some (.int .u16 x5) := fun g => (g.cell Y0).trans ((Below.cell hL2 (p := ⟨w.heap.size, 5, none⟩) s0).trans c0_5)
  have H0_5 : ∀ g : Grown W2, g.w.frozen? ⟨w.heap.size, 5, none⟩ = false := fun g => (g.frozen Y0).trans ((Below.frozen hL2 (p := ⟨w.heap.size, 5, none⟩) s0).trans d0_5)
  clear Y0 s0 c0_0 d0_0 c0_1 d0_1 c0_2 d0_2 c0_3 d0_3 c0_4 d0_4 c0_5 d0_5
  have s1 := S1 g2
  have Y1 : w.heap.size + 1 < W2.heap.size := Nat.lt_of_lt_of_le s1 hL2.size
  have c1_0 := F1_0 g2
  have d1_0 := H1_0 g2
  have c1_1 := F1_1 g2
  have d1_1 := H1_1 g2
  clear S1 F1_0 H1_0 F1_1 H1_1
  have S1 : ∀ g : Grown W2, w.heap.size + 1 < g.w.heap.size := fun g => Nat.lt_of_lt_of_le Y1 g.h.size
  have F1_0 : ∀ g : Grown W2, g.w.cell? ⟨w.heap.size + 1, 0, none⟩ = some (.int .i64 y0) := fun g => (g.cell Y1).trans ((Below.cell hL2 (p := ⟨w.heap.size + 1, 0, none⟩) s1).trans c1_0)
  have H1_0 : ∀ g : Grown W2, g.w.frozen? ⟨w.heap.size + 1, 0, none⟩ = false := fun g => (g.frozen Y1).trans ((Below.frozen hL2 (p := ⟨w.heap.size + 1, 0, none⟩) s1).trans d1_0)
  have F1_1 : ∀ g : Grown W2, g.w.cell? ⟨w.heap.size + 1, 1, none⟩ = some (.int .i64 y1) := fun g => (g.cell Y1).trans ((Below.cell hL2 (p := ⟨w.heap.size + 1, 1, none⟩) s1).trans c1_1)
  have H1_1 : ∀ g : Grown W2, g.w.frozen? ⟨w.heap.size + 1, 1, none⟩ = false := fun g => (g.frozen Y1).trans ((Below.frozen hL2 (p := ⟨w.heap.size + 1, 1, none⟩) s1).trans d1_1)
  clear Y1 s1 c1_0 d1_0 c1_1 d1_1
  have s2 := S2 g2
  have Y2 : b0 < W2.heap.size := Nat.lt_of_lt_of_le s2 hL2.size
  have c2_0 := F2_0 g2
  have d2_0 := H2_0 g2
  have c2_1 := F2_1 g2
  have d2_1 := H2_1 g2
  clear S2 F2_0 H2_0 F2_1 H2_1
  have S2 : ∀ g : Grown W2, b0 < g.w.heap.size := fun g => Nat.lt_of_lt_of_le Y2 g.h.size
  have F2_0 : ∀ g : Grown W2, g.w.cell? ⟨b0, 0, none⟩ = some (.int .i64 a) := fun g => (g.cell Y2).trans ((Below.cell hL2 (p := ⟨b0, 0, none⟩) s2).trans c2_0)
  have H2_0 : ∀ g : Grown W2, g.w.frozen? ⟨b0, 0, none⟩ = false := fun g => (g.frozen Y2).trans ((Below.frozen hL2 (p := ⟨b0, 0, none⟩) s2).trans d2_0)
  have F2_1 : ∀ g : Grown W2, g.w.cell? ⟨b0, 1, none⟩ = some (.int .i64 b) := fun g => (g.cell Y2).trans ((Below.cell hL2 (p := ⟨b0, 1, none⟩) s2).trans c2_1)
  have H2_1 : ∀ g : Grown W2, g.w.frozen? ⟨b0, 1, none⟩ = false := fun g => (g.frozen Y2).trans ((Below.frozen hL2 (p := ⟨b0, 1, none⟩) s2).trans d2_1)
  clear Y2 s2 c2_0 d2_0 c2_1 d2_1
  have s3 := S3 g2
  have Y3 : b1 < W2.heap.size := Nat.lt_of_lt_of_le s3 hL2.size
  have c3_0 := F3_0 g2
  have d3_0 := H3_0 g2
  have c3_1 := F3_1 g2
  have d3_1 := H3_1 g2
  clear S3 F3_0 H3_0 F3_1 H3_1
  have S3 : ∀ g : Grown W2, b1 < g.w.heap.size := fun g => Nat.lt_of_lt_of_le Y3 g.h.size
  have F3_0 : ∀ g : Grown W2, g.w.cell? ⟨b1, 0, none⟩ = some (.int .i64 c) := fun g => (g.cell Y3).trans ((Below.cell hL2 (p := ⟨b1, 0, none⟩) s3).trans c3_0)
  have H3_0 : ∀ g : Grown W2, g.w.frozen? ⟨b1, 0, none⟩ = false := fun g => (g.frozen Y3).trans ((Below.frozen hL2 (p := ⟨b1, 0, none⟩) s3).trans d3_0)
  have F3_1 : ∀ g : Grown W2, g.w.cell? ⟨b1, 1, none⟩ = some (.int .i64 d) := fun g => (g.cell Y3).trans ((Below.cell hL2 (p := ⟨b1, 1, none⟩) s3).trans c3_1)
  have H3_1 : ∀ g : Grown W2, g.w.frozen? ⟨b1, 1, none⟩ = false := fun g => (g.frozen Y3).trans ((Below.frozen hL2 (p := ⟨b1, 1, none⟩) s3).trans d3_1)
  clear Y3 s3 c3_0 d3_0 c3_1 d3_1
  have s4 := S4 g2
  have Y4 : b2 < W2.heap.size := Nat.lt_of_lt_of_le s4 hL2.size
  have c4_0 := F4_0 g2
  have d4_0 := H4_0 g2
  have c4_1 := F4_1 g2
  have d4_1 := H4_1 g2
  clear S4 F4_0 H4_0 F4_1 H4_1
  have S4 : ∀ g : Grown W2, b2 < g.w.heap.size := fun g => Nat.lt_of_lt_of_le Y4 g.h.size
  have F4_0 : ∀ g : Grown W2, g.w.cell? ⟨b2, 0, none⟩ = some (.int .i64 i) := fun g => (g.cell Y4).trans ((Below.cell hL2 (p := ⟨b2, 0, none⟩) s4).trans c4_0)
  have H4_0 : ∀ g : Grown W2, g.w.frozen? ⟨b2, 0, none⟩ = false := fun g => (g.frozen Y4).trans ((Below.frozen hL2 (p := ⟨b2, 0, none⟩) s4).trans d4_0)
  have F4_1 : ∀ g : Grown W2, g.w.cell? ⟨b2, 1, none⟩ = some (.int .i64 j) := fun g => (g.cell Y4).trans ((Below.cell hL2 (p := ⟨b2, 1, none⟩) s4).trans c4_1)
  have H4_1 : ∀ g : Grown W2, g.w.frozen? ⟨b2, 1, none⟩ = false := fun g => (g.frozen Y4).trans ((Below.frozen hL2 (p := ⟨b2, 1, none⟩) s4).trans d4_1)
  clear Y4 s4 c4_0 d4_0 c4_1 d4_1
  have Y5 : nb2 < W2.heap.size := by subst hW2; subst hnb2; simp <;> omega
  have S5 : ∀ g : Grown W2, nb2 < g.w.heap.size := fun g => Nat.lt_of_lt_of_le Y5 g.h.size
  have F5_0 : ∀ g : Grown W2, g.w.cell? ⟨nb2, 0, none⟩ = some (.int .i64 s1) := fun g => (g.cell Y5).trans (by subst hW2; subst hnb2; simp [go_sem])
  have H5_0 : ∀ g : Grown W2, g.w.frozen? ⟨nb2, 0, none⟩ = false := fun g => (g.frozen Y5).trans (by subst hW2; subst hnb2; simp [go_sem])
  have F5_1 : ∀ g : Grown W2, g.w.cell? ⟨nb2, 1, none⟩ = some (.int .i64 s2) := fun g => (g.cell Y5).trans (by subst hW2; subst hnb2; simp [go_sem])
  have H5_1 : ∀ g : Grown W2, g.w.frozen? ⟨nb2, 1, none⟩ = false := fun g => (g.frozen Y5).trans (by subst hW2; subst hnb2; simp [go_sem])
  clear Y5
  rw [← hnb2]
  clear hnb2 hW2 hT1 hL2
  obtain ⟨h2, hg2⟩ : ∃ g : Grown W2, W2 = g.w := ⟨⟨W2, Below.refl _ _⟩, rfl⟩
  rw [hg2]
  clear hg2 g2
  refine (he1.out _).mono ?_
  rintro e3 w3 ⟨rfl, hB3⟩
  obtain ⟨g3, rfl⟩ := grow h2 hB3
  clear hB3
  go_wp2_with (fail)
  refine (he2.out _).mono ?_
  rintro e4 w4 ⟨rfl, hB4⟩
  obtain ⟨g4, rfl⟩ := grow g3 hB4
  clear hB4
  go_wp2_with (fail)
  have hB : Below w.heap.size w g4.w := below_then hT2 g4.h
  go_ret
  refine ⟨rfl, ?_⟩
  go_grown

set_option maxRecDepth 100000 in
set_option maxHeartbeats 8000000 in
theorem sub_walk3 (x0 x1 x2 x3 x4 x5 y0 y1 a b c d i j s1 s2 l1 l2 p1 p2 q1 q2 t1 t2 v1 v2 u1 u2 : Int) (w : World)  (m1 : ∀ w, Calls Try.prog 16 #[.agg #[.int .i64 x0, .int .i64 x1]] w fun e w' => e = .returned (.agg #[.int .i64 a, .int .i64 b]) ∧ Below w.heap.size w w') (m2 : ∀ w, Calls Try.prog 16 #[.agg #[.int .i64 x2, .int .i64 x3]] w fun e w' => e = .returned (.agg #[.int .i64 c, .int .i64 d]) ∧ Below w.heap.size w w') (m3 : ∀ w, Calls Try.prog 16 #[.agg #[.int .i64 y0, .int .i64 y1]] w fun e w' => e = .returned (.agg #[.int .i64 i, .int .i64 j]) ∧ Below w.heap.size w w') (ad : ∀ w, Calls Try.prog 45 #[.agg #[.int .i64 c, .int .i64 d], .agg #[.int .i64 i, .int .i64 j]] w fun e w' => e = .returned (.agg #[.int .i64 s1, .int .i64 s2]) ∧ Below w.heap.size w w') (e1 : ∀ w, Calls Try.prog 38 #[.agg #[.int .i64 a, .int .i64 b]] w fun e w' => e = .returned (.bool false) ∧ Below w.heap.size w w') (e2 : ∀ w, Calls Try.prog 38 #[.agg #[.int .i64 s1, .int .i64 s2]] w fun e w' => e = .returned (.bool false) ∧ Below w.heap.size w w') (k1 : ∀ w, Calls Try.prog 51 #[.agg #[.int .i64 a, .int .i64 b], .agg #[.int .i64 s1, .int .i64 s2]] w fun e w' => e = .returned (.agg #[.int .i64 l1, .int .i64 l2]) ∧ Below w.heap.size w w') (k2 : ∀ w, Calls Try.prog 51 #[.agg #[.int .i64 a, .int .i64 b], .agg #[.int .i64 c, .int .i64 d]] w fun e w' => e = .returned (.agg #[.int .i64 p1, .int .i64 p2]) ∧ Below w.heap.size w w') (k3 : ∀ w, Calls Try.prog 51 #[.agg #[.int .i64 a, .int .i64 b], .agg #[.int .i64 i, .int .i64 j]] w fun e w' => e = .returned (.agg #[.int .i64 q1, .int .i64 q2]) ∧ Below w.heap.size w w') (k4 : ∀ w, Calls Try.prog 45 #[.agg #[.int .i64 p1, .int .i64 p2], .agg #[.int .i64 q1, .int .i64 q2]] w fun e w' => e = .returned (.agg #[.int .i64 t1, .int .i64 t2]) ∧ Below w.heap.size w w') (k5 : ∀ w, Calls Try.prog 27 #[.agg #[.int .i64 l1, .int .i64 l2], .agg #[.int .i64 t1, .int .i64 t2]] w fun e w' => e = .returned (.bool true) ∧ Below w.heap.size w w') (k6 : ∀ w, Calls Try.prog 55 #[.agg #[.int .i64 p1, .int .i64 p2], .agg #[.int .i64 c, .int .i64 d]] w fun e w' => e = .returned (.agg #[.int .i64 v1, .int .i64 v2]) ∧ Below w.heap.size w w') (k7 : ∀ w, Calls Try.prog 27 #[.agg #[.int .i64 a, .int .i64 b], .agg #[.int .i64 v1, .int .i64 v2]] w fun e w' => e = .returned (.bool true) ∧ Below w.heap.size w w') (k8 : ∀ w, Calls Try.prog 47 #[.agg #[.int .i64 s1, .int .i64 s2], .agg #[.int .i64 i, .int .i64 j]] w fun e w' => e = .returned (.agg #[.int .i64 u1, .int .i64 u2]) ∧ Below w.heap.size w w') (k9 : ∀ w, Calls Try.prog 27 #[.agg #[.int .i64 c, .int .i64 d], .agg #[.int .i64 u1, .int .i64 u2]] w fun e w' => e = .returned (.bool true) ∧ Below w.heap.size w w') :
    Calls Try.prog 8 #[.agg #[.int .i64 x0, .int .i64 x1, .int .i64 x2, .int .i64 x3, .int .i32 x4, .int .u16 x5], .agg #[.int .i64 y0, .int .i64 y1]] w fun e w' => e = .returned (.bool true) ∧ Below w.heap.size w w' := by
  have hm1 := Lib.hid m1
  clear m1
  have hm2 := Lib.hid m2
  clear m2
  have hm3 := Lib.hid m3
  clear m3
  have had := Lib.hid ad
  clear ad
  have he1 := Lib.hid e1
  clear e1
  have he2 := Lib.hid e2
  clear e2
  have hk1 := Lib.hid k1
  clear k1
  have hk2 := Lib.hid k2
  clear k2
  have hk3 := Lib.hid k3
  clear k3
  have hk4 := Lib.hid k4
  clear k4
  have hk5 := Lib.hid k5
  clear k5
  have hk6 := Lib.hid k6
  clear k6
  have hk7 := Lib.hid k7
  clear k7
  have hk8 := Lib.hid k8
  clear k8
  have hk9 := Lib.hid k9
  clear k9
  go_enter Try.func8, Try.ntmps8
  go_wp2_with (fail)
  generalize hW0 : World.alloc (World.alloc w _) _ = W0
  have hT0 : Below w.heap.size w W0 := by subst hW0; exact (((Below.refl w.heap.size w).alloc (by go_size) _).alloc (by go_size) _)
  have Y0 : w.heap.size < W0.heap.size := by subst hW0; simp <;> omega
  have S0 : ∀ g : Grown W0, w.heap.size < g.w.heap.size := fun g => Nat.lt_of_lt_of_le Y0 g.h.size
  have F0_0 : ∀ g : Grown W0, g.w.cell? ⟨w.heap.size, 0, none⟩ = some (.int .i64 x0) := fun g => (g.cell Y0).trans (by subst hW0; simp [go_sem])
  have H0_0 : ∀ g : Grown W0, g.w.frozen? ⟨w.heap.size, 0, none⟩ = false := fun g => (g.frozen Y0).trans (by subst hW0; simp [go_sem])
  have F0_1 : ∀ g : Grown W0, g.w.cell? ⟨w.heap.size, 1, none⟩ = some (.int .i64 x1) := fun g => (g.cell Y0).trans (by subst hW0; simp [go_sem])
  have H0_1 : ∀ g : Grown W0, g.w.frozen? ⟨w.heap.size, 1, none⟩ = false := fun g => (g.frozen Y0).trans (by subst hW0; simp [go_sem])
  have F0_2 : ∀ g : Grown W0, g.w.cell? ⟨w.heap.size, 2, none⟩ = some (.int .i64 x2) := fun g => (g.cell Y0).trans (by subst hW0; simp [go_sem])
  have H0_2 : ∀ g : Grown W0, g.w.frozen? ⟨w.heap.size, 2, none⟩ = false := fun g => (g.frozen Y0).trans (by subst hW0; simp [go_sem])
  have F0_3 : ∀ g : Grown W0, g.w.cell? ⟨w.heap.size, 3, none⟩ = some (.int .i64 x3) := fun g => (g.cell Y0).trans (by subst hW0; simp [go_sem])
  have H0_3 : ∀ g : Grown W0, g.w.frozen? ⟨w.heap.size, 3, none⟩ = false := fun g => (g.frozen Y0).trans (by subst hW0; simp [go_sem])
  have F0_4 : ∀ g : Grown W0, g.w.cell? ⟨w.heap.size, 4, none⟩ = some (.int .i32 x4) := fun g => (g.cell Y0).trans (by subst hW0; simp [go_sem])
  have H0_4 : ∀ g : Grown W0, g.w.frozen? ⟨w.heap.size, 4, none⟩ = false := fun g => (g.frozen Y0).trans (by subst hW0; simp [go_sem])
  have F0_5 : ∀ g : Grown W0, g.w.cell? ⟨w.heap.size, 5, none⟩ = some (.int .u16 x5) := fun g => (g.cell Y0).trans (by subst hW0; simp [go_sem])
  have H0_5 : ∀ g : Grown W0, g.w.frozen? ⟨w.heap.size, 5, none⟩ = false := fun g => (g.frozen Y0).trans (by subst hW0; simp [go_sem])
  clear Y0
  have Y1 : w.heap.size + 1 < W0.heap.size := by subst hW0; simp <;> omega
  have S1 : ∀ g : Grown W0, w.heap.size + 1 < g.w.heap.size := fun g => Nat.lt_of_lt_of_le Y1 g.h.size
  have F1_0 : ∀ g : Grown W0, g.w.cell? ⟨w.heap.size + 1, 0, none⟩ = some (.int .i64 y0) := fun g => (g.cell Y1).trans (by subst hW0; simp [go_sem])
  have H1_0 : ∀ g : Grown W0, g.w.frozen? ⟨w.heap.size + 1, 0, none⟩ = false := fun g => (g.frozen Y1).trans (by subst hW0; simp [go_sem])
  have F1_1 : ∀ g : Grown W0, g.w.cell? ⟨w.heap.size + 1, 1, none⟩ = some (.int .i64 y1) := fun g => (g.cell Y1).trans (by subst hW0; simp [go_sem])
  have H1_1 : ∀ g : Grown W0, g.w.frozen? ⟨w.heap.size + 1, 1, none⟩ = false := fun g => (g.frozen Y1).trans (by subst hW0; simp [go_sem])
  clear Y1
  clear hW0
  obtain ⟨g0, hg0⟩ : ∃ g : Grown W0, W0 = g.w := ⟨⟨W0, Below.refl _ _⟩, rfl⟩
  rw [hg0]
  clear hg0
  refine (sanity2 _).mono ?_
  rintro e1 w1 ⟨rfl, hB1⟩
  obtain ⟨g1, rfl⟩ := grow g0 hB1
  clear hB1
  go_wp2_with (fail)
  refine region_data 11 23 _ (by kernel_rfl) new_iv (by kernel_rfl) ?_
  refine data_op (.pointer (some ⟨w.heap.size, 0, none⟩)) rfl (RQ_pure (fun w => by simp [go_sem])) ?_
  simp only [Act.put, List.setIfInBounds_toArray, List.set_cons_succ, List.set_cons_zero]
  refine data_op _ rfl (RQ_load rfl rfl (load_iv_at (S0 _) (F0_0 _) (F0_1 _))) ?_
  simp only [Act.put, List.setIfInBounds_toArray, List.set_cons_succ, List.set_cons_zero]
  refine data_op _ rfl (RQ_call hm1.out (fun _ => by simp [go_sem])) ?_
  simp only [Act.put, List.setIfInBounds_toArray, List.set_cons_succ, List.set_cons_zero]
  refine data_op (.pointer (some ⟨w.heap.size, 2, none⟩)) rfl (RQ_pure (fun w => by simp [go_sem])) ?_
  simp only [Act.put, List.setIfInBounds_toArray, List.set_cons_succ, List.set_cons_zero]
  refine data_op _ rfl (RQ_load rfl rfl (load_iv_at (S0 _) (F0_2 _) (F0_3 _))) ?_
  simp only [Act.put, List.setIfInBounds_toArray, List.set_cons_succ, List.set_cons_zero]
  refine data_op _ rfl (RQ_call hm2.out (fun _ => by simp [go_sem])) ?_
  simp only [Act.put, List.setIfInBounds_toArray, List.set_cons_succ, List.set_cons_zero]
  refine data_op _ rfl (RQ_load rfl rfl (load_iv_at (S1 _) (F1_0 _) (F1_1 _))) ?_
  simp only [Act.put, List.setIfInBounds_toArray, List.set_cons_succ, List.set_cons_zero]
  refine data_op _ rfl (RQ_call hm3.out (fun _ => by simp [go_sem])) ?_
  simp only [Act.put, List.setIfInBounds_toArray, List.set_cons_succ, List.set_cons_zero]
  refine data_al rfl ?_
  simp only [Act.put, List.setIfInBounds_toArray, List.set_cons_succ, List.set_cons_zero]
  refine data_al rfl ?_
  simp only [Act.put, List.setIfInBounds_toArray, List.set_cons_succ, List.set_cons_zero]
  refine data_al rfl ?_
  simp only [Act.put, List.setIfInBounds_toArray, List.set_cons_succ, List.set_cons_zero]
  refine data_end ?_
  intro wh hBh
  simp only [Act.put, List.drop_succ_cons, List.drop_zero, List.take_succ_cons, List.take_zero, alDsts, List.filterMap_cons, List.filterMap_nil, isAl, Bool.false_eq_true, if_false, if_true, finK]
  intro b0 p0 q0 r0 o0
  intro b1 p1 q1 r1 o1
  intro b2 p2 q2 r2 o2
  obtain ⟨u00, u01, v00, v01⟩ := new_cell o0
  obtain ⟨u10, u11, v10, v11⟩ := new_cell o1
  have n01 : b0 ≠ b1 := r1 b0 (by simp)
  obtain ⟨u20, u21, v20, v21⟩ := new_cell o2
  have n02 : b0 ≠ b2 := r2 b0 (by simp)
  have n12 : b1 ≠ b2 := r2 b1 (by simp)
  clear r0 o0 r1 o1 r2 o2
  simp only [List.setIfInBounds_toArray, List.set_cons_succ, List.set_cons_zero]
  refine list_store rfl rfl rfl rfl rfl (by exact u00) (by exact u01) (by exact v00) (by exact v01) ?_
  refine list_store rfl rfl rfl rfl rfl (by rw [st2_old (Ne.symm n01)]; exact u10) (by rw [st2_old (Ne.symm n01)]; exact u11) (by simp only [st2_frozen]; exact v10) (by simp only [st2_frozen]; exact v11) ?_
  refine list_store rfl rfl rfl rfl rfl (by rw [st2_old (Ne.symm n12)]; rw [st2_old (Ne.symm n02)]; exact u20) (by rw [st2_old (Ne.symm n12)]; rw [st2_old (Ne.symm n02)]; exact u21) (by simp only [st2_frozen]; exact v20) (by simp only [st2_frozen]; exact v21) ?_
  refine wpList_nil ?_
  generalize e1 : (st2 (st2 (st2 wh b0 (.int .i64 a) (.int .i64 b)) b1 (.int .i64 c) (.int .i64 d)) b2 (.int .i64 i) (.int .i64 j)) = W1
  have hL1 : Below g1.w.heap.size g1.w W1 := by rw [← e1]; exact (st2_below (st2_below (st2_below hBh p0) p1) p2)
  have hT1 : Below w.heap.size w W1 := below_then (below_then hT0 g1.h) hL1
  have s0 := S0 g1
  have Y0 : w.heap.size < W1.heap.size := Nat.lt_of_lt_of_le s0 hL1.size
  have c0_0 := F0_0 g1
  have d0_0 := H0_0 g1
  have c0_1 := F0_1 g1
  have d0_1 := H0_1 g1
  have c0_2 := F0_2 g1
  have d0_2 := H0_2 g1
  have c0_3 := F0_3 g1
  have d0_3 := H0_3 g1
  have c0_4 := F0_4 g1
  have d0_4 := H0_4 g1
  have c0_5 := F0_5 g1
  have d0_5 := H0_5 g1
  clear S0 F0_0 H0_0 F0_1 H0_1 F0_2 H0_2 F0_3 H0_3 F0_4 H0_4 F0_5 H0_5
  have S0 : ∀ g : Grown W1, w.heap.size < g.w.heap.size := fun g => Nat.lt_of_lt_of_le Y0 g.h.size
  have F0_0 : ∀ g : Grown W1, g.w.cell? ⟨w.heap.size, 0, none⟩ = some (.int .i64 x0) := fun g => (g.cell Y0).trans ((Below.cell hL1 (p := ⟨w.heap.size, 0, none⟩) s0).trans c0_0)
  have H0_0 : ∀ g : Grown W1, g.w.frozen? ⟨w.heap.size, 0, none⟩ = false := fun g => (g.frozen Y0).trans ((Below.frozen hL1 (p := ⟨w.heap.size, 0, none⟩) s0).trans d0_0)
  have F0_1 : ∀ g : Grown W1, g.w.cell? ⟨w.heap.size, 1, none⟩ = some (.int .i64 x1) := fun g => (g.cell Y0).trans ((Below.cell hL1 (p := ⟨w.heap.size, 1, none⟩) s0).trans c0_1)
  have H0_1 : ∀ g : Grown W1, g.w.frozen? ⟨w.heap.size, 1, none⟩ = false := fun g => (g.frozen Y0).trans ((Below.frozen hL1 (p := ⟨w.heap.size, 1, none⟩) s0).trans d0_1)
  have F0_2 : ∀ g : Grown W1, g.w.cell? ⟨w.heap.size, 2, none⟩ = some (.int .i64 x2) := fun g => (g.cell Y0).trans ((Below.cell hL1 (p := ⟨w.heap.size, 2, none⟩) s0).trans c0_2)
  have H0_2 : ∀ g : Grown W1, g.w.frozen? ⟨w.heap.size, 2, none⟩ = false := fun g => (g.frozen Y0).trans ((Below.frozen hL1 (p := ⟨w.heap.size, 2, none⟩) s0).trans d0_2)
  have F0_3 : ∀ g : Grown W1, g.w.cell? ⟨w.heap.size, 3, none⟩ = some (.int .i64 x3) := fun g => (g.cell Y0).trans ((Below.cell hL1 (p := ⟨w.heap.size, 3, none⟩) s0).trans c0_3)
  have H0_3 : ∀ g : Grown W1, g.w.frozen? ⟨w.heap.size, 3, none⟩ = false := fun g => (g.frozen Y0).trans ((Below.frozen hL1 (p := ⟨w.heap.size, 3, none⟩) s0).trans d0_3)
  have F0_4 : ∀ g : Grown W1, g.w.cell? ⟨w.heap.size, 4, none⟩ = some (.int .i32 x4) := fun g => (g.cell Y0).trans ((Below.cell hL1 (p := ⟨w.heap.size, 4, none⟩) s0).trans c0_4)
  have H0_4 : ∀ g : Grown W1, g.w.frozen? ⟨w.heap.size, 4, none⟩ = false := fun g => (g.frozen Y0).trans ((Below.frozen hL1 (p := ⟨w.heap.size, 4, none⟩) s0).trans d0_4)
  have F0_5 : ∀ g : Grown W1, g.w.cell? ⟨w.heap.size, 5, none⟩ = some (.int .u16 x5) := fun g => (g.cell Y0).trans ((Below.cell hL1 (p := ⟨w.heap.size, 5, none⟩) s0).trans c0_5)
  have H0_5 : ∀ g : Grown W1, g.w.frozen? ⟨w.heap.size, 5, none⟩ = false := fun g => (g.frozen Y0).trans ((Below.frozen hL1 (p := ⟨w.heap.size, 5, none⟩) s0).trans d0_5)
  clear Y0 s0 c0_0 d0_0 c0_1 d0_1 c0_2 d0_2 c0_3 d0_3 c0_4 d0_4 c0_5 d0_5
  have s1 := S1 g1
  have Y1 : w.heap.size + 1 < W1.heap.size := Nat.lt_of_lt_of_le s1 hL1.size
  have c1_0 := F1_0 g1
  have d1_0 := H1_0 g1
  have c1_1 := F1_1 g1
  have d1_1 := H1_1 g1
  clear S1 F1_0 H1_0 F1_1 H1_1
  have S1 : ∀ g : Grown W1, w.heap.size + 1 < g.w.heap.size := fun g => Nat.lt_of_lt_of_le Y1 g.h.size
  have F1_0 : ∀ g : Grown W1, g.w.cell? ⟨w.heap.size + 1, 0, none⟩ = some (.int .i64 y0) := fun g => (g.cell Y1).trans ((Below.cell hL1 (p := ⟨w.heap.size + 1, 0, none⟩) s1).trans c1_0)
  have H1_0 : ∀ g : Grown W1, g.w.frozen? ⟨w.heap.size + 1, 0, none⟩ = false := fun g => (g.frozen Y1).trans ((Below.frozen hL1 (p := ⟨w.heap.size + 1, 0, none⟩) s1).trans d1_0)
  have F1_1 : ∀ g : Grown W1, g.w.cell? ⟨w.heap.size + 1, 1, none⟩ = some (.int .i64 y1) := fun g => (g.cell Y1).trans ((Below.cell hL1 (p := ⟨w.heap.size + 1, 1, none⟩) s1).trans c1_1)
  have H1_1 : ∀ g : Grown W1, g.w.frozen? ⟨w.heap.size + 1, 1, none⟩ = false := fun g => (g.frozen Y1).trans ((Below.frozen hL1 (p := ⟨w.heap.size + 1, 1, none⟩) s1).trans d1_1)
  clear Y1 s1 c1_0 d1_0 c1_1 d1_1
  have Y2 : b0 < W1.heap.size := by rw [← e1]; simp only [st2_size]; exact q0
  have S2 : ∀ g : Grown W1, b0 < g.w.heap.size := fun g => Nat.lt_of_lt_of_le Y2 g.h.size
  have F2_0 : ∀ g : Grown W1, g.w.cell? ⟨b0, 0, none⟩ = some (.int .i64 a) := fun g => (g.cell Y2).trans (by rw [← e1]; rw [st2_old n02]; rw [st2_old n01]; exact st2_0 (u := .int .i64 0) (by exact u00))
  have H2_0 : ∀ g : Grown W1, g.w.frozen? ⟨b0, 0, none⟩ = false := fun g => (g.frozen Y2).trans (by rw [← e1]; simp only [st2_frozen]; exact v00)
  have F2_1 : ∀ g : Grown W1, g.w.cell? ⟨b0, 1, none⟩ = some (.int .i64 b) := fun g => (g.cell Y2).trans (by rw [← e1]; rw [st2_old n02]; rw [st2_old n01]; exact st2_1 (u := .int .i64 0) (by exact u01))
  have H2_1 : ∀ g : Grown W1, g.w.frozen? ⟨b0, 1, none⟩ = false := fun g => (g.frozen Y2).trans (by rw [← e1]; simp only [st2_frozen]; exact v01)
  clear Y2
  have Y3 : b1 < W1.heap.size := by rw [← e1]; simp only [st2_size]; exact q1
  have S3 : ∀ g : Grown W1, b1 < g.w.heap.size := fun g => Nat.lt_of_lt_of_le Y3 g.h.size
  have F3_0 : ∀ g : Grown W1, g.w.cell? ⟨b1, 0, none⟩ = some (.int .i64 c) := fun g => (g.cell Y3).trans (by rw [← e1]; rw [st2_old n12]; exact st2_0 (u := .int .i64 0) (by rw [st2_old (Ne.symm n01)]; exact u10))
  have H3_0 : ∀ g : Grown W1, g.w.frozen? ⟨b1, 0, none⟩ = false := fun g => (g.frozen Y3).trans (by rw [← e1]; simp only [st2_frozen]; exact v10)
  have F3_1 : ∀ g : Grown W1, g.w.cell? ⟨b1, 1, none⟩ = some (.int .i64 d) := fun g => (g.cell Y3).trans (by rw [← e1]; rw [st2_old n12]; exact st2_1 (u := .int .i64 0) (by rw [st2_old (Ne.symm n01)]; exact u11))
  have H3_1 : ∀ g : Grown W1, g.w.frozen? ⟨b1, 1, none⟩ = false := fun g => (g.frozen Y3).trans (by rw [← e1]; simp only [st2_frozen]; exact v11)
  clear Y3
  have Y4 : b2 < W1.heap.size := by rw [← e1]; simp only [st2_size]; exact q2
  have S4 : ∀ g : Grown W1, b2 < g.w.heap.size := fun g => Nat.lt_of_lt_of_le Y4 g.h.size
  have F4_0 : ∀ g : Grown W1, g.w.cell? ⟨b2, 0, none⟩ = some (.int .i64 i) := fun g => (g.cell Y4).trans (by rw [← e1]; exact st2_0 (u := .int .i64 0) (by rw [st2_old (Ne.symm n12)]; rw [st2_old (Ne.symm n02)]; exact u20))
  have H4_0 : ∀ g : Grown W1, g.w.frozen? ⟨b2, 0, none⟩ = false := fun g => (g.frozen Y4).trans (by rw [← e1]; simp only [st2_frozen]; exact v20)
  have F4_1 : ∀ g : Grown W1, g.w.cell? ⟨b2, 1, none⟩ = some (.int .i64 j) := fun g => (g.cell Y4).trans (by rw [← e1]; exact st2_1 (u := .int .i64 0) (by rw [st2_old (Ne.symm n12)]; rw [st2_old (Ne.symm n02)]; exact u21))
  have H4_1 : ∀ g : Grown W1, g.w.frozen? ⟨b2, 1, none⟩ = false := fun g => (g.frozen Y4).trans (by rw [← e1]; simp only [st2_frozen]; exact v21)
  clear Y4
  clear e1 hL1 hT0 hBh u00 u01 v00 v01 p0 q0 u10 u11 v10 v11 p1 q1 u20 u21 v20 v21 p2 q2 n01 n02 n12
  obtain ⟨h1, hg1⟩ : ∃ g : Grown W1, W1 = g.w := ⟨⟨W1, Below.refl _ _⟩, rfl⟩
  rw [hg1]
  clear hg1 g1
  go_wp2_with (fail)
  refine (had.out _).mono ?_
  rintro e2 w2 ⟨rfl, hB2⟩
  obtain ⟨g2, rfl⟩ := grow h1 hB2
  clear hB2
  go_wp2_with (fail)
  generalize hW2 : World.alloc g2.w _ = W2
  have hL2 : Below g2.w.heap.size g2.w W2 := by subst hW2; exact ((Below.refl _ _).alloc (by first | omega | (simp <;> omega)) _)
  have hT2 : Below w.heap.size w W2 := below_then (below_then hT1 g2.h) hL2
  obtain ⟨nb2, hnb2⟩ : ∃ nb, nb = g2.w.heap.size := ⟨_, rfl⟩
  have s0 := S0 g2
  have Y0 : w.heap.size < W2.heap.size := Nat.lt_of_lt_of_le s0 hL2.size
  have c0_0 := F0_0 g2
  have d0_0 := H0_0 g2
  have c0_1 := F0_1 g2
  have d0_1 := H0_1 g2
  have c0_2 := F0_2 g2
  have d0_2 := H0_2 g2
  have c0_3 := F0_3 g2
  have d0_3 := H0_3 g2
  have c0_4 := F0_4 g2
  have d0_4 := H0_4 g2
  have c0_5 := F0_5 g2
  have d0_5 := H0_5 g2
  clear S0 F0_0 H0_0 F0_1 H0_1 F0_2 H0_2 F0_3 H0_3 F0_4 H0_4 F0_5 H0_5
  have S0 : ∀ g : Grown W2, w.heap.size < g.w.heap.size := fun g => Nat.lt_of_lt_of_le Y0 g.h.size
  have F0_0 : ∀ g : Grown W2, g.w.cell? ⟨w.heap.size, 0, none⟩ = some (.int .i64 x0) := fun g => (g.cell Y0).trans ((Below.cell hL2 (p := ⟨w.heap.size, 0, none⟩) s0).trans c0_0)
  have H0_0 : ∀ g : Grown W2, g.w.frozen? ⟨w.heap.size, 0, none⟩ = false := fun g => (g.frozen Y0).trans ((Below.frozen hL2 (p := ⟨w.heap.size, 0, none⟩) s0).trans d0_0)
  have F0_1 : ∀ g : Grown W2, g.w.cell? ⟨w.heap.size, 1, none⟩ = some (.int .i64 x1) := fun g => (g.cell Y0).trans ((Below.cell hL2 (p := ⟨w.heap.size, 1, none⟩) s0).trans c0_1)
  have H0_1 : ∀ g : Grown W2, g.w.frozen? ⟨w.heap.size, 1, none⟩ = false := fun g => (g.frozen Y0).trans ((Below.frozen hL2 (p := ⟨w.heap.size, 1, none⟩) s0).trans d0_1)
  have F0_2 : ∀ g : Grown W2, g.w.cell? ⟨w.heap.size, 2, none⟩ = some (.int .i64 x2) := fun g => (g.cell Y0).trans ((Below.cell hL2 (p := ⟨w.heap.size, 2, none⟩) s0).trans c0_2)
  have H0_2 : ∀ g : Grown W2, g.w.frozen? ⟨w.heap.size, 2, none⟩ = false := fun g => (g.frozen Y0).trans ((Below.frozen hL2 (p := ⟨w.heap.size, 2, none⟩) s0).trans d0_2)
  have F0_3 : ∀ g : Grown W2, g.w.cell? ⟨w.heap.size, 3, none⟩ = some (.int .i64 x3) := fun g => (g.cell Y0).trans ((Below.cell hL2 (p := ⟨w.heap.size, 3, none⟩) s0).trans c0_3)
  have H0_3 : ∀ g : Grown W2, g.w.frozen? ⟨w.heap.size, 3, none⟩ = false := fun g => (g.frozen Y0).trans ((Below.frozen hL2 (p := ⟨w.heap.size, 3, none⟩) s0).trans d0_3)
  have F0_4 : ∀ g : Grown W2, g.w.cell? ⟨w.heap.size, 4, none⟩ = some (.int .i32 x4) := fun g => (g.cell Y0).trans ((Below.cell hL2 (p := ⟨w.heap.size, 4, none⟩) s0).trans c0_4)
  have H0_4 : ∀ g : Grown W2, g.w.frozen? ⟨w.heap.size, 4, none⟩ = false := fun g => (g.frozen Y0).trans ((Below.frozen hL2 (p := ⟨w.heap.size, 4, none⟩) s0).trans d0_4)
  have F0_5 : ∀ g : Grown W2, g.w.cell? ⟨w.heap.size, 5, none⟩ = some (.int .u16 x5) := fun g => (g.cell Y0).trans ((Below.cell hL2 (p := ⟨w.heap.size, 5, none⟩) s0).trans c0_5)
  have H0_5 : ∀ g : Grown W2, g.w.frozen? ⟨w.heap.size, 5, none⟩ = false := fun g => (g.frozen Y0).trans ((Below.frozen hL2 (p := ⟨w.heap.size, 5, none⟩) s0).trans d0_5)
  clear Y0 s0 c0_0 d0_0 c0_1 d0_1 c0_2 d0_2 c0_3 d0_3 c0_4 d0_4 c0_5 d0_5
  have s1 := S1 g2
  have Y1 : w.heap.size + 1 < W2.heap.size := Nat.lt_of_lt_of_le s1 hL2.size
  have c1_0 := F1_0 g2
  have d1_0 := H1_0 g2
  have c1_1 := F1_1 g2
  have d1_1 := H1_1 g2
  clear S1 F1_0 H1_0 F1_1 H1_1
  have S1 : ∀ g : Grown W2, w.heap.size + 1 < g.w.heap.size := fun g => Nat.lt_of_lt_of_le Y1 g.h.size
  have F1_0 : ∀ g : Grown W2, g.w.cell? ⟨w.heap.size + 1, 0, none⟩ = some (.int .i64 y0) := fun g => (g.cell Y1).trans ((Below.cell hL2 (p := ⟨w.heap.size + 1, 0, none⟩) s1).trans c1_0)
  have H1_0 : ∀ g : Grown W2, g.w.frozen? ⟨w.heap.size + 1, 0, none⟩ = false := fun g => (g.frozen Y1).trans ((Below.frozen hL2 (p := ⟨w.heap.size + 1, 0, none⟩) s1).trans d1_0)
  have F1_1 : ∀ g : Grown W2, g.w.cell? ⟨w.heap.size + 1, 1, none⟩ = some (.int .i64 y1) := fun g => (g.cell Y1).trans ((Below.cell hL2 (p := ⟨w.heap.size + 1, 1, none⟩) s1).trans c1_1)
  have H1_1 : ∀ g : Grown W2, g.w.frozen? ⟨w.heap.size + 1, 1, none⟩ = false := fun g => (g.frozen Y1).trans ((Below.frozen hL2 (p := ⟨w.heap.size + 1, 1, none⟩) s1).trans d1_1)
  clear Y1 s1 c1_0 d1_0 c1_1 d1_1
  have s2 := S2 g2
  have Y2 : b0 < W2.heap.size := Nat.lt_of_lt_of_le s2 hL2.size
  have c2_0 := F2_0 g2
  have d2_0 := H2_0 g2
  have c2_1 := F2_1 g2
  have d2_1 := H2_1 g2
  clear S2 F2_0 H2_0 F2_1 H2_1
  have S2 : ∀ g : Grown W2, b0 < g.w.heap.size := fun g => Nat.lt_of_lt_of_le Y2 g.h.size
  have F2_0 : ∀ g : Grown W2, g.w.cell? ⟨b0, 0, none⟩ = some (.int .i64 a) := fun g => (g.cell Y2).trans ((Below.cell hL2 (p := ⟨b0, 0, none⟩) s2).trans c2_0)
  have H2_0 : ∀ g : Grown W2, g.w.frozen? ⟨b0, 0, none⟩ = false := fun g => (g.frozen Y2).trans ((Below.frozen hL2 (p := ⟨b0, 0, none⟩) s2).trans d2_0)
  have F2_1 : ∀ g : Grown W2, g.w.cell? ⟨b0, 1, none⟩ = some (.int .i64 b) := fun g => (g.cell Y2).trans ((Below.cell hL2 (p := ⟨b0, 1, none⟩) s2).trans c2_1)
  have H2_1 : ∀ g : Grown W2, g.w.frozen? ⟨b0, 1, none⟩ = false := fun g => (g.frozen Y2).trans ((Below.frozen hL2 (p := ⟨b0, 1, none⟩) s2).trans d2_1)
  clear Y2 s2 c2_0 d2_0 c2_1 d2_1
  have s3 := S3 g2
  have Y3 : b1 < W2.heap.size := Nat.lt_of_lt_of_le s3 hL2.size
  have c3_0 := F3_0 g2
  have d3_0 := H3_0 g2
  have c3_1 := F3_1 g2
  have d3_1 := H3_1 g2
  clear S3 F3_0 H3_0 F3_1 H3_1
  have S3 : ∀ g : Grown W2, b1 < g.w.heap.size := fun g => Nat.lt_of_lt_of_le Y3 g.h.size
  have F3_0 : ∀ g : Grown W2, g.w.cell? ⟨b1, 0, none⟩ = some (.int .i64 c) := fun g => (g.cell Y3).trans ((Below.cell hL2 (p := ⟨b1, 0, none⟩) s3).trans c3_0)
  have H3_0 : ∀ g : Grown W2, g.w.frozen? ⟨b1, 0, none⟩ = false := fun g => (g.frozen Y3).trans ((Below.frozen hL2 (p := ⟨b1, 0, none⟩) s3).trans d3_0)
  have F3_1 : ∀ g : Grown W2, g.w.cell? ⟨b1, 1, none⟩ = some (.int .i64 d) := fun g => (g.cell Y3).trans ((Below.cell hL2 (p := ⟨b1, 1, none⟩) s3).trans c3_1)
  have H3_1 : ∀ g : Grown W2, g.w.frozen? ⟨b1, 1, none⟩ = false := fun g => (g.frozen Y3).trans ((Below.frozen hL2 (p := ⟨b1, 1, none⟩) s3).trans d3_1)
  clear Y3 s3 c3_0 d3_0 c3_1 d3_1
  have s4 := S4 g2
  have Y4 : b2 < W2.heap.size := Nat.lt_of_lt_of_le s4 hL2.size
  have c4_0 := F4_0 g2
  have d4_0 := H4_0 g2
  have c4_1 := F4_1 g2
  have d4_1 := H4_1 g2
  clear S4 F4_0 H4_0 F4_1 H4_1
  have S4 : ∀ g : Grown W2, b2 < g.w.heap.size := fun g => Nat.lt_of_lt_of_le Y4 g.h.size
  have F4_0 : ∀ g : Grown W2, g.w.cell? ⟨b2, 0, none⟩ = some (.int .i64 i) := fun g => (g.cell Y4).trans ((Below.cell hL2 (p := ⟨b2, 0, none⟩) s4).trans c4_0)
  have H4_0 : ∀ g : Grown W2, g.w.frozen? ⟨b2, 0, none⟩ = false := fun g => (g.frozen Y4).trans ((Below.frozen hL2 (p := ⟨b2, 0, none⟩) s4).trans d4_0)
  have F4_1 : ∀ g : Grown W2, g.w.cell? ⟨b2, 1, none⟩ = some (.int .i64 j) := fun g => (g.cell Y4).trans ((Below.cell hL2 (p := ⟨b2, 1, none⟩) s4).trans c4_1)
  have H4_1 : ∀ g : Grown W2, g.w.frozen? ⟨b2, 1, none⟩ = false := fun g => (g.frozen Y4).trans ((Below.frozen hL2 (p := ⟨b2, 1, none⟩) s4).trans d4_1)
  clear Y4 s4 c4_0 d4_0 c4_1 d4_1
  have Y5 : nb2 < W2.heap.size := by subst hW2; subst hnb2; simp <;> omega
  have S5 : ∀ g : Grown W2, nb2 < g.w.heap.size := fun g => Nat.lt_of_lt_of_le Y5 g.h.size
  have F5_0 : ∀ g : Grown W2, g.w.cell? ⟨nb2, 0, none⟩ = some (.int .i64 s1) := fun g => (g.cell Y5).trans (by subst hW2; subst hnb2; simp [go_sem])
  have H5_0 : ∀ g : Grown W2, g.w.frozen? ⟨nb2, 0, none⟩ = false := fun g => (g.frozen Y5).trans (by subst hW2; subst hnb2; simp [go_sem])
  have F5_1 : ∀ g : Grown W2, g.w.cell? ⟨nb2, 1, none⟩ = some (.int .i64 s2) := fun g => (g.cell Y5).trans (by subst hW2; subst hnb2; simp [go_sem])
  have H5_1 : ∀ g : Grown W2, g.w.frozen? ⟨nb2, 1, none⟩ = false := fun g => (g.frozen Y5).trans (by subst hW2; subst hnb2; simp [go_sem])
  clear Y5
  rw [← hnb2]
  clear hnb2 hW2 hT1 hL2
  obtain ⟨h2, hg2⟩ : ∃ g : Grown W2, W2 = g.w := ⟨⟨W2, Below.refl _ _⟩, rfl⟩
  rw [hg2]
  clear hg2 g2
  refine (he1.out _).mono ?_
  rintro e3 w3 ⟨rfl, hB3⟩
  obtain ⟨g3, rfl⟩ := grow h2 hB3
  clear hB3
  go_wp2_with (fail)
  refine (he2.out _).mono ?_
  rintro e4 w4 ⟨rfl, hB4⟩
  obtain ⟨g4, rfl⟩ := grow g3 hB4
  clear hB4
  go_wp2_with (fail)
  refine region_quiet' g4 (by kernel_rfl) (by kernel_rfl) ?_
  repeat (go_big_quiet_step (first | exact qc (hk1.out _) | exact qc (hk2.out _) | exact qc (hk3.out _) | exact qc (hk4.out _) | exact qc (hk5.out _) | exact qc (hk6.out _) | exact qc (hk7.out _) | exact qc (hk8.out _) | exact qc (hk9.out _)))
  refine wpQuiet_nil ?_
  rintro _ ⟨g5, rfl⟩
  go_wp2_with (fail)
  refine region_quiet' g5 (by kernel_rfl) (by kernel_rfl) ?_
  repeat (go_big_quiet_step (first | exact qc (hk1.out _) | exact qc (hk2.out _) | exact qc (hk3.out _) | exact qc (hk4.out _) | exact qc (hk5.out _) | exact qc (hk6.out _) | exact qc (hk7.out _) | exact qc (hk8.out _) | exact qc (hk9.out _)))
  refine wpQuiet_nil ?_
  rintro _ ⟨g6, rfl⟩
  go_wp2_with (fail)
  have hB : Below w.heap.size w g6.w := below_then hT2 g6.h
  go_ret
  refine ⟨rfl, ?_⟩
  go_grown

theorem sub (x0 x1 x2 x3 x4 x5 : Int) (h : ∀ p ∈ [(IntKind.i64, x0), (IntKind.i64, x1), (IntKind.i64, x2), (IntKind.i64, x3), (IntKind.i32, x4), (IntKind.u16, x5)], p.1.has p.2) (y0 y1 : Int) (hy : ∀ x ∈ [y0, y1], IntKind.has .i64 x) (w : World) :
    Calls Try.prog 8 #[.agg #[.int .i64 x0, .int .i64 x1, .int .i64 x2, .int .i64 x3, .int .i32 x4, .int .u16 x5], .agg #[.int .i64 y0, .int .i64 y1]] w fun e w' => e = .returned (.bool true) ∧ Below w.heap.size w w' := by
  obtain ⟨⟨a, b, hv, m1⟩, ⟨c, d, hw, m2⟩, -⟩ := operands h
  have hy0 := has_i64 (hy y0 (by simp))
  have hy1 := has_i64 (hy y1 (by simp))
  obtain ⟨e, f, hz, m3⟩ := r2made y0 y1 hy0.1 hy0.2 hy1.1 hy1.2
  have ad := fun w => iv_add c d e f w hw hz
  have hsv := add_vi hw.bd.2.2.2.2 hz.bd.2.2.2.2
  by_cases he : Ent a b
  · obtain ⟨rfl, rfl⟩ := he
    exact sub_walk1 x0 x1 x2 x3 x4 x5 y0 y1 _ _ c d e f _ _ w m1 m2 m3 ad (fun w => r2ent_yes w)
  by_cases hs : Ent (addLo c d e f) (addHi c d e f)
  · exact sub_walk2 x0 x1 x2 x3 x4 x5 y0 y1 a b c d e f _ _ w m1 m2 m3 ad (fun w => r2ent_no a b w he) (fun w => by rw [hs.1, hs.2]; exact r2ent_yes w)
  obtain ⟨_, _, _, _, q1, q2⟩ := add_not_ent hs
  have hd := sub_dist (a := a) (b := b) hs
  have hb := mul_div_back hv hw he
  have hc := sum_back hw hz hs
  have e2 := fun w => r2ent_no _ _ w hs
  rw [q1, q2] at ad e2 hsv
  exact sub_walk3 x0 x1 x2 x3 x4 x5 y0 y1 a b c d e f _ _ _ _ _ _ _ _ _ _ _ _ _ _ w m1 m2 m3 ad (fun w => r2ent_no a b w he) e2
    (fun w => iv_mul a b (c + e) (d + f) w hv hsv) (fun w => iv_mul a b c d w hv hw) (fun w => iv_mul a b e f w hv hz) (fun w => iv_add _ _ _ _ w (mul_vi a b c d) (mul_vi a b e f)) (fun w => iv_subset _ _ _ _ true w (by simp [hd.1, hd.2]))
    (fun w => iv_div _ _ c d w (mul_vi a b c d) hw) (fun w => iv_subset _ _ _ _ true w (by simp [hb.1, hb.2])) (fun w => iv_sub (c + e) (d + f) e f w hsv hz) (fun w => iv_subset _ _ _ _ true w (by simp [hc.1, hc.2]))
end Go.Proofs.Ytgkhkclpgkohbaa
