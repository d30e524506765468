/-
  law02: IntervalTightness.
-/
import Derived.Test.YtpepgheocemjdaaLTi1
import Derived.Test.YtpepgheocemjdaaIw4a
import Derived.Test.YtpepgheocemjdaaIw9
import Derived.Test.YtpepgheocemjdaaIw10
import Derived.Test.YtpepgheocemjdaaIvMath
import Derived.Test.YtpepgheocemjdaaR1
namespace Go.Proofs.Ytpepgheocemjdaa
open Go.ChangeShapes Go.WideShapes Go.ChangeAt Go.RowKit
set_option linter.unusedVariables false
set_option linter.unusedSimpArgs false
set_option maxRecDepth 100000

attribute [local irreducible] Calls

set_option maxRecDepth 100000 in
set_option maxHeartbeats 8000000 in
theorem tight_e1 (x0 x1 x2 x3 x4 x5 a b c d : Int) (w : World) (m1h : ∀ w, Calls Try.prog 13 #[.agg #[.int .i64 x0, .int .i64 x1]] w fun e w' => e = .returned (.agg #[.int .i64 a, .int .i64 b]) ∧ Below w.heap.size w w') (m2h : ∀ w, Calls Try.prog 13 #[.agg #[.int .i64 x2, .int .i64 x3]] w fun e w' => e = .returned (.agg #[.int .i64 c, .int .i64 d]) ∧ Below w.heap.size w w') (eah : ∀ w, Calls Try.prog 14 #[.agg #[.int .i64 a, .int .i64 b]] w fun e w' => e = .returned (.bool true) ∧ Below w.heap.size w w') :
    Calls Try.prog 3 #[.agg #[.int .i64 x0, .int .i64 x1, .int .i64 x2, .int .i64 x3, .int .i32 x4, .int .u16 x5]] w fun e w' => e = .returned (.bool true) ∧ Below w.heap.size w w' := by
  have hm1 := Lib.hid m1h
  clear m1h
  have hm2 := Lib.hid m2h
  clear m2h
  have hea := Lib.hid eah
  clear eah
  go_enter Try.func3, Try.ntmps3
  go_wp2_with (fail)
  generalize hW0 : World.alloc w _ = W0
  have hT0 : Below w.heap.size w W0 := by subst hW0; exact ((Below.refl w.heap.size w).alloc (by go_size) _)
  have Y0 : w.heap.size < W0.heap.size := by subst hW0; simp <;> omega
  have S0 : ∀ g : Grown W0, w.heap.size < g.w.heap.size := fun g => Nat.lt_of_lt_of_le Y0 g.h.size
  have F0_0 : ∀ g : Grown W0, g.w.cell? ⟨w.heap.size, 0, none⟩ = some (.int .i64 x0) := fun g => (g.cell Y0).trans (by subst hW0; simp [go_sem])
  have H0_0 : ∀ g : Grown W0, g.w.frozen? ⟨w.heap.size, 0, none⟩ = false := fun g => (g.frozen Y0).trans (by subst hW0; simp [go_sem])
  have F0_1 : ∀ g : Grown W0, g.w.cell? ⟨w.heap.size, 1, none⟩ = some (.int .i64 x1) := fun g => (g.cell Y0).trans (by subst hW0; simp [go_sem])
  have H0_1 : ∀ g : Grown W0, g.w.frozen? ⟨w.heap.size, 1, none⟩ = false := fun g => (g.frozen Y0).trans (by subst hW0; simp [go_sem])
  have F0_2 : ∀ g : Grown W0, g.w.cell? ⟨w.heap.size, 2, none⟩ = some (.int .i64 x2) := fun g => (g.cell Y0).trans (by subst hW0; simp [go_sem])
  have H0_2 : ∀ g : Grown W0, g.w.frozen? ⟨w.heap.size, 2, none⟩ = false := fun g => (g.frozen Y0).trans (by subst hW0; simp [go_sem])
  have F0_3 : ∀ g : Grown W0, g.w.cell? ⟨w.heap.size, 3, none⟩ = some (.int .i64 x3) := fun g => (g.cell Y0).trans (by subst hW0; simp [go_sem])
  have H0_3 : ∀ g : Grown W0, g.w.frozen? ⟨w.heap.size, 3, none⟩ = false := fun g => (g.frozen Y0).trans (by subst hW0; simp [go_sem])
  have F0_4 : ∀ g : Grown W0, g.w.cell? ⟨w.heap.size, 4, none⟩ = some (.int .i32 x4) := fun g => (g.cell Y0).trans (by subst hW0; simp [go_sem])
  have H0_4 : ∀ g : Grown W0, g.w.frozen? ⟨w.heap.size, 4, none⟩ = false := fun g => (g.frozen Y0).trans (by subst hW0; simp [go_sem])
  have F0_5 : ∀ g : Grown W0, g.w.cell? ⟨w.heap.size, 5, none⟩ = some (.int .u16 x5) := fun g => (g.cell Y0).trans (by subst hW0; simp [go_sem])
  have H0_5 : ∀ g : Grown W0, g.w.frozen? ⟨w.heap.size, 5, none⟩ = false := fun g => (g.frozen Y0).trans (by subst hW0; simp [go_sem])
  clear Y0
  clear hW0
  obtain ⟨g0, hg0⟩ : ∃ g : Grown W0, W0 = g.w := ⟨⟨W0, Below.refl _ _⟩, rfl⟩
  rw [hg0]
  clear hg0
  refine (sanity2 _).mono ?_
  rintro e1 w1 ⟨rfl, hB1⟩
  obtain ⟨g1, rfl⟩ := grow g0 hB1
  clear hB1
  go_wp2_with (fail)
  refine region_data 8 23 _ (by kernel_rfl) new_iv (by kernel_rfl) ?_
  refine data_op (.pointer (some ⟨w.heap.size, 0, none⟩)) rfl (RQ_pure (fun w => by simp [go_sem])) ?_
  simp only [Act.put, List.setIfInBounds_toArray, List.set_cons_succ, List.set_cons_zero]
  refine data_op _ rfl (RQ_load rfl rfl (load_iv_at (S0 _) (F0_0 _) (F0_1 _))) ?_
  simp only [Act.put, List.setIfInBounds_toArray, List.set_cons_succ, List.set_cons_zero]
  refine data_op _ rfl (RQ_call hm1.out (fun _ => by simp [go_sem])) ?_
  simp only [Act.put, List.setIfInBounds_toArray, List.set_cons_succ, List.set_cons_zero]
  refine data_op (.pointer (some ⟨w.heap.size, 2, none⟩)) rfl (RQ_pure (fun w => by simp [go_sem])) ?_
  simp only [Act.put, List.setIfInBounds_toArray, List.set_cons_succ, List.set_cons_zero]
  refine data_op _ rfl (RQ_load rfl rfl (load_iv_at (S0 _) (F0_2 _) (F0_3 _))) ?_
  simp only [Act.put, List.setIfInBounds_toArray, List.set_cons_succ, List.set_cons_zero]
  refine data_op _ rfl (RQ_call hm2.out (fun _ => by simp [go_sem])) ?_
  simp only [Act.put, List.setIfInBounds_toArray, List.set_cons_succ, List.set_cons_zero]
  refine data_al rfl ?_
  simp only [Act.put, List.setIfInBounds_toArray, List.set_cons_succ, List.set_cons_zero]
  refine data_al rfl ?_
  simp only [Act.put, List.setIfInBounds_toArray, List.set_cons_succ, List.set_cons_zero]
  refine data_end ?_
  intro wh hBh
  simp only [Act.put, List.drop_succ_cons, List.drop_zero, List.take_succ_cons, List.take_zero, alDsts, List.filterMap_cons, List.filterMap_nil, isAl, Bool.false_eq_true, if_false, if_true, finK]
  intro b1x0 p0 q0 r0 o0
  intro b1x1 p1 q1 r1 o1
  obtain ⟨u00, u01, v00, v01⟩ := new_cell o0
  obtain ⟨u10, u11, v10, v11⟩ := new_cell o1
  have n01 : b1x0 ≠ b1x1 := r1 b1x0 (by simp)
  clear r0 o0 r1 o1
  simp only [List.setIfInBounds_toArray, List.set_cons_succ, List.set_cons_zero]
  refine list_store rfl rfl rfl rfl rfl (by exact u00) (by exact u01) (by exact v00) (by exact v01) ?_
  refine list_store rfl rfl rfl rfl rfl (by rw [st2_old (Ne.symm n01)]; exact u10) (by rw [st2_old (Ne.symm n01)]; exact u11) (by simp only [st2_frozen]; exact v10) (by simp only [st2_frozen]; exact v11) ?_
  refine wpList_nil ?_
  generalize e1 : (st2 (st2 wh b1x0 (.int .i64 a) (.int .i64 b)) b1x1 (.int .i64 c) (.int .i64 d)) = W1
  have hL1 : Below g1.w.heap.size g1.w W1 := by rw [← e1]; exact (st2_below (st2_below hBh p0) p1)
  have hT1 : Below w.heap.size w W1 := below_then (below_then hT0 g1.h) hL1
  have s0 := S0 g1
  have Y0 : w.heap.size < W1.heap.size := Nat.lt_of_lt_of_le s0 hL1.size
  have c0_0 := F0_0 g1
  have d0_0 := H0_0 g1
  have c0_1 := F0_1 g1
  have d0_1 := H0_1 g1
  have c0_2 := F0_2 g1
  have d0_2 := H0_2 g1
  have c0_3 := F0_3 g1
  have d0_3 := H0_3 g1
  have c0_4 := F0_4 g1
  have d0_4 := H0_4 g1
  have c0_5 := F0_5 g1
  have d0_5 := H0_5 g1
  clear S0 F0_0 H0_0 F0_1 H0_1 F0_2 H0_2 F0_3 H0_3 F0_4 H0_4 F0_5 H0_5
  have S0 : ∀ g : Grown W1, w.heap.size < g.w.heap.size := fun g => Nat.lt_of_lt_of_le Y0 g.h.size
  have F0_0 : ∀ g : Grown W1, g.w.cell? ⟨w.heap.size, 0, none⟩ = some (.int .i64 x0) := fun g => (g.cell Y0).trans ((Below.cell hL1 (p := ⟨w.heap.size, 0, none⟩) s0).trans c0_0)
  have H0_0 : ∀ g : Grown W1, g.w.frozen? ⟨w.heap.size, 0, none⟩ = false := fun g => (g.frozen Y0).trans ((Below.frozen hL1 (p := ⟨w.heap.size, 0, none⟩) s0).trans d0_0)
  have F0_1 : ∀ g : Grown W1, g.w.cell? ⟨w.heap.size, 1, none⟩ = some (.int .i64 x1) := fun g => (g.cell Y0).trans ((Below.cell hL1 (p := ⟨w.heap.size, 1, none⟩) s0).trans c0_1)
  have H0_1 : ∀ g : Grown W1, g.w.frozen? ⟨w.heap.size, 1, none⟩ = false := fun g => (g.frozen Y0).trans ((Below.frozen hL1 (p := ⟨w.heap.size, 1, none⟩) s0).trans d0_1)
  have F0_2 : ∀ g : Grown W1, g.w.cell? ⟨w.heap.size, 2, none⟩ = some (.int .i64 x2) := fun g => (g.cell Y0).trans ((Below.cell hL1 (p := ⟨w.heap.size, 2, none⟩) s0).trans c0_2)
  have H0_2 : ∀ g : Grown W1, g.w.frozen? ⟨w.heap.size, 2, none⟩ = false := fun g => (g.frozen Y0).trans ((Below.frozen hL1 (p := ⟨w.heap.size, 2, none⟩) s0).trans d0_2)
  have F0_3 : ∀ g : Grown W1, g.w.cell? ⟨w.heap.size, 3, none⟩ = some (.int .i64 x3) := fun g => (g.cell Y0).trans ((Below.cell hL1 (p := ⟨w.heap.size, 3, none⟩) s0).trans c0_3)
  have H0_3 : ∀ g : Grown W1, g.w.frozen? ⟨w.heap.size, 3, none⟩ = false := fun g => (g.frozen Y0).trans ((Below.frozen hL1 (p := ⟨w.heap.size, 3, none⟩) s0).trans d0_3)
  have F0_4 : ∀ g : Grown W1, g.w.cell? ⟨w.heap.size, 4, none⟩ = some (.int .i32 x4) := fun g => (g.cell Y0).trans ((Below.cell hL1 (p := ⟨w.heap.size, 4, none⟩) s0).trans c0_4)
  have H0_4 : ∀ g : Grown W1, g.w.frozen? ⟨w.heap.size, 4, none⟩ = false := fun g => (g.frozen Y0).trans ((Below.frozen hL1 (p := ⟨w.heap.size, 4, none⟩) s0).trans d0_4)
  have F0_5 : ∀ g : Grown W1, g.w.cell? ⟨w.heap.size, 5, none⟩ = some (.int .u16 x5) := fun g => (g.cell Y0).trans ((Below.cell hL1 (p := ⟨w.heap.size, 5, none⟩) s0).trans c0_5)
  have H0_5 : ∀ g : Grown W1, g.w.frozen? ⟨w.heap.size, 5, none⟩ = false := fun g => (g.frozen Y0).trans ((Below.frozen hL1 (p := ⟨w.heap.size, 5, none⟩) s0).trans d0_5)
  clear Y0 s0 c0_0 d0_0 c0_1 d0_1 c0_2 d0_2 c0_3 d0_3 c0_4 d0_4 c0_5 d0_5
  have Y1 : b1x0 < W1.heap.size := by rw [← e1]; simp only [st2_size]; exact q0
  have S1 : ∀ g : Grown W1, b1x0 < g.w.heap.size := fun g => Nat.lt_of_lt_of_le Y1 g.h.size
  have F1_0 : ∀ g : Grown W1, g.w.cell? ⟨b1x0, 0, none⟩ = some (.int .i64 a) := fun g => (g.cell Y1).trans (by rw [← e1]; rw [st2_old n01]; exact st2_0 (u := .int .i64 0) (by exact u00))
  have H1_0 : ∀ g : Grown W1, g.w.frozen? ⟨b1x0, 0, none⟩ = false := fun g => (g.frozen Y1).trans (by rw [← e1]; simp only [st2_frozen]; exact v00)
  have F1_1 : ∀ g : Grown W1, g.w.cell? ⟨b1x0, 1, none⟩ = some (.int .i64 b) := fun g => (g.cell Y1).trans (by rw [← e1]; rw [st2_old n01]; exact st2_1 (u := .int .i64 0) (by exact u01))
  have H1_1 : ∀ g : Grown W1, g.w.frozen? ⟨b1x0, 1, none⟩ = false := fun g => (g.frozen Y1).trans (by rw [← e1]; simp only [st2_frozen]; exact v01)
  clear Y1
  have Y2 : b1x1 < W1.heap.size := by rw [← e1]; simp only [st2_size]; exact q1
  have S2 : ∀ g : Grown W1, b1x1 < g.w.heap.size := fun g => Nat.lt_of_lt_of_le Y2 g.h.size
  have F2_0 : ∀ g : Grown W1, g.w.cell? ⟨b1x1, 0, none⟩ = some (.int .i64 c) := fun g => (g.cell Y2).trans (by rw [← e1]; exact st2_0 (u := .int .i64 0) (by rw [st2_old (Ne.symm n01)]; exact u10))
  have H2_0 : ∀ g : Grown W1, g.w.frozen? ⟨b1x1, 0, none⟩ = false := fun g => (g.frozen Y2).trans (by rw [← e1]; simp only [st2_frozen]; exact v10)
  have F2_1 : ∀ g : Grown W1, g.w.cell? ⟨b1x1, 1, none⟩ = some (.int .i64 d) := fun g => (g.cell Y2).trans (by rw [← e1]; exact st2_1 (u := .int .i64 0) (by rw [st2_old (Ne.symm n01)]; exact u11))
  have H2_1 : ∀ g : Grown W1, g.w.frozen? ⟨b1x1, 1, none⟩ = false := fun g => (g.frozen Y2).trans (by rw [← e1]; simp only [st2_frozen]; exact v11)
  clear Y2
  clear e1 hL1 hT0 hBh u00 u01 v00 v01 p0 q0 u10 u11 v10 v11 p1 q1 n01
  obtain ⟨h1, hg1⟩ : ∃ g : Grown W1, W1 = g.w := ⟨⟨W1, Below.refl _ _⟩, rfl⟩
  rw [hg1]
  clear hg1 g1
  go_wp2_with (fail)
  refine (hea.out _).mono ?_
  rintro e2 w2 ⟨rfl, hB2⟩
  obtain ⟨g2, rfl⟩ := grow h1 hB2
  clear hB2
  go_wp2_with (fail)
  have hB : Below w.heap.size w g2.w := below_then hT1 g2.h
  go_ret
  refine ⟨rfl, ?_⟩
  go_grown

set_option maxRecDepth 100000 in
set_option maxHeartbeats 8000000 in
theorem tight_e2 (x0 x1 x2 x3 x4 x5 a b c d : Int) (w : World) (m1h : ∀ w, Calls Try.prog 13 #[.agg #[.int .i64 x0, .int .i64 x1]] w fun e w' => e = .returned (.agg #[.int .i64 a, .int .i64 b]) ∧ Below w.heap.size w w') (m2h : ∀ w, Calls Try.prog 13 #[.agg #[.int .i64 x2, .int .i64 x3]] w fun e w' => e = .returned (.agg #[.int .i64 c, .int .i64 d]) ∧ Below w.heap.size w w') (eah : ∀ w, Calls Try.prog 14 #[.agg #[.int .i64 a, .int .i64 b]] w fun e w' => e = .returned (.bool false) ∧ Below w.heap.size w w') (ebh : ∀ w, Calls Try.prog 14 #[.agg #[.int .i64 c, .int .i64 d]] w fun e w' => e = .returned (.bool true) ∧ Below w.heap.size w w') :
    Calls Try.prog 3 #[.agg #[.int .i64 x0, .int .i64 x1, .int .i64 x2, .int .i64 x3, .int .i32 x4, .int .u16 x5]] w fun e w' => e = .returned (.bool true) ∧ Below w.heap.size w w' := by
  have hm1 := Lib.hid m1h
  clear m1h
  have hm2 := Lib.hid m2h
  clear m2h
  have hea := Lib.hid eah
  clear eah
  have heb := Lib.hid ebh
  clear ebh
  go_enter Try.func3, Try.ntmps3
  go_wp2_with (fail)
  generalize hW0 : World.alloc w _ = W0
  have hT0 : Below w.heap.size w W0 := by subst hW0; exact ((Below.refl w.heap.size w).alloc (by go_size) _)
  have Y0 : w.heap.size < W0.heap.size := by subst hW0; simp <;> omega
  have S0 : ∀ g : Grown W0, w.heap.size < g.w.heap.size := fun g => Nat.lt_of_lt_of_le Y0 g.h.size
  have F0_0 : ∀ g : Grown W0, g.w.cell? ⟨w.heap.size, 0, none⟩ = some (.int .i64 x0) := fun g => (g.cell Y0).trans (by subst hW0; simp [go_sem])
  have H0_0 : ∀ g : Grown W0, g.w.frozen? ⟨w.heap.size, 0, none⟩ = false := fun g => (g.frozen Y0).trans (by subst hW0; simp [go_sem])
  have F0_1 : ∀ g : Grown W0, g.w.cell? ⟨w.heap.size, 1, none⟩ = some (.int .i64 x1) := fun g => (g.cell Y0).trans (by subst hW0; simp [go_sem])
  have H0_1 : ∀ g : Grown W0, g.w.frozen? ⟨w.heap.size, 1, none⟩ = false := fun g => (g.frozen Y0).trans (by subst hW0; simp [go_sem])
  have F0_2 : ∀ g : Grown W0, g.w.cell? ⟨w.heap.size, 2, none⟩ = some (.int .i64 x2) := fun g => (g.cell Y0).trans (by subst hW0; simp [go_sem])
  have H0_2 : ∀ g : Grown W0, g.w.frozen? ⟨w.heap.size, 2, none⟩ = false := fun g => (g.frozen Y0).trans (by subst hW0; simp [go_sem])
  have F0_3 : ∀ g : Grown W0, g.w.cell? ⟨w.heap.size, 3, none⟩ = some (.int .i64 x3) := fun g => (g.cell Y0).trans (by subst hW0; simp [go_sem])
  have H0_3 : ∀ g : Grown W0, g.w.frozen? ⟨w.heap.size, 3, none⟩ = false := fun g => (g.frozen Y0).trans (by subst hW0; simp [go_sem])
  have F0_4 : ∀ g : Grown W0, g.w.cell? ⟨w.heap.size, 4, none⟩ = some (.int .i32 x4) := fun g => (g.cell Y0).trans (by subst hW0; simp [go_sem])
  have H0_4 : ∀ g : Grown W0, g.w.frozen? ⟨w.heap.size, 4, none⟩ = false := fun g => (g.frozen Y0).trans (by subst hW0; simp [go_sem])
  have F0_5 : ∀ g : Grown W0, g.w.cell? ⟨w.heap.size, 5, none⟩ = some (.int .u16 x5) := fun g => (g.cell Y0).trans (by subst hW0; simp [go_sem])
  have H0_5 : ∀ g : Grown W0, g.w.frozen? ⟨w.heap.size, 5, none⟩ = false := fun g => (g.frozen Y0).trans (by subst hW0; simp [go_sem])
  clear Y0
  clear hW0
  obtain ⟨g0, hg0⟩ : ∃ g : Grown W0, W0 = g.w := ⟨⟨W0, Below.refl _ _⟩, rfl⟩
  rw [hg0]
  clear hg0
  refine (sanity2 _).mono ?_
  rintro e1 w1 ⟨rfl, hB1⟩
  obtain ⟨g1, rfl⟩ := grow g0 hB1
  clear hB1
  go_wp2_with (fail)
  refine region_data 8 23 _ (by kernel_rfl) new_iv (by kernel_rfl) ?_
  refine data_op (.pointer (some ⟨w.heap.size, 0, none⟩)) rfl (RQ_pure (fun w => by simp [go_sem])) ?_
  simp only [Act.put, List.setIfInBounds_toArray, List.set_cons_succ, List.set_cons_zero]
  refine data_op _ rfl (RQ_load rfl rfl (load_iv_at (S0 _) (F0_0 _) (F0_1 _))) ?_
  simp only [Act.put, List.setIfInBounds_toArray, List.set_cons_succ, List.set_cons_zero]
  refine data_op _ rfl (RQ_call hm1.out (fun _ => by simp [go_sem])) ?_
  simp only [Act.put, List.setIfInBounds_toArray, List.set_cons_succ, List.set_cons_zero]
  refine data_op (.pointer (some ⟨w.heap.size, 2, none⟩)) rfl (RQ_pure (fun w => by simp [go_sem])) ?_
  simp only [Act.put, List.setIfInBounds_toArray, List.set_cons_succ, List.set_cons_zero]
  refine data_op _ rfl (RQ_load rfl rfl (load_iv_at (S0 _) (F0_2 _) (F0_3 _))) ?_
  simp only [Act.put, List.setIfInBounds_toArray, List.set_cons_succ, List.set_cons_zero]
  refine data_op _ rfl (RQ_call hm2.out (fun _ => by simp [go_sem])) ?_
  simp only [Act.put, List.setIfInBounds_toArray, List.set_cons_succ, List.set_cons_zero]
  refine data_al rfl ?_
  simp only [Act.put, List.setIfInBounds_toArray, List.set_cons_succ, List.set_cons_zero]
  refine data_al rfl ?_
  simp only [Act.put, List.setIfInBounds_toArray, List.set_cons_succ, List.set_cons_zero]
  refine data_end ?_
  intro wh hBh
  simp only [Act.put, List.drop_succ_cons, List.drop_zero, List.take_succ_cons, List.take_zero, alDsts, List.filterMap_cons, List.filterMap_nil, isAl, Bool.false_eq_true, if_false, if_true, finK]
  intro b1x0 p0 q0 r0 o0
  intro b1x1 p1 q1 r1 o1
  obtain ⟨u00, u01, v00, v01⟩ := new_cell o0
  obtain ⟨u10, u11, v10, v11⟩ := new_cell o1
  have n01 : b1x0 ≠ b1x1 := r1 b1x0 (by simp)
  clear r0 o0 r1 o1
  simp only [List.setIfInBounds_toArray, List.set_cons_succ, List.set_cons_zero]
  refine list_store rfl rfl rfl rfl rfl (by exact u00) (by exact u01) (by exact v00) (by exact v01) ?_
  refine list_store rfl rfl rfl rfl rfl (by rw [st2_old (Ne.symm n01)]; exact u10) (by rw [st2_old (Ne.symm n01)]; exact u11) (by simp only [st2_frozen]; exact v10) (by simp only [st2_frozen]; exact v11) ?_
  refine wpList_nil ?_
  generalize e1 : (st2 (st2 wh b1x0 (.int .i64 a) (.int .i64 b)) b1x1 (.int .i64 c) (.int .i64 d)) = W1
  have hL1 : Below g1.w.heap.size g1.w W1 := by rw [← e1]; exact (st2_below (st2_below hBh p0) p1)
  have hT1 : Below w.heap.size w W1 := below_then (below_then hT0 g1.h) hL1
  have s0 := S0 g1
  have Y0 : w.heap.size < W1.heap.size := Nat.lt_of_lt_of_le s0 hL1.size
  have c0_0 := F0_0 g1
  have d0_0 := H0_0 g1
  have c0_1 := F0_1 g1
  have d0_1 := H0_1 g1
  have c0_2 := F0_2 g1
  have d0_2 := H0_2 g1
  have c0_3 := F0_3 g1
  have d0_3 := H0_3 g1
  have c0_4 := F0_4 g1
  have d0_4 := H0_4 g1
  have c0_5 := F0_5 g1
  have d0_5 := H0_5 g1
  clear S0 F0_0 H0_0 F0_1 H0_1 F0_2 H0_2 F0_3 H0_3 F0_4 H0_4 F0_5 H0_5
  have S0 : ∀ g : Grown W1, w.heap.size < g.w.heap.size := fun g => Nat.lt_of_lt_of_le Y0 g.h.size
  have F0_0 : ∀ g : Grown W1, g.w.cell? ⟨w.heap.size, 0, none⟩ = some (.int .i64 x0) := fun g => (g.cell Y0).trans ((Below.cell hL1 (p := ⟨w.heap.size, 0, none⟩) s0).trans c0_0)
  have H0_0 : ∀ g : Grown W1, g.w.frozen? ⟨w.heap.size, 0, none⟩ = false := fun g => (g.frozen Y0).trans ((Below.frozen hL1 (p := ⟨w.heap.size, 0, none⟩) s0).trans d0_0)
  have F0_1 : ∀ g : Grown W1, g.w.cell? ⟨w.heap.size, 1, none⟩ = some (.int .i64 x1) := fun g => (g.cell Y0).trans ((Below.cell hL1 (p := ⟨w.heap.size, 1, none⟩) s0).trans c0_1)
  have H0_1 : ∀ g : Grown W1, g.w.frozen? ⟨w.heap.size, 1, none⟩ = false := fun g => (g.frozen Y0).trans ((Below.frozen hL1 (p := ⟨w.heap.size, 1, none⟩) s0).trans d0_1)
  have F0_2 : ∀ g : Grown W1, g.w.cell? ⟨w.heap.size, 2, none⟩ = some (.int .i64 x2) := fun g => (g.cell Y0).trans ((Below.cell hL1 (p := ⟨w.heap.size, 2, none⟩) s0).trans c0_2)
  have H0_2 : ∀ g : Grown W1, g.w.frozen? ⟨w.heap.size, 2, none⟩ = false := fun g => (g.frozen Y0).trans ((Below.frozen hL1 (p := ⟨w.heap.size, 2, none⟩) s0).trans d0_2)
  have F0_3 : ∀ g : Grown W1, g.w.cell? ⟨w.heap.size, 3, none⟩ = some (.int .i64 x3) := fun g => (g.cell Y0).trans ((Below.cell hL1 (p := ⟨w.heap.size, 3, none⟩) s0).trans c0_3)
  have H0_3 : ∀ g : Grown W1, g.w.frozen? ⟨w.heap.size, 3, none⟩ = false := fun g => (g.frozen Y0).trans ((Below.frozen hL1 (p := ⟨w.heap.size, 3, none⟩) s0).trans d0_3)
  have F0_4 : ∀ g : Grown W1, g.w.cell? ⟨w.heap.size, 4, none⟩ = some (.int .i32 x4) := fun g => (g.cell Y0).trans ((Below.cell hL1 (p := ⟨w.heap.size, 4, none⟩) s0).trans c0_4)
  have H0_4 : ∀ g : Grown W1, g.w.frozen? ⟨w.heap.size, 4, none⟩ = false := fun g => (g.frozen Y0).trans ((Below.frozen hL1 (p := ⟨w.heap.size, 4, none⟩) s0).trans d0_4)
  have F0_5 : ∀ g : Grown W1, g.w.cell? ⟨w.heap.size, 5, none⟩ = some (.int .u16 x5) := fun g => (g.cell Y0).trans ((Below.cell hL1 (p := ⟨w.heap.size, 5, none⟩) s0).trans c0_5)
  have H0_5 : ∀ g : Grown W1, g.w.frozen? ⟨w.heap.size, 5, none⟩ = false := fun g => (g.frozen Y0).trans ((Below.frozen hL1 (p := ⟨w.heap.size, 5, none⟩) s0).trans d0_5)
  clear Y0 s0 c0_0 d0_0 c0_1 d0_1 c0_2 d0_2 c0_3 d0_3 c0_4 d0_4 c0_5 d0_5
  have Y1 : b1x0 < W1.heap.size := by rw [← e1]; simp only [st2_size]; exact q0
  have S1 : ∀ g : Grown W1, b1x0 < g.w.heap.size := fun g => Nat.lt_of_lt_of_le Y1 g.h.size
  have F1_0 : ∀ g : Grown W1, g.w.cell? ⟨b1x0, 0, none⟩ = some (.int .i64 a) := fun g => (g.cell Y1).trans (by rw [← e1]; rw [st2_old n01]; exact st2_0 (u := .int .i64 0) (by exact u00))
  have H1_0 : ∀ g : Grown W1, g.w.frozen? ⟨b1x0, 0, none⟩ = false := fun g => (g.frozen Y1).trans (by rw [← e1]; simp only [st2_frozen]; exact v00)
  have F1_1 : ∀ g : Grown W1, g.w.cell? ⟨b1x0, 1, none⟩ = some (.int .i64 b) := fun g => (g.cell Y1).trans (by rw [← e1]; rw [st2_old n01]; exact st2_1 (u := .int .i64 0) (by exact u01))
  have H1_1 : ∀ g : Grown W1, g.w.frozen? ⟨b1x0, 1, none⟩ = false := fun g => (g.frozen Y1).trans (by rw [← e1]; simp only [st2_frozen]; exact v01)
  clear Y1
  have Y2 : b1x1 < W1.heap.size := by rw [← e1]; simp only [st2_size]; exact q1
  have S2 : ∀ g : Grown W1, b1x1 < g.w.heap.size := fun g => Nat.lt_of_lt_of_le Y2 g.h.size
  have F2_0 : ∀ g : Grown W1, g.w.cell? ⟨b1x1, 0, none⟩ = some (.int .i64 c) := fun g => (g.cell Y2).trans (by rw [← e1]; exact st2_0 (u := .int .i64 0) (by rw [st2_old (Ne.symm n01)]; exact u10))
  have H2_0 : ∀ g : Grown W1, g.w.frozen? ⟨b1x1, 0, none⟩ = false := fun g => (g.frozen Y2).trans (by rw [← e1]; simp only [st2_frozen]; exact v10)
  have F2_1 : ∀ g : Grown W1, g.w.cell? ⟨b1x1, 1, none⟩ = some (.int .i64 d) := fun g => (g.cell Y2).trans (by rw [← e1]; exact st2_1 (u := .int .i64 0) (by rw [st2_old (Ne.symm n01)]; exact u11))
  have H2_1 : ∀ g : Grown W1, g.w.frozen? ⟨b1x1, 1, none⟩ = false := fun g => (g.frozen Y2).trans (by rw [← e1]; simp only [st2_frozen]; exact v11)
  clear Y2
  clear e1 hL1 hT0 hBh u00 u01 v00 v01 p0 q0 u10 u11 v10 v11 p1 q1 n01
  obtain ⟨h1, hg1⟩ : ∃ g : Grown W1, W1 = g.w := ⟨⟨W1, Below.refl _ _⟩, rfl⟩
  rw [hg1]
  clear hg1 g1
  go_wp2_with (fail)
  refine (hea.out _).mono ?_
  rintro e2 w2 ⟨rfl, hB2⟩
  obtain ⟨g2, rfl⟩ := grow h1 hB2
  clear hB2
  go_wp2_with (fail)
  refine (heb.out _).mono ?_
  rintro e3 w3 ⟨rfl, hB3⟩
  obtain ⟨g3, rfl⟩ := grow g2 hB3
  clear hB3
  go_wp2_with (fail)
  have hB : Below w.heap.size w g3.w := below_then hT1 g3.h
  go_ret
  refine ⟨rfl, ?_⟩
  go_grown

theorem r2isent (a b : Int) (w : World) : Calls Try.prog 14 #[.agg #[.int .i64 a, .int .i64 b]] w fun e w' => e = .returned (.bool ((a == -2147483648) && (b == 2147483648))) ∧ Below w.heap.size w w' := by
  by_cases h : Ent a b
  · obtain ⟨rfl, rfl⟩ := h
    exact r2ent_yes w
  · have : ((a == -2147483648) && (b == 2147483648)) = false := by
      unfold Ent at h
      rw [Bool.eq_false_iff]
      intro k
      simp at k
      exact h k
    rw [this]
    exact r2ent_no a b w h
theorem or_lo {x y : Bool} (h : x = false) : y = (x || y) := by rw [h, Bool.false_or]
theorem or_hi {x y : Bool} (h : x = true) : (x || y) = true := by rw [h, Bool.true_or]
theorem dv_rel {x m y : Bool} : (m = true → (x = false → y = (x || (m && y))) ∧ (x = true → (x || (m && y)) = true)) ∧ (m = false → (x || (m && y)) = x) := by
  cases x <;> cases m <;> cases y <;> decide
theorem dv_rel0 {m y : Bool} : (m = true → (false = false → y = (m && y)) ∧ (false = true → (m && y) = true)) ∧ (m = false → (m && y) = false) := by
  cases m <;> cases y <;> decide
theorem not_ent {x y : Int} (h : ((x == -2147483648) && (y == 2147483648)) = false) : ¬ Ent x y := by
  rintro ⟨rfl, rfl⟩
  cases h
theorem dn_w {n d B : Int} (hd : 0 < d) (h1 : -B ≤ n) (h2 : n ≤ B) (hB : 0 ≤ B) : -B ≤ dn n d ∧ dn n d ≤ B := by
  have q1 := dn_mul n hd
  constructor
  · refine dn_le hd ?_
    have := Int.mul_le_mul_of_nonneg_left (show (1 : Int) ≤ d by omega) hB
    rw [Int.mul_one] at this
    rw [Int.neg_mul]
    omega
  · by_cases hc : B < dn n d
    · have h3 := Int.mul_le_mul_of_nonneg_left (show (1 : Int) ≤ d by omega) (show 0 ≤ dn n d by omega)
      rw [Int.mul_one] at h3
      omega
    · omega
theorem dn_w2 {n d B : Int} (hd : ¬ d = 0) (h1 : -B ≤ n) (h2 : n ≤ B) (hB : 0 ≤ B) : -B ≤ dn n d ∧ dn n d ≤ B := by
  by_cases h : 0 < d
  · exact dn_w h h1 h2 hB
  · have := dn_w (n := -n) (d := -d) (B := B) (by omega) (by omega) (by omega) hB
    rwa [dn_flip] at this
theorem ceil_ok {n : Int} (h : -4611686018427387904 ≤ n ∧ n ≤ 4611686018427387904) (w : World) :
    Calls Try.prog 20 #[.int .i64 n, .int .i64 65536] w fun e w' => e = .returned (.int .i64 (up n 65536)) ∧ w = w' := by
  have := dn_w (n := -n) (d := 65536) (B := 4611686018427387904) (by decide) (by omega) (by omega) (by decide)
  exact r2ceil n 65536 w h.1 h.2 (by decide) (by omega)
theorem ceil_ok2 {n d : Int} (h : -4611686018427387904 ≤ n ∧ n ≤ 4611686018427387904) (hd : ¬ d = 0) (w : World) :
    Calls Try.prog 20 #[.int .i64 n, .int .i64 d] w fun e w' => e = .returned (.int .i64 (up n d)) ∧ w = w' := by
  have := dn_w2 (n := -n) (d := d) (B := 4611686018427387904) hd (by omega) (by omega) (by decide)
  exact r2ceil n d w h.1 h.2 hd (by omega)
theorem mk_not {x y : Int} (h : ¬ Ent (mkLo x y) (mkHi x y)) : mkLo x y = x ∧ mkHi x y = y := by
  unfold mkLo mkHi at *
  by_cases hc : Num x ∧ Num y
  · rw [if_pos hc, if_pos hc]
    exact ⟨rfl, rfl⟩
  · rw [if_neg hc, if_neg hc] at h
    exact absurd ⟨rfl, rfl⟩ h
theorem num_bd {a b : Int} (hv : VI a b) (he : ¬ Ent a b) : -2147483647 ≤ a ∧ a ≤ b ∧ b ≤ 2147483647 := by
  have := hv.resolve_left he
  unfold Num at this
  omega
section
variable {a b c d : Int} (hv : VI a b) (hw : VI c d) (hea : ¬ Ent a b) (heb : ¬ Ent c d)
include hv hw hea heb
theorem tight_mul (h : ¬ Ent (mulLo a b c d) (mulHi a b c d)) : (dn (a * c) 65536 = mulLo a b c d ∨ dn (a * d) 65536 = mulLo a b c d ∨ dn (b * c) 65536 = mulLo a b c d ∨ dn (b * d) 65536 = mulLo a b c d) ∧ (up (a * c) 65536 = mulHi a b c d ∨ up (a * d) 65536 = mulHi a b c d ∨ up (b * c) 65536 = mulHi a b c d ∨ up (b * d) 65536 = mulHi a b c d) := by
  have _ := hv
  have _ := hw
  have hn : ¬ (Ent a b ∨ Ent c d) := fun q => q.elim hea heb
  unfold mulLo mulHi at *
  rw [if_neg hn, if_neg hn] at *
  have := mk_not h
  rw [this.1, this.2]
  have e1 : mn4 a b c d = a * c ∨ mn4 a b c d = a * d ∨ mn4 a b c d = b * c ∨ mn4 a b c d = b * d := by unfold mn4; omega
  have e2 : mx4 a b c d = a * c ∨ mx4 a b c d = a * d ∨ mx4 a b c d = b * c ∨ mx4 a b c d = b * d := by unfold mx4; omega
  constructor
  · rcases e1 with e | e | e | e <;> rw [e] <;> simp
  · rcases e2 with e | e | e | e <;> rw [e] <;> simp
theorem tight_div (h : ¬ Ent (divLo a b c d) (divHi a b c d)) : ¬ c = 0 ∧ ¬ d = 0 ∧ (dn (a * 65536) c = divLo a b c d ∨ dn (a * 65536) d = divLo a b c d ∨ dn (b * 65536) c = divLo a b c d ∨ dn (b * 65536) d = divLo a b c d) ∧ (up (a * 65536) c = divHi a b c d ∨ up (a * 65536) d = divHi a b c d ∨ up (b * 65536) c = divHi a b c d ∨ up (b * 65536) d = divHi a b c d) := by
  have hb := num_bd hv hea
  have hd := num_bd hw heb
  by_cases hz : c ≤ 0 ∧ 0 ≤ d
  · exfalso
    unfold divLo divHi at h
    rw [if_pos (.inr hz), if_pos (.inr hz)] at h
    exact h ⟨rfl, rfl⟩
  · have hn : ¬ (Ent a b ∨ (c ≤ 0 ∧ 0 ≤ d)) := fun q => q.elim hea hz
    unfold divLo divHi at *
    rw [if_neg hn, if_neg hn] at *
    have := mk_not h
    rw [this.1, this.2]
    refine ⟨by omega, by omega, ?_, ?_⟩
    · unfold dv1
      omega
    · unfold dv2
      omega
theorem tight_add (h : ¬ Ent (addLo a b c d) (addHi a b c d)) : addLo a b c d = a + c ∧ addHi a b c d = b + d := by
  have _ := hv
  have _ := hw
  have hn : ¬ (Ent a b ∨ Ent c d) := fun q => q.elim hea heb
  unfold addLo addHi at *
  rw [if_neg hn, if_neg hn] at *
  exact mk_not h
end
theorem tight_sq {a b : Int} (hea : ¬ Ent a b) (h : ¬ Ent (sqLo a b) (sqHi a b)) : ((a ≤ 0 ∧ 0 ≤ b ∧ sqLo a b = 0) ∨ dn (a * a) 65536 = sqLo a b ∨ dn (b * b) 65536 = sqLo a b) ∧ (up (a * a) 65536 = sqHi a b ∨ up (b * b) 65536 = sqHi a b) := by
  unfold sqLo sqHi at *
  rw [if_neg hea, if_neg hea] at *
  have := mk_not h
  rw [this.1, this.2]
  constructor
  · unfold sq1
    by_cases hc : a ≤ 0 ∧ 0 ≤ b
    · rw [if_pos hc]
      exact .inl ⟨hc.1, hc.2, by decide⟩
    · rw [if_neg hc]
      right
      rcases Int.le_total (a * a) (b * b) with k | k
      · left; rw [Int.min_eq_left k]
      · right; rw [Int.min_eq_right k]
  · unfold sq2
    rcases Int.le_total (a * a) (b * b) with k | k
    · right; rw [Int.max_eq_right k]
    · left; rw [Int.max_eq_left k]
theorem rt1_spec {a : Int} (h : a ≤ 2147483648) : 0 ≤ rt1 a ∧ rt1 a ≤ 16777216 ∧ max a 0 * 65536 < (rt1 a + 1) * (rt1 a + 1) := by
  have s := isq_spec (n := max a 0 * 65536) (by omega)
  have l := isq_lt (n := max a 0 * 65536) (q := 16777217) (by omega) (by omega) (by decide)
  unfold rt1
  exact ⟨s.1, by omega, s.2.2⟩
theorem rt2_spec {b : Int} (h0 : 0 ≤ b) (h : b ≤ 2147483648) : 0 ≤ rt2 b ∧ rt2 b ≤ 16777218 ∧ (rt2 b = 0 ∨ (rt2 b - 1) * (rt2 b - 1) < b * 65536) := by
  have s := isq_spec (n := b * 65536) (by omega)
  have l := isq_lt (n := b * 65536) (q := 16777217) (by omega) (by omega) (by decide)
  unfold rt2 usq
  generalize isq (b * 65536) = q at *
  by_cases hc : q * q = b * 65536
  · rw [if_pos hc]
    refine ⟨s.1, by omega, ?_⟩
    by_cases hq : q = 0
    · exact .inl hq
    · right
      have e : (q - 1) * (q - 1) = q * q - 2 * q + 1 := by rw [Int.sub_mul, Int.mul_sub]; omega
      omega
  · rw [if_neg hc]
    refine ⟨by omega, by omega, .inr ?_⟩
    rw [show q + 1 - 1 = q by omega]
    omega
theorem prod_bd {x y : Int} (h1 : -2147483648 ≤ x) (h2 : x ≤ 2147483648) (h3 : -2147483648 ≤ y) (h4 : y ≤ 2147483648) : -4611686018427387904 ≤ x * y ∧ x * y ≤ 4611686018427387904 := by
  have := mul_bound x y 2147483648 2147483648 h1 h2 h3 h4
  omega
theorem has64 {x : Int} (h : IntKind.has .i64 x) : -9223372036854775808 ≤ x ∧ x ≤ 9223372036854775807 := by
  have e1 : IntKind.i64.min = -9223372036854775808 := by rfl
  have e2 : IntKind.i64.max = 9223372036854775807 := by rfl
  simpa only [IntKind.has, e1, e2] using h
set_option maxHeartbeats 4000000 in
theorem tight (x0 x1 x2 x3 x4 x5 : Int) (h : ∀ p ∈ [(IntKind.i64, x0), (IntKind.i64, x1), (IntKind.i64, x2), (IntKind.i64, x3), (IntKind.i32, x4), (IntKind.u16, x5)], p.1.has p.2) (w : World) :
    Calls Try.prog 3 #[.agg #[.int .i64 x0, .int .i64 x1, .int .i64 x2, .int .i64 x3, .int .i32 x4, .int .u16 x5]] w fun e w' => e = .returned (.bool true) ∧ Below w.heap.size w w' := by
  have g0 := has64 (h (IntKind.i64, x0) (by simp))
  have g1 := has64 (h (IntKind.i64, x1) (by simp))
  have g2 := has64 (h (IntKind.i64, x2) (by simp))
  have g3 := has64 (h (IntKind.i64, x3) (by simp))
  simp only at g0 g1 g2 g3
  obtain ⟨a, b, hv, c1⟩ := r2made x0 x1 g0.1 g0.2 g1.1 g1.2
  obtain ⟨c, d, hw, c2⟩ := r2made x2 x3 g2.1 g2.2 g3.1 g3.2
  by_cases hea : Ent a b
  · obtain ⟨rfl, rfl⟩ := hea
    exact tight_e1 x0 x1 x2 x3 x4 x5 _ _ c d w c1 c2 r2ent_yes
  by_cases heb : Ent c d
  · obtain ⟨rfl, rfl⟩ := heb
    exact tight_e2 x0 x1 x2 x3 x4 x5 a b _ _ w c1 c2 (fun w => r2ent_no a b w hea) r2ent_yes
  have ka := num_bd hv hea
  have kc := num_bd hw heb
  have b0 := prod_bd (x := a) (y := c) (by omega) (by omega) (by omega) (by omega)
  have b1 := prod_bd (x := a) (y := d) (by omega) (by omega) (by omega) (by omega)
  have b2 := prod_bd (x := b) (y := c) (by omega) (by omega) (by omega) (by omega)
  have b3 := prod_bd (x := b) (y := d) (by omega) (by omega) (by omega) (by omega)
  have b4 := prod_bd (x := a) (y := a) (by omega) (by omega) (by omega) (by omega)
  have b5 := prod_bd (x := b) (y := b) (by omega) (by omega) (by omega) (by omega)
  have b6 : -4611686018427387904 ≤ a * 65536 ∧ a * 65536 ≤ 4611686018427387904 := by omega
  have b7 : -4611686018427387904 ≤ b * 65536 ∧ b * 65536 ≤ 4611686018427387904 := by omega
  have b10 : -4611686018427387904 ≤ max a 0 * 65536 ∧ max a 0 * 65536 ≤ 4611686018427387904 := by omega
  have i0 : -2147483648 ≤ a ∧ a ≤ 2147483648 := by omega
  have i1 : -2147483648 ≤ b ∧ b ≤ 2147483648 := by omega
  have i2 : -2147483648 ≤ c ∧ c ≤ 2147483648 := by omega
  have i3 : -2147483648 ≤ d ∧ d ≤ 2147483648 := by omega
  have tM := tight_mul hv hw hea heb
  have tD := tight_div hv hw hea heb
  have tA := tight_add hv hw hea heb
  have tQ2 := tight_sq (a := a) (b := b) hea
  have hMu := fun w => iv_mul a b c d w hv hw
  have hSq := fun w => iv_square a b w hv
  have hDv := fun w => iv_div a b c d w hv hw
  have hAd := fun w => iv_add a b c d w hv hw
  generalize mulLo a b c d = P1 at *
  generalize mulHi a b c d = P2 at *
  generalize divLo a b c d = Q1 at *
  generalize divHi a b c d = Q2 at *
  generalize addLo a b c d = U1 at *
  generalize addHi a b c d = U2 at *
  generalize sqLo a b = S1 at *
  generalize sqHi a b = S2 at *
  have tP : ((P1 == -2147483648) && (P2 == 2147483648)) = false → ((((dn (a * c) 65536 == P1) || (dn (a * d) 65536 == P1)) || (dn (b * c) 65536 == P1)) || (dn (b * d) 65536 == P1)) = true ∧ ((((up (a * c) 65536 == P2) || (up (a * d) 65536 == P2)) || (up (b * c) 65536 == P2)) || (up (b * d) 65536 == P2)) = true := fun h => by
    have := tM (not_ent h)
    constructor
    · rcases this.1 with e | e | e | e <;> simp [e]
    · rcases this.2 with e | e | e | e <;> simp [e]
  have tQ : ((Q1 == -2147483648) && (Q2 == 2147483648)) = false → (((((c != 0) && (dn (a * 65536) c == Q1)) || ((d != 0) && (dn (a * 65536) d == Q1))) || ((c != 0) && (dn (b * 65536) c == Q1))) || ((d != 0) && (dn (b * 65536) d == Q1))) = true ∧ (((((c != 0) && (up (a * 65536) c == Q2)) || ((d != 0) && (up (a * 65536) d == Q2))) || ((c != 0) && (up (b * 65536) c == Q2))) || ((d != 0) && (up (b * 65536) d == Q2))) = true := fun h => by
    obtain ⟨z1, z2, e1, e2⟩ := tD (not_ent h)
    have n1 : (c != 0) = true := by simpa using z1
    have n2 : (d != 0) = true := by simpa using z2
    rw [n1, n2]
    constructor
    · rcases e1 with e | e | e | e <;> simp [e]
    · rcases e2 with e | e | e | e <;> simp [e]
  have tU : ((U1 == -2147483648) && (U2 == 2147483648)) = false → (U1 != (a + c)) = false ∧ (U2 != (b + d)) = false := fun h => by
    have := tA (not_ent h)
    rw [this.1, this.2]
    simp
  have tS : ((S1 == -2147483648) && (S2 == 2147483648)) = false → (((decide (a ≤ 0) && decide (0 ≤ b)) && (S1 == 0)) || (dn (a * a) 65536 == S1) || (dn (b * b) 65536 == S1)) = true ∧ ((up (a * a) 65536 == S2) || (up (b * b) 65536 == S2)) = true := fun h => by
    have := tQ2 (not_ent h)
    constructor
    · rcases this.1 with ⟨e1, e2, e3⟩ | e | e
      · simp [e1, e2, e3]
      · simp [e]
      · simp [e]
    · rcases this.2 with e | e <;> simp [e]
  have fin : ∀ (r1 r2 : Int) (is : Bool), (∀ w, Calls Try.prog 21 #[.agg #[.int .i64 a, .int .i64 b]] w fun e w' => e = .returned (.tuple #[.agg #[.int .i64 r1, .int .i64 r2], .bool is]) ∧ Below w.heap.size w w') → (0 ≤ r1 ∧ r1 ≤ 16777218) → (0 ≤ r2 ∧ r2 ≤ 16777218) → (is = false → decide (b < 0) = true) → (is = true → decide (max a 0 * 65536 < (r1 + 1) * (r1 + 1)) = true) → (is = true → (r2 == 0) = false → decide ((r2 - 1) * (r2 - 1) < b * 65536) = true) → Calls Try.prog 3 #[.agg #[.int .i64 x0, .int .i64 x1, .int .i64 x2, .int .i64 x3, .int .i32 x4, .int .u16 x5]] w fun e w' => e = .returned (.bool true) ∧ Below w.heap.size w w' := by
    intro r1 r2 is hrt j1 j2 tI tR tR2
    have b8 := prod_bd (x := r1 + 1) (y := r1 + 1) (by omega) (by omega) (by omega) (by omega)
    have b9 := prod_bd (x := r2 - 1) (y := r2 - 1) (by omega) (by omega) (by omega) (by omega)
    have i4 : -2147483648 ≤ r1 ∧ r1 ≤ 2147483648 := by omega
    have i5 : -2147483648 ≤ r2 ∧ r2 ≤ 2147483648 := by omega
    exact tight_walk x0 x1 x2 x3 x4 x5 a b c d P1 P2 S1 S2 Q1 Q2 U1 U2 r1 r2 (dn (a * a) 65536) (dn (b * b) 65536) (up (a * a) 65536) (up (b * b) 65536) (dn (a * c) 65536) (dn (a * d) 65536) (dn (b * c) 65536) (dn (b * d) 65536) (up (a * c) 65536) (up (a * d) 65536) (up (b * c) 65536) (up (b * d) 65536) (dn (a * 65536) c) (dn (a * 65536) d) (dn (b * 65536) c) (dn (b * 65536) d) (up (a * 65536) c) (up (a * 65536) d) (up (b * 65536) c) (up (b * 65536) d) ((P1 == -2147483648) && (P2 == 2147483648)) ((Q1 == -2147483648) && (Q2 == 2147483648)) ((U1 == -2147483648) && (U2 == 2147483648)) ((S1 == -2147483648) && (S2 == 2147483648)) is (dn (a * c) 65536 == P1) ((dn (a * c) 65536 == P1) || (dn (a * d) 65536 == P1)) (((dn (a * c) 65536 == P1) || (dn (a * d) 65536 == P1)) || (dn (b * c) 65536 == P1)) ((((dn (a * c) 65536 == P1) || (dn (a * d) 65536 == P1)) || (dn (b * c) 65536 == P1)) || (dn (b * d) 65536 == P1)) (up (a * c) 65536 == P2) ((up (a * c) 65536 == P2) || (up (a * d) 65536 == P2)) (((up (a * c) 65536 == P2) || (up (a * d) 65536 == P2)) || (up (b * c) 65536 == P2)) ((((up (a * c) 65536 == P2) || (up (a * d) 65536 == P2)) || (up (b * c) 65536 == P2)) || (up (b * d) 65536 == P2)) ((c != 0) && (dn (a * 65536) c == Q1)) (((c != 0) && (dn (a * 65536) c == Q1)) || ((d != 0) && (dn (a * 65536) d == Q1))) ((((c != 0) && (dn (a * 65536) c == Q1)) || ((d != 0) && (dn (a * 65536) d == Q1))) || ((c != 0) && (dn (b * 65536) c == Q1))) (((((c != 0) && (dn (a * 65536) c == Q1)) || ((d != 0) && (dn (a * 65536) d == Q1))) || ((c != 0) && (dn (b * 65536) c == Q1))) || ((d != 0) && (dn (b * 65536) d == Q1))) ((c != 0) && (up (a * 65536) c == Q2)) (((c != 0) && (up (a * 65536) c == Q2)) || ((d != 0) && (up (a * 65536) d == Q2))) ((((c != 0) && (up (a * 65536) c == Q2)) || ((d != 0) && (up (a * 65536) d == Q2))) || ((c != 0) && (up (b * 65536) c == Q2))) (((((c != 0) && (up (a * 65536) c == Q2)) || ((d != 0) && (up (a * 65536) d == Q2))) || ((c != 0) && (up (b * 65536) c == Q2))) || ((d != 0) && (up (b * 65536) d == Q2))) (((decide (a ≤ 0) && decide (0 ≤ b)) && (S1 == 0)) || (dn (a * a) 65536 == S1) || (dn (b * b) 65536 == S1)) ((up (a * a) 65536 == S2) || (up (b * b) 65536 == S2)) w c1 c2 (fun w => r2ent_no a b w hea) (fun w => r2ent_no c d w heb) (fun w => hMu w) (fun w => hSq w) (fun w => hDv w) (fun w => hAd w) (fun w => r2isent P1 P2 w) (fun w => r2isent Q1 Q2 w) (fun w => r2isent U1 U2 w) (fun w => r2isent S1 S2 w) hrt (fun w => r2floor (a * a) 65536 w b4.1 b4.2 (by decide)) (fun w => r2floor (b * b) 65536 w b5.1 b5.2 (by decide)) (fun w => ceil_ok b4 w) (fun w => ceil_ok b5 w) (fun w => r2floor (a * c) 65536 w b0.1 b0.2 (by decide)) (fun w => ceil_ok b0 w) (fun h w => r2floor (a * 65536) c w b6.1 b6.2 (by simpa using h)) (fun h w => ceil_ok2 b6 (by simpa using h) w) (fun w => r2floor (a * d) 65536 w b1.1 b1.2 (by decide)) (fun w => ceil_ok b1 w) (fun h w => r2floor (a * 65536) d w b6.1 b6.2 (by simpa using h)) (fun h w => ceil_ok2 b6 (by simpa using h) w) (fun w => r2floor (b * c) 65536 w b2.1 b2.2 (by decide)) (fun w => ceil_ok b2 w) (fun h w => r2floor (b * 65536) c w b7.1 b7.2 (by simpa using h)) (fun h w => ceil_ok2 b7 (by simpa using h) w) (fun w => r2floor (b * d) 65536 w b3.1 b3.2 (by decide)) (fun w => ceil_ok b3 w) (fun h w => r2floor (b * 65536) d w b7.1 b7.2 (by simpa using h)) (fun h w => ceil_ok2 b7 (by simpa using h) w) (⟨fun _ => rfl, fun h => by cases h⟩) (⟨or_lo, or_hi⟩) (⟨or_lo, or_hi⟩) (⟨or_lo, or_hi⟩) (⟨fun _ => rfl, fun h => by cases h⟩) (⟨or_lo, or_hi⟩) (⟨or_lo, or_hi⟩) (⟨or_lo, or_hi⟩) (dv_rel0) (dv_rel) (dv_rel) (dv_rel) (dv_rel0) (dv_rel) (dv_rel) (dv_rel) (tP) (tQ) (tU) (rfl) (rfl) (tS) (tI) (tR) (tR2) b0 b1 b2 b3 b4 b5 b6 b7 b8 b9 b10 i0 i1 i2 i3 i4 i5
  by_cases hb : b < 0
  · exact fin 0 0 false (fun w => iv_sqrt_neg a b w hea hb) (by decide) (by decide) (fun _ => decide_eq_true hb) (fun h => by cases h) (fun h => by cases h)
  · have s1 := rt1_spec (a := a) (by omega)
    have s2 := rt2_spec (b := b) (by omega) (by omega)
    have n1 : Num (rt1 a) ∧ Num (rt2 b) := by
      unfold Num
      omega
    refine fin (rt1 a) (rt2 b) true (fun w => ?_) (by omega) (by omega) (fun h => by cases h) (fun _ => decide_eq_true s1.2.2) (fun _ h => ?_)
    · have := iv_sqrt_pos a b w hea ka.2.1 (by omega) (by omega)
      rw [show mkLo (rt1 a) (rt2 b) = rt1 a by unfold mkLo; rw [if_pos n1], show mkHi (rt1 a) (rt2 b) = rt2 b by unfold mkHi; rw [if_pos n1]] at this
      exact this
    · refine decide_eq_true (s2.2.2.resolve_left fun e => ?_)
      rw [e] at h
      cases h
end Go.Proofs.Ytpepgheocemjdaa
