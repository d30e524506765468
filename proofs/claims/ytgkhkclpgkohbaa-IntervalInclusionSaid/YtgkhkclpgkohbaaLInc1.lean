/-
  The law of inclusion: its walks.
-/
import Derived.Test.YtgkhkclpgkohbaaSanity
import Derived.Test.YtgkhkclpgkohbaaR1
import Derived.Test.YtgkhkclpgkohbaaHead
import Derived.Deep.DrawnRows
namespace Go.Proofs.Ytgkhkclpgkohbaa
open Go.ChangeShapes Go.WideShapes Go.ChangeAt Go.RowKit
set_option linter.unusedVariables false
set_option linter.unusedSimpArgs false

open Go.BigFrame
attribute [local irreducible] Calls

set_option maxRecDepth 100000 in
set_option maxHeartbeats 8000000 in
theorem inc_ent1 (x0 x1 x2 x3 x4 x5 i k a b c d : Int) (w : World)  (u1 : ∀ w, Calls Try.prog 16 #[.agg #[.int .i64 x0, .int .i64 x1]] w fun e w' => e = .returned (.agg #[.int .i64 a, .int .i64 b]) ∧ Below w.heap.size w w') (u2 : ∀ w, Calls Try.prog 16 #[.agg #[.int .i64 x2, .int .i64 x3]] w fun e w' => e = .returned (.agg #[.int .i64 c, .int .i64 d]) ∧ Below w.heap.size w w') (e1 : ∀ w, Calls Try.prog 38 #[.agg #[.int .i64 a, .int .i64 b]] w fun e w' => e = .returned (.bool true) ∧ Below w.heap.size w w') (ad : ∀ w, Calls Try.prog 45 #[.agg #[.int .i64 a, .int .i64 b], .agg #[.int .i64 c, .int .i64 d]] w fun e w' => e = .returned (.agg #[.int .i64 (-2147483648), .int .i64 2147483648]) ∧ Below w.heap.size w w') (mu : ∀ w, Calls Try.prog 51 #[.agg #[.int .i64 c, .int .i64 d], .agg #[.int .i64 a, .int .i64 b]] w fun e w' => e = .returned (.agg #[.int .i64 (-2147483648), .int .i64 2147483648]) ∧ Below w.heap.size w w') (dv : ∀ w, Calls Try.prog 55 #[.agg #[.int .i64 a, .int .i64 b], .agg #[.int .i64 c, .int .i64 d]] w fun e w' => e = .returned (.agg #[.int .i64 (-2147483648), .int .i64 2147483648]) ∧ Below w.heap.size w w') (ee : ∀ w, Calls Try.prog 38 #[.agg #[.int .i64 (-2147483648), .int .i64 2147483648]] w fun e w' => e = .returned (.bool true) ∧ Below w.heap.size w w') :
    Calls Try.prog 4 #[.agg #[.int .i64 x0, .int .i64 x1, .int .i64 x2, .int .i64 x3, .int .i32 x4, .int .u16 x5], .int .u32 i, .int .u32 k] w fun e w' => e = .returned (.bool true) ∧ Below w.heap.size w w' := by
  have hu1 := Lib.hid u1
  clear u1
  have hu2 := Lib.hid u2
  clear u2
  have he1 := Lib.hid e1
  clear e1
  have had := Lib.hid ad
  clear ad
  have hmu := Lib.hid mu
  clear mu
  have hdv := Lib.hid dv
  clear dv
  have hee := Lib.hid ee
  clear ee
  go_enter Try.func4, Try.ntmps4
  go_wp2_with (fail)
  generalize hW0 : World.alloc w _ = W0
  have hT0 : Below w.heap.size w W0 := by subst hW0; exact ((Below.refl w.heap.size w).alloc (by go_size) _)
  have Y0 : w.heap.size < W0.heap.size := by subst hW0; simp <;> omega
  have S0 : ∀ g : Grown W0, w.heap.size < g.w.heap.size := fun g => Nat.lt_of_lt_of_le Y0 g.h.size
  have F0_0 : ∀ g : Grown W0, g.w.cell? ⟨w.heap.size, 0, none⟩ = some (.int .i64 x0) := fun g => (g.cell Y0).trans (by subst hW0; simp [go_sem])
  have H0_0 : ∀ g : Grown W0, g.w.frozen? ⟨w.heap.size, 0, none⟩ = false := fun g => (g.frozen Y0).trans (by subst hW0; simp [go_sem])
  have F0_1 : ∀ g : Grown W0, g.w.cell? ⟨w.heap.size, 1, none⟩ = some (.int .i64 x1) := fun g => (g.cell Y0).trans (by subst hW0; simp [go_sem])
  have H0_1 : ∀ g : Grown W0, g.w.frozen? ⟨w.heap.size, 1, none⟩ = false := fun g => (g.frozen Y0).trans (by subst hW0; simp [go_sem])
  have F0_2 : ∀ g : Grown W0, g.w.cell? ⟨w.heap.size, 2, none⟩ = some (.int .i64 x2) := fun g => (g.cell Y0).trans (by subst hW0; simp [go_sem])
  have H0_2 : ∀ g : Grown W0, g.w.frozen? ⟨w.heap.size, 2, none⟩ = false := fun g => (g.frozen Y0).trans (by subst hW0; simp [go_sem])
  have F0_3 : ∀ g : Grown W0, g.w.cell? ⟨w.heap.size, 3, none⟩ = some (.int .i64 x3) := fun g => (g.cell Y0).trans (by subst hW0; simp [go_sem])
  have H0_3 : ∀ g : Grown W0, g.w.frozen? ⟨w.heap.size, 3, none⟩ = false := fun g => (g.frozen Y0).trans (by subst hW0; simp [go_sem])
  have F0_4 : ∀ g : Grown W0, g.w.cell? ⟨w.heap.size, 4, none⟩ = some (.int .i32 x4) := fun g => (g.cell Y0).trans (by subst hW0; simp [go_sem])
  have H0_4 : ∀ g : Grown W0, g.w.frozen? ⟨w.heap.size, 4, none⟩ = false := fun g => (g.frozen Y0).trans (by subst hW0; simp [go_sem])
  have F0_5 : ∀ g : Grown W0, g.w.cell? ⟨w.heap.size, 5, none⟩ = some (.int .u16 x5) := fun g => (g.cell Y0).trans (by subst hW0; simp [go_sem])
  have H0_5 : ∀ g : Grown W0, g.w.frozen? ⟨w.heap.size, 5, none⟩ = false := fun g => (g.frozen Y0).trans (by subst hW0; simp [go_sem])
  clear Y0
  clear hW0
  obtain ⟨g0, hg0⟩ : ∃ g : Grown W0, W0 = g.w := ⟨⟨W0, Below.refl _ _⟩, rfl⟩
  rw [hg0]
  clear hg0
  refine (sanity2 _).mono ?_
  rintro e1 w1 ⟨rfl, hB1⟩
  obtain ⟨g1, rfl⟩ := grow g0 hB1
  clear hB1
  go_wp2_with (fail)
  refine region_data 8 23 _ (by kernel_rfl) new_iv (by kernel_rfl) ?_
  refine data_op (.pointer (some ⟨w.heap.size, 0, none⟩)) rfl (RQ_pure (fun w => by simp [go_sem])) ?_
  simp only [Act.put, List.setIfInBounds_toArray, List.set_cons_succ, List.set_cons_zero]
  refine data_op _ rfl (RQ_load rfl rfl (load_iv_at (S0 _) (F0_0 _) (F0_1 _))) ?_
  simp only [Act.put, List.setIfInBounds_toArray, List.set_cons_succ, List.set_cons_zero]
  refine data_op _ rfl (RQ_call hu1.out (fun _ => by simp [go_sem])) ?_
  simp only [Act.put, List.setIfInBounds_toArray, List.set_cons_succ, List.set_cons_zero]
  refine data_op (.pointer (some ⟨w.heap.size, 2, none⟩)) rfl (RQ_pure (fun w => by simp [go_sem])) ?_
  simp only [Act.put, List.setIfInBounds_toArray, List.set_cons_succ, List.set_cons_zero]
  refine data_op _ rfl (RQ_load rfl rfl (load_iv_at (S0 _) (F0_2 _) (F0_3 _))) ?_
  simp only [Act.put, List.setIfInBounds_toArray, List.set_cons_succ, List.set_cons_zero]
  refine data_op _ rfl (RQ_call hu2.out (fun _ => by simp [go_sem])) ?_
  simp only [Act.put, List.setIfInBounds_toArray, List.set_cons_succ, List.set_cons_zero]
  refine data_al rfl ?_
  simp only [Act.put, List.setIfInBounds_toArray, List.set_cons_succ, List.set_cons_zero]
  refine data_al rfl ?_
  simp only [Act.put, List.setIfInBounds_toArray, List.set_cons_succ, List.set_cons_zero]
  refine data_end ?_
  intro wh hBh
  simp only [Act.put, List.drop_succ_cons, List.drop_zero, List.take_succ_cons, List.take_zero, alDsts, List.filterMap_cons, List.filterMap_nil, isAl, Bool.false_eq_true, if_false, if_true, finK]
  intro b1x0 p0 q0 r0 o0
  intro b1x1 p1 q1 r1 o1
  obtain ⟨u00, u01, v00, v01⟩ := new_cell o0
  obtain ⟨u10, u11, v10, v11⟩ := new_cell o1
  have n01 : b1x0 ≠ b1x1 := r1 b1x0 (by simp)
  clear r0 o0 r1 o1
  simp only [List.setIfInBounds_toArray, List.set_cons_succ, List.set_cons_zero]
  refine list_store rfl rfl rfl rfl rfl (by exact u00) (by exact u01) (by exact v00) (by exact v01) ?_
  refine list_store rfl rfl rfl rfl rfl (by rw [st2_old (Ne.symm n01)]; exact u10) (by rw [st2_old (Ne.symm n01)]; exact u11) (by simp only [st2_frozen]; exact v10) (by simp only [st2_frozen]; exact v11) ?_
  refine wpList_nil ?_
  generalize e1 : (st2 (st2 wh b1x0 (.int .i64 a) (.int .i64 b)) b1x1 (.int .i64 c) (.int .i64 d)) = W1
  have hL1 : Below g1.w.heap.size g1.w W1 := by rw [← e1]; exact (st2_below (st2_below hBh p0) p1)
  have hT1 : Below w.heap.size w W1 := below_then (below_then hT0 g1.h) hL1
  have s0 := S0 g1
  have Y0 : w.heap.size < W1.heap.size := Nat.lt_of_lt_of_le s0 hL1.size
  have c0_0 := F0_0 g1
  have d0_0 := H0_0 g1
  have c0_1 := F0_1 g1
  have d0_1 := H0_1 g1
  have c0_2 := F0_2 g1
  have d0_2 := H0_2 g1
  have c0_3 := F0_3 g1
  have d0_3 := H0_3 g1
  have c0_4 := F0_4 g1
  have d0_4 := H0_4 g1
  have c0_5 := F0_5 g1
  have d0_5 := H0_5 g1
  clear S0 F0_0 H0_0 F0_1 H0_1 F0_2 H0_2 F0_3 H0_3 F0_4 H0_4 F0_5 H0_5
  have S0 : ∀ g : Grown W1, w.heap.size < g.w.heap.size := fun g => Nat.lt_of_lt_of_le Y0 g.h.size
  have F0_0 : ∀ g : Grown W1, g.w.cell? ⟨w.heap.size, 0, none⟩ = some (.int .i64 x0) := fun g => (g.cell Y0).trans ((Below.cell hL1 (p := ⟨w.heap.size, 0, none⟩) s0).trans c0_0)
  have H0_0 : ∀ g : Grown W1, g.w.frozen? ⟨w.heap.size, 0, none⟩ = false := fun g => (g.frozen Y0).trans ((Below.frozen hL1 (p := ⟨w.heap.size, 0, none⟩) s0).trans d0_0)
  have F0_1 : ∀ g : Grown W1, g.w.cell? ⟨w.heap.size, 1, none⟩ = some (.int .i64 x1) := fun g => (g.cell Y0).trans ((Below.cell hL1 (p := ⟨w.heap.size, 1, none⟩) s0).trans c0_1)
  have H0_1 : ∀ g : Grown W1, g.w.frozen? ⟨w.heap.size, 1, none⟩ = false := fun g => (g.frozen Y0).trans ((Below.frozen hL1 (p := ⟨w.heap.size, 1, none⟩) s0).trans d0_1)
  have F0_2 : ∀ g : Grown W1, g.w.cell? ⟨w.heap.size, 2, none⟩ = some (.int .i64 x2) := fun g => (g.cell Y0).trans ((Below.cell hL1 (p := ⟨w.heap.size, 2, none⟩) s0).trans c0_2)
  have H0_2 : ∀ g : Grown W1, g.w.frozen? ⟨w.heap.size, 2, none⟩ = false := fun g => (g.frozen Y0).trans ((Below.frozen hL1 (p := ⟨w.heap.size, 2, none⟩) s0).trans d0_2)
  have F0_3 : ∀ g : Grown W1, g.w.cell? ⟨w.heap.size, 3, none⟩ = some (.int .i64 x3) := fun g => (g.cell Y0).trans ((Below.cell hL1 (p := ⟨w.heap.size, 3, none⟩) s0).trans c0_3)
  have H0_3 : ∀ g : Grown W1, g.w.frozen? ⟨w.heap.size, 3, none⟩ = false := fun g => (g.frozen Y0).trans ((Below.frozen hL1 (p := ⟨w.heap.size, 3, none⟩) s0).trans d0_3)
  have F0_4 : ∀ g : Grown W1, g.w.cell? ⟨w.heap.size, 4, none⟩ = some (.int .i32 x4) := fun g => (g.cell Y0).trans ((Below.cell hL1 (p := ⟨w.heap.size, 4, none⟩) s0).trans c0_4)
  have H0_4 : ∀ g : Grown W1, g.w.frozen? ⟨w.heap.size, 4, none⟩ = false := fun g => (g.frozen Y0).trans ((Below.frozen hL1 (p := ⟨w.heap.size, 4, none⟩) s0).trans d0_4)
  have F0_5 : ∀ g : Grown W1, g.w.cell? ⟨w.heap.size, 5, none⟩ = some (.int .u16 x5) := fun g => (g.cell Y0).trans ((Below.cell hL1 (p := ⟨w.heap.size, 5, none⟩) s0).trans c0_5)
  have H0_5 : ∀ g : Grown W1, g.w.frozen? ⟨w.heap.size, 5, none⟩ = false := fun g => (g.frozen Y0).trans ((Below.frozen hL1 (p := ⟨w.heap.size, 5, none⟩) s0).trans d0_5)
  clear Y0 s0 c0_0 d0_0 c0_1 d0_1 c0_2 d0_2 c0_3 d0_3 c0_4 d0_4 c0_5 d0_5
  have Y1 : b1x0 < W1.heap.size := by rw [← e1]; simp only [st2_size]; exact q0
  have S1 : ∀ g : Grown W1, b1x0 < g.w.heap.size := fun g => Nat.lt_of_lt_of_le Y1 g.h.size
  have F1_0 : ∀ g : Grown W1, g.w.cell? ⟨b1x0, 0, none⟩ = some (.int .i64 a) := fun g => (g.cell Y1).trans (by rw [← e1]; rw [st2_old n01]; exact st2_0 (u := .int .i64 0) (by exact u00))
  have H1_0 : ∀ g : Grown W1, g.w.frozen? ⟨b1x0, 0, none⟩ = false := fun g => (g.frozen Y1).trans (by rw [← e1]; simp only [st2_frozen]; exact v00)
  have F1_1 : ∀ g : Grown W1, g.w.cell? ⟨b1x0, 1, none⟩ = some (.int .i64 b) := fun g => (g.cell Y1).trans (by rw [← e1]; rw [st2_old n01]; exact st2_1 (u := .int .i64 0) (by exact u01))
  have H1_1 : ∀ g : Grown W1, g.w.frozen? ⟨b1x0, 1, none⟩ = false := fun g => (g.frozen Y1).trans (by rw [← e1]; simp only [st2_frozen]; exact v01)
  clear Y1
  have Y2 : b1x1 < W1.heap.size := by rw [← e1]; simp only [st2_size]; exact q1
  have S2 : ∀ g : Grown W1, b1x1 < g.w.heap.size := fun g => Nat.lt_of_lt_of_le Y2 g.h.size
  have F2_0 : ∀ g : Grown W1, g.w.cell? ⟨b1x1, 0, none⟩ = some (.int .i64 c) := fun g => (g.cell Y2).trans (by rw [← e1]; exact st2_0 (u := .int .i64 0) (by rw [st2_old (Ne.symm n01)]; exact u10))
  have H2_0 : ∀ g : Grown W1, g.w.frozen? ⟨b1x1, 0, none⟩ = false := fun g => (g.frozen Y2).trans (by rw [← e1]; simp only [st2_frozen]; exact v10)
  have F2_1 : ∀ g : Grown W1, g.w.cell? ⟨b1x1, 1, none⟩ = some (.int .i64 d) := fun g => (g.cell Y2).trans (by rw [← e1]; exact st2_1 (u := .int .i64 0) (by rw [st2_old (Ne.symm n01)]; exact u11))
  have H2_1 : ∀ g : Grown W1, g.w.frozen? ⟨b1x1, 1, none⟩ = false := fun g => (g.frozen Y2).trans (by rw [← e1]; simp only [st2_frozen]; exact v11)
  clear Y2
  clear e1 hL1 hT0 hBh u00 u01 v00 v01 p0 q0 u10 u11 v10 v11 p1 q1 n01
  obtain ⟨h1, hg1⟩ : ∃ g : Grown W1, W1 = g.w := ⟨⟨W1, Below.refl _ _⟩, rfl⟩
  rw [hg1]
  clear hg1 g1
  go_wp2_with (fail)
  refine (he1.out _).mono ?_
  rintro e2 w2 ⟨rfl, hB2⟩
  obtain ⟨g2, rfl⟩ := grow h1 hB2
  clear hB2
  go_wp2_with (fail)
  refine (had.out _).mono ?_
  rintro e3 w3 ⟨rfl, hB3⟩
  obtain ⟨g3, rfl⟩ := grow g2 hB3
  clear hB3
  go_wp2_with (fail)
  refine (hee.out _).mono ?_
  rintro e4 w4 ⟨rfl, hB4⟩
  obtain ⟨g4, rfl⟩ := grow g3 hB4
  clear hB4
  go_wp2_with (fail)
  refine (hmu.out _).mono ?_
  rintro e5 w5 ⟨rfl, hB5⟩
  obtain ⟨g5, rfl⟩ := grow g4 hB5
  clear hB5
  go_wp2_with (fail)
  refine (hee.out _).mono ?_
  rintro e6 w6 ⟨rfl, hB6⟩
  obtain ⟨g6, rfl⟩ := grow g5 hB6
  clear hB6
  go_wp2_with (fail)
  refine (hdv.out _).mono ?_
  rintro e7 w7 ⟨rfl, hB7⟩
  obtain ⟨g7, rfl⟩ := grow g6 hB7
  clear hB7
  go_wp2_with (fail)
  refine (hee.out _).mono ?_
  rintro e8 w8 ⟨rfl, hB8⟩
  obtain ⟨g8, rfl⟩ := grow g7 hB8
  clear hB8
  go_wp2_with (fail)
  have hB : Below w.heap.size w g8.w := below_then hT1 g8.h
  go_ret
  refine ⟨rfl, ?_⟩
  go_grown

set_option maxRecDepth 100000 in
set_option maxHeartbeats 8000000 in
theorem inc_ent2 (x0 x1 x2 x3 x4 x5 i k a b c d : Int) (w : World)  (u1 : ∀ w, Calls Try.prog 16 #[.agg #[.int .i64 x0, .int .i64 x1]] w fun e w' => e = .returned (.agg #[.int .i64 a, .int .i64 b]) ∧ Below w.heap.size w w') (u2 : ∀ w, Calls Try.prog 16 #[.agg #[.int .i64 x2, .int .i64 x3]] w fun e w' => e = .returned (.agg #[.int .i64 c, .int .i64 d]) ∧ Below w.heap.size w w') (e1 : ∀ w, Calls Try.prog 38 #[.agg #[.int .i64 a, .int .i64 b]] w fun e w' => e = .returned (.bool false) ∧ Below w.heap.size w w') (e2 : ∀ w, Calls Try.prog 38 #[.agg #[.int .i64 c, .int .i64 d]] w fun e w' => e = .returned (.bool true) ∧ Below w.heap.size w w') (ad : ∀ w, Calls Try.prog 45 #[.agg #[.int .i64 a, .int .i64 b], .agg #[.int .i64 c, .int .i64 d]] w fun e w' => e = .returned (.agg #[.int .i64 (-2147483648), .int .i64 2147483648]) ∧ Below w.heap.size w w') (mu : ∀ w, Calls Try.prog 51 #[.agg #[.int .i64 c, .int .i64 d], .agg #[.int .i64 a, .int .i64 b]] w fun e w' => e = .returned (.agg #[.int .i64 (-2147483648), .int .i64 2147483648]) ∧ Below w.heap.size w w') (dv : ∀ w, Calls Try.prog 55 #[.agg #[.int .i64 a, .int .i64 b], .agg #[.int .i64 c, .int .i64 d]] w fun e w' => e = .returned (.agg #[.int .i64 (-2147483648), .int .i64 2147483648]) ∧ Below w.heap.size w w') (ee : ∀ w, Calls Try.prog 38 #[.agg #[.int .i64 (-2147483648), .int .i64 2147483648]] w fun e w' => e = .returned (.bool true) ∧ Below w.heap.size w w') :
    Calls Try.prog 4 #[.agg #[.int .i64 x0, .int .i64 x1, .int .i64 x2, .int .i64 x3, .int .i32 x4, .int .u16 x5], .int .u32 i, .int .u32 k] w fun e w' => e = .returned (.bool true) ∧ Below w.heap.size w w' := by
  have hu1 := Lib.hid u1
  clear u1
  have hu2 := Lib.hid u2
  clear u2
  have he1 := Lib.hid e1
  clear e1
  have he2 := Lib.hid e2
  clear e2
  have had := Lib.hid ad
  clear ad
  have hmu := Lib.hid mu
  clear mu
  have hdv := Lib.hid dv
  clear dv
  have hee := Lib.hid ee
  clear ee
  go_enter Try.func4, Try.ntmps4
  go_wp2_with (fail)
  generalize hW0 : World.alloc w _ = W0
  have hT0 : Below w.heap.size w W0 := by subst hW0; exact ((Below.refl w.heap.size w).alloc (by go_size) _)
  have Y0 : w.heap.size < W0.heap.size := by subst hW0; simp <;> omega
  have S0 : ∀ g : Grown W0, w.heap.size < g.w.heap.size := fun g => Nat.lt_of_lt_of_le Y0 g.h.size
  have F0_0 : ∀ g : Grown W0, g.w.cell? ⟨w.heap.size, 0, none⟩ = some (.int .i64 x0) := fun g => (g.cell Y0).trans (by subst hW0; simp [go_sem])
  have H0_0 : ∀ g : Grown W0, g.w.frozen? ⟨w.heap.size, 0, none⟩ = false := fun g => (g.frozen Y0).trans (by subst hW0; simp [go_sem])
  have F0_1 : ∀ g : Grown W0, g.w.cell? ⟨w.heap.size, 1, none⟩ = some (.int .i64 x1) := fun g => (g.cell Y0).trans (by subst hW0; simp [go_sem])
  have H0_1 : ∀ g : Grown W0, g.w.frozen? ⟨w.heap.size, 1, none⟩ = false := fun g => (g.frozen Y0).trans (by subst hW0; simp [go_sem])
  have F0_2 : ∀ g : Grown W0, g.w.cell? ⟨w.heap.size, 2, none⟩ = some (.int .i64 x2) := fun g => (g.cell Y0).trans (by subst hW0; simp [go_sem])
  have H0_2 : ∀ g : Grown W0, g.w.frozen? ⟨w.heap.size, 2, none⟩ = false := fun g => (g.frozen Y0).trans (by subst hW0; simp [go_sem])
  have F0_3 : ∀ g : Grown W0, g.w.cell? ⟨w.heap.size, 3, none⟩ = some (.int .i64 x3) := fun g => (g.cell Y0).trans (by subst hW0; simp [go_sem])
  have H0_3 : ∀ g : Grown W0, g.w.frozen? ⟨w.heap.size, 3, none⟩ = false := fun g => (g.frozen Y0).trans (by subst hW0; simp [go_sem])
  have F0_4 : ∀ g : Grown W0, g.w.cell? ⟨w.heap.size, 4, none⟩ = some (.int .i32 x4) := fun g => (g.cell Y0).trans (by subst hW0; simp [go_sem])
  have H0_4 : ∀ g : Grown W0, g.w.frozen? ⟨w.heap.size, 4, none⟩ = false := fun g => (g.frozen Y0).trans (by subst hW0; simp [go_sem])
  have F0_5 : ∀ g : Grown W0, g.w.cell? ⟨w.heap.size, 5, none⟩ = some (.int .u16 x5) := fun g => (g.cell Y0).trans (by subst hW0; simp [go_sem])
  have H0_5 : ∀ g : Grown W0, g.w.frozen? ⟨w.heap.size, 5, none⟩ = false := fun g => (g.frozen Y0).trans (by subst hW0; simp [go_sem])
  clear Y0
  clear hW0
  obtain ⟨g0, hg0⟩ : ∃ g : Grown W0, W0 = g.w := ⟨⟨W0, Below.refl _ _⟩, rfl⟩
  rw [hg0]
  clear hg0
  refine (sanity2 _).mono ?_
  rintro e1 w1 ⟨rfl, hB1⟩
  obtain ⟨g1, rfl⟩ := grow g0 hB1
  clear hB1
  go_wp2_with (fail)
  refine region_data 8 23 _ (by kernel_rfl) new_iv (by kernel_rfl) ?_
  refine data_op (.pointer (some ⟨w.heap.size, 0, none⟩)) rfl (RQ_pure (fun w => by simp [go_sem])) ?_
  simp only [Act.put, List.setIfInBounds_toArray, List.set_cons_succ, List.set_cons_zero]
  refine data_op _ rfl (RQ_load rfl rfl (load_iv_at (S0 _) (F0_0 _) (F0_1 _))) ?_
  simp only [Act.put, List.setIfInBounds_toArray, List.set_cons_succ, List.set_cons_zero]
  refine data_op _ rfl (RQ_call hu1.out (fun _ => by simp [go_sem])) ?_
  simp only [Act.put, List.setIfInBounds_toArray, List.set_cons_succ, List.set_cons_zero]
  refine data_op (.pointer (some ⟨w.heap.size, 2, none⟩)) rfl (RQ_pure (fun w => by simp [go_sem])) ?_
  simp only [Act.put, List.setIfInBounds_toArray, List.set_cons_succ, List.set_cons_zero]
  refine data_op _ rfl (RQ_load rfl rfl (load_iv_at (S0 _) (F0_2 _) (F0_3 _))) ?_
  simp only [Act.put, List.setIfInBounds_toArray, List.set_cons_succ, List.set_cons_zero]
  refine data_op _ rfl (RQ_call hu2.out (fun _ => by simp [go_sem])) ?_
  simp only [Act.put, List.setIfInBounds_toArray, List.set_cons_succ, List.set_cons_zero]
  refine data_al rfl ?_
  simp only [Act.put, List.setIfInBounds_toArray, List.set_cons_succ, List.set_cons_zero]
  refine data_al rfl ?_
  simp only [Act.put, List.setIfInBounds_toArray, List.set_cons_succ, List.set_cons_zero]
  refine data_end ?_
  intro wh hBh
  simp only [Act.put, List.drop_succ_cons, List.drop_zero, List.take_succ_cons, List.take_zero, alDsts, List.filterMap_cons, List.filterMap_nil, isAl, Bool.false_eq_true, if_false, if_true, finK]
  intro b1x0 p0 q0 r0 o0
  intro b1x1 p1 q1 r1 o1
  obtain ⟨u00, u01, v00, v01⟩ := new_cell o0
  obtain ⟨u10, u11, v10, v11⟩ := new_cell o1
  have n01 : b1x0 ≠ b1x1 := r1 b1x0 (by simp)
  clear r0 o0 r1 o1
  simp only [List.setIfInBounds_toArray, List.set_cons_succ, List.set_cons_zero]
  refine list_store rfl rfl rfl rfl rfl (by exact u00) (by exact u01) (by exact v00) (by exact v01) ?_
  refine list_store rfl rfl rfl rfl rfl (by rw [st2_old (Ne.symm n01)]; exact u10) (by rw [st2_old (Ne.symm n01)]; exact u11) (by simp only [st2_frozen]; exact v10) (by simp only [st2_frozen]; exact v11) ?_
  refine wpList_nil ?_
  generalize e1 : (st2 (st2 wh b1x0 (.int .i64 a) (.int .i64 b)) b1x1 (.int .i64 c) (.int .i64 d)) = W1
  have hL1 : Below g1.w.heap.size g1.w W1 := by rw [← e1]; exact (st2_below (st2_below hBh p0) p1)
  have hT1 : Below w.heap.size w W1 := below_then (below_then hT0 g1.h) hL1
  have s0 := S0 g1
  have Y0 : w.heap.size < W1.heap.size := Nat.lt_of_lt_of_le s0 hL1.size
  have c0_0 := F0_0 g1
  have d0_0 := H0_0 g1
  have c0_1 := F0_1 g1
  have d0_1 := H0_1 g1
  have c0_2 := F0_2 g1
  have d0_2 := H0_2 g1
  have c0_3 := F0_3 g1
  have d0_3 := H0_3 g1
  have c0_4 := F0_4 g1
  have d0_4 := H0_4 g1
  have c0_5 := F0_5 g1
  have d0_5 := H0_5 g1
  clear S0 F0_0 H0_0 F0_1 H0_1 F0_2 H0_2 F0_3 H0_3 F0_4 H0_4 F0_5 H0_5
  have S0 : ∀ g : Grown W1, w.heap.size < g.w.heap.size := fun g => Nat.lt_of_lt_of_le Y0 g.h.size
  have F0_0 : ∀ g : Grown W1, g.w.cell? ⟨w.heap.size, 0, none⟩ = some (.int .i64 x0) := fun g => (g.cell Y0).trans ((Below.cell hL1 (p := ⟨w.heap.size, 0, none⟩) s0).trans c0_0)
  have H0_0 : ∀ g : Grown W1, g.w.frozen? ⟨w.heap.size, 0, none⟩ = false := fun g => (g.frozen Y0).trans ((Below.frozen hL1 (p := ⟨w.heap.size, 0, none⟩) s0).trans d0_0)
  have F0_1 : ∀ g : Grown W1, g.w.cell? ⟨w.heap.size, 1, none⟩ = some (.int .i64 x1) := fun g => (g.cell Y0).trans ((Below.cell hL1 (p := ⟨w.heap.size, 1, none⟩) s0).trans c0_1)
  have H0_1 : ∀ g : Grown W1, g.w.frozen? ⟨w.heap.size, 1, none⟩ = false := fun g => (g.frozen Y0).trans ((Below.frozen hL1 (p := ⟨w.heap.size, 1, none⟩) s0).trans d0_1)
  have F0_2 : ∀ g : Grown W1, g.w.cell? ⟨w.heap.size, 2, none⟩ = some (.int .i64 x2) := fun g => (g.cell Y0).trans ((Below.cell hL1 (p := ⟨w.heap.size, 2, none⟩) s0).trans c0_2)
  have H0_2 : ∀ g : Grown W1, g.w.frozen? ⟨w.heap.size, 2, none⟩ = false := fun g => (g.frozen Y0).trans ((Below.frozen hL1 (p := ⟨w.heap.size, 2, none⟩) s0).trans d0_2)
  have F0_3 : ∀ g : Grown W1, g.w.cell? ⟨w.heap.size, 3, none⟩ = some (.int .i64 x3) := fun g => (g.cell Y0).trans ((Below.cell hL1 (p := ⟨w.heap.size, 3, none⟩) s0).trans c0_3)
  have H0_3 : ∀ g : Grown W1, g.w.frozen? ⟨w.heap.size, 3, none⟩ = false := fun g => (g.frozen Y0).trans ((Below.frozen hL1 (p := ⟨w.heap.size, 3, none⟩) s0).trans d0_3)
  have F0_4 : ∀ g : Grown W1, g.w.cell? ⟨w.heap.size, 4, none⟩ = some (.int .i32 x4) := fun g => (g.cell Y0).trans ((Below.cell hL1 (p := ⟨w.heap.size, 4, none⟩) s0).trans c0_4)
  have H0_4 : ∀ g : Grown W1, g.w.frozen? ⟨w.heap.size, 4, none⟩ = false := fun g => (g.frozen Y0).trans ((Below.frozen hL1 (p := ⟨w.heap.size, 4, none⟩) s0).trans d0_4)
  have F0_5 : ∀ g : Grown W1, g.w.cell? ⟨w.heap.size, 5, none⟩ = some (.int .u16 x5) := fun g => (g.cell Y0).trans ((Below.cell hL1 (p := ⟨w.heap.size, 5, none⟩) s0).trans c0_5)
  have H0_5 : ∀ g : Grown W1, g.w.frozen? ⟨w.heap.size, 5, none⟩ = false := fun g => (g.frozen Y0).trans ((Below.frozen hL1 (p := ⟨w.heap.size, 5, none⟩) s0).trans d0_5)
  clear Y0 s0 c0_0 d0_0 c0_1 d0_1 c0_2 d0_2 c0_3 d0_3 c0_4 d0_4 c0_5 d0_5
  have Y1 : b1x0 < W1.heap.size := by rw [← e1]; simp only [st2_size]; exact q0
  have S1 : ∀ g : Grown W1, b1x0 < g.w.heap.size := fun g => Nat.lt_of_lt_of_le Y1 g.h.size
  have F1_0 : ∀ g : Grown W1, g.w.cell? ⟨b1x0, 0, none⟩ = some (.int .i64 a) := fun g => (g.cell Y1).trans (by rw [← e1]; rw [st2_old n01]; exact st2_0 (u := .int .i64 0) (by exact u00))
  have H1_0 : ∀ g : Grown W1, g.w.frozen? ⟨b1x0, 0, none⟩ = false := fun g => (g.frozen Y1).trans (by rw [← e1]; simp only [st2_frozen]; exact v00)
  have F1_1 : ∀ g : Grown W1, g.w.cell? ⟨b1x0, 1, none⟩ = some (.int .i64 b) := fun g => (g.cell Y1).trans (by rw [← e1]; rw [st2_old n01]; exact st2_1 (u := .int .i64 0) (by exact u01))
  have H1_1 : ∀ g : Grown W1, g.w.frozen? ⟨b1x0, 1, none⟩ = false := fun g => (g.frozen Y1).trans (by rw [← e1]; simp only [st2_frozen]; exact v01)
  clear Y1
  have Y2 : b1x1 < W1.heap.size := by rw [← e1]; simp only [st2_size]; exact q1
  have S2 : ∀ g : Grown W1, b1x1 < g.w.heap.size := fun g => Nat.lt_of_lt_of_le Y2 g.h.size
  have F2_0 : ∀ g : Grown W1, g.w.cell? ⟨b1x1, 0, none⟩ = some (.int .i64 c) := fun g => (g.cell Y2).trans (by rw [← e1]; exact st2_0 (u := .int .i64 0) (by rw [st2_old (Ne.symm n01)]; exact u10))
  have H2_0 : ∀ g : Grown W1, g.w.frozen? ⟨b1x1, 0, none⟩ = false := fun g => (g.frozen Y2).trans (by rw [← e1]; simp only [st2_frozen]; exact v10)
  have F2_1 : ∀ g : Grown W1, g.w.cell? ⟨b1x1, 1, none⟩ = some (.int .i64 d) := fun g => (g.cell Y2).trans (by rw [← e1]; exact st2_1 (u := .int .i64 0) (by rw [st2_old (Ne.symm n01)]; exact u11))
  have H2_1 : ∀ g : Grown W1, g.w.frozen? ⟨b1x1, 1, none⟩ = false := fun g => (g.frozen Y2).trans (by rw [← e1]; simp only [st2_frozen]; exact v11)
  clear Y2
  clear e1 hL1 hT0 hBh u00 u01 v00 v01 p0 q0 u10 u11 v10 v11 p1 q1 n01
  obtain ⟨h1, hg1⟩ : ∃ g : Grown W1, W1 = g.w := ⟨⟨W1, Below.refl _ _⟩, rfl⟩
  rw [hg1]
  clear hg1 g1
  go_wp2_with (fail)
  refine (he1.out _).mono ?_
  rintro e2 w2 ⟨rfl, hB2⟩
  obtain ⟨g2, rfl⟩ := grow h1 hB2
  clear hB2
  go_wp2_with (fail)
  refine (he2.out _).mono ?_
  rintro e3 w3 ⟨rfl, hB3⟩
  obtain ⟨g3, rfl⟩ := grow g2 hB3
  clear hB3
  go_wp2_with (fail)
  refine (had.out _).mono ?_
  rintro e4 w4 ⟨rfl, hB4⟩
  obtain ⟨g4, rfl⟩ := grow g3 hB4
  clear hB4
  go_wp2_with (fail)
  refine (hee.out _).mono ?_
  rintro e5 w5 ⟨rfl, hB5⟩
  obtain ⟨g5, rfl⟩ := grow g4 hB5
  clear hB5
  go_wp2_with (fail)
  refine (hmu.out _).mono ?_
  rintro e6 w6 ⟨rfl, hB6⟩
  obtain ⟨g6, rfl⟩ := grow g5 hB6
  clear hB6
  go_wp2_with (fail)
  refine (hee.out _).mono ?_
  rintro e7 w7 ⟨rfl, hB7⟩
  obtain ⟨g7, rfl⟩ := grow g6 hB7
  clear hB7
  go_wp2_with (fail)
  refine (hdv.out _).mono ?_
  rintro e8 w8 ⟨rfl, hB8⟩
  obtain ⟨g8, rfl⟩ := grow g7 hB8
  clear hB8
  go_wp2_with (fail)
  refine (hee.out _).mono ?_
  rintro e9 w9 ⟨rfl, hB9⟩
  obtain ⟨g9, rfl⟩ := grow g8 hB9
  clear hB9
  go_wp2_with (fail)
  have hB : Below w.heap.size w g9.w := below_then hT1 g9.h
  go_ret
  refine ⟨rfl, ?_⟩
  go_grown

set_option maxRecDepth 100000 in
set_option maxHeartbeats 8000000 in
theorem inc_pos_lt (x0 x1 x2 x3 x4 x5 i k a b c d p q n m s1 s2 uu1 uu2 l1 l2 z1 z2 t1 t2 v1 v2 r1 r2 : Int) (w : World) (g1 : -2147483648 < p) (g2 : p < 2147483648) (g3 : -2147483648 < q) (g4 : q < 2147483648) (g5 : -4611686018427387904 ≤ p * q) (g6 : p * q ≤ 4611686018427387904) (g7 : -4611686018427387904 ≤ p * p) (g8 : p * p ≤ 4611686018427387904) (g9 : -4611686018427387904 ≤ p * n) (g10 : p * n ≤ 4611686018427387904) (hq : 0 < q) (hp : p < 0) (is : Bool) (u1 : ∀ w, Calls Try.prog 16 #[.agg #[.int .i64 x0, .int .i64 x1]] w fun e w' => e = .returned (.agg #[.int .i64 a, .int .i64 b]) ∧ Below w.heap.size w w') (u2 : ∀ w, Calls Try.prog 16 #[.agg #[.int .i64 x2, .int .i64 x3]] w fun e w' => e = .returned (.agg #[.int .i64 c, .int .i64 d]) ∧ Below w.heap.size w w') (e1 : ∀ w, Calls Try.prog 38 #[.agg #[.int .i64 a, .int .i64 b]] w fun e w' => e = .returned (.bool false) ∧ Below w.heap.size w w') (e2 : ∀ w, Calls Try.prog 38 #[.agg #[.int .i64 c, .int .i64 d]] w fun e w' => e = .returned (.bool false) ∧ Below w.heap.size w w') (p1_ : ∀ w, Calls Try.prog 57 #[.agg #[.int .i64 a, .int .i64 b], .int .u32 i] w fun e w' => e = .returned (.int .i64 p) ∧ Below w.heap.size w w') (p2_ : ∀ w, Calls Try.prog 57 #[.agg #[.int .i64 c, .int .i64 d], .int .u32 k] w fun e w' => e = .returned (.int .i64 q) ∧ Below w.heap.size w w') (ra : ∀ w, Calls Try.prog 17 #[.agg #[.int .i64 x0, .int .i64 x1, .int .i64 x2, .int .i64 x3, .int .i32 x4, .int .u16 x5]] w fun e w' => e = .returned (.tuple #[.int .i64 n, .int .i64 m]) ∧ Below w.heap.size w w') (a1_ : ∀ w, Calls Try.prog 45 #[.agg #[.int .i64 a, .int .i64 b], .agg #[.int .i64 c, .int .i64 d]] w fun e w' => e = .returned (.agg #[.int .i64 s1, .int .i64 s2]) ∧ Below w.heap.size w w') (a2_ : ∀ w, Calls Try.prog 58 #[.agg #[.int .i64 s1, .int .i64 s2], .int .i64 (p + q), .int .i64 1] w fun e w' => e = .returned (.bool true) ∧ Below w.heap.size w w') (b1_ : ∀ w, Calls Try.prog 47 #[.agg #[.int .i64 a, .int .i64 b], .agg #[.int .i64 c, .int .i64 d]] w fun e w' => e = .returned (.agg #[.int .i64 uu1, .int .i64 uu2]) ∧ Below w.heap.size w w') (b2_ : ∀ w, Calls Try.prog 58 #[.agg #[.int .i64 uu1, .int .i64 uu2], .int .i64 (p - q), .int .i64 1] w fun e w' => e = .returned (.bool true) ∧ Below w.heap.size w w') (n1_ : ∀ w, Calls Try.prog 49 #[.agg #[.int .i64 a, .int .i64 b]] w fun e w' => e = .returned (.agg #[.int .i64 (-b), .int .i64 (-a)]) ∧ Below w.heap.size w w') (n2_ : ∀ w, Calls Try.prog 58 #[.agg #[.int .i64 (-b), .int .i64 (-a)], .int .i64 (-p), .int .i64 1] w fun e w' => e = .returned (.bool true) ∧ Below w.heap.size w w') (m1_ : ∀ w, Calls Try.prog 51 #[.agg #[.int .i64 a, .int .i64 b], .agg #[.int .i64 c, .int .i64 d]] w fun e w' => e = .returned (.agg #[.int .i64 l1, .int .i64 l2]) ∧ Below w.heap.size w w') (m2_ : ∀ w, Calls Try.prog 58 #[.agg #[.int .i64 l1, .int .i64 l2], .int .i64 (p * q), .int .i64 65536] w fun e w' => e = .returned (.bool true) ∧ Below w.heap.size w w') (s1_ : ∀ w, Calls Try.prog 53 #[.agg #[.int .i64 a, .int .i64 b]] w fun e w' => e = .returned (.agg #[.int .i64 z1, .int .i64 z2]) ∧ Below w.heap.size w w') (s2_ : ∀ w, Calls Try.prog 58 #[.agg #[.int .i64 z1, .int .i64 z2], .int .i64 (p * p), .int .i64 65536] w fun e w' => e = .returned (.bool true) ∧ Below w.heap.size w w') (r1_ : ∀ w, Calls Try.prog 23 #[.agg #[.int .i64 a, .int .i64 b], .int .i64 n, .int .i64 m] w fun e w' => e = .returned (.agg #[.int .i64 t1, .int .i64 t2]) ∧ Below w.heap.size w w') (r2_ : ∀ w, Calls Try.prog 58 #[.agg #[.int .i64 t1, .int .i64 t2], .int .i64 (p * n), .int .i64 m] w fun e w' => e = .returned (.bool true) ∧ Below w.heap.size w w') (d1_ : ∀ w, Calls Try.prog 55 #[.agg #[.int .i64 a, .int .i64 b], .agg #[.int .i64 c, .int .i64 d]] w fun e w' => e = .returned (.agg #[.int .i64 v1, .int .i64 v2]) ∧ Below w.heap.size w w') (d2_ : ∀ w, Calls Try.prog 58 #[.agg #[.int .i64 v1, .int .i64 v2], .int .i64 (p * 65536), .int .i64 q] w fun e w' => e = .returned (.bool true) ∧ Below w.heap.size w w') (sr : ∀ w, Calls Try.prog 18 #[.agg #[.int .i64 a, .int .i64 b]] w fun e w' => e = .returned (.tuple #[.agg #[.int .i64 r1, .int .i64 r2], .bool is]) ∧ Below w.heap.size w w') :
    Calls Try.prog 4 #[.agg #[.int .i64 x0, .int .i64 x1, .int .i64 x2, .int .i64 x3, .int .i32 x4, .int .u16 x5], .int .u32 i, .int .u32 k] w fun e w' => e = .returned (.bool true) ∧ Below w.heap.size w w' := by
  have hu1 := Lib.hid u1
  clear u1
  have hu2 := Lib.hid u2
  clear u2
  have he1 := Lib.hid e1
  clear e1
  have he2 := Lib.hid e2
  clear e2
  have hp1_ := Lib.hid p1_
  clear p1_
  have hp2_ := Lib.hid p2_
  clear p2_
  have hra := Lib.hid ra
  clear ra
  have ha1_ := Lib.hid a1_
  clear a1_
  have ha2_ := Lib.hid a2_
  clear a2_
  have hb1_ := Lib.hid b1_
  clear b1_
  have hb2_ := Lib.hid b2_
  clear b2_
  have hn1_ := Lib.hid n1_
  clear n1_
  have hn2_ := Lib.hid n2_
  clear n2_
  have hm1_ := Lib.hid m1_
  clear m1_
  have hm2_ := Lib.hid m2_
  clear m2_
  have hs1_ := Lib.hid s1_
  clear s1_
  have hs2_ := Lib.hid s2_
  clear s2_
  have hr1_ := Lib.hid r1_
  clear r1_
  have hr2_ := Lib.hid r2_
  clear r2_
  have hd1_ := Lib.hid d1_
  clear d1_
  have hd2_ := Lib.hid d2_
  clear d2_
  have hsr := Lib.hid sr
  clear sr
  have hq' : decide (q < 0) = false := decide_eq_false (by omega)
  go_enter Try.func4, Try.ntmps4
  go_wp2_with (fail)
  generalize hW0 : World.alloc w _ = W0
  have hT0 : Below w.heap.size w W0 := by subst hW0; exact ((Below.refl w.heap.size w).alloc (by go_size) _)
  have Y0 : w.heap.size < W0.heap.size := by subst hW0; simp <;> omega
  have S0 : ∀ g : Grown W0, w.heap.size < g.w.heap.size := fun g => Nat.lt_of_lt_of_le Y0 g.h.size
  have F0_0 : ∀ g : Grown W0, g.w.cell? ⟨w.heap.size, 0, none⟩ = some (.int .i64 x0) := fun g => (g.cell Y0).trans (by subst hW0; simp [go_sem])
  have H0_0 : ∀ g : Grown W0, g.w.frozen? ⟨w.heap.size, 0, none⟩ = false := fun g => (g.frozen Y0).trans (by subst hW0; simp [go_sem])
  have F0_1 : ∀ g : Grown W0, g.w.cell? ⟨w.heap.size, 1, none⟩ = some (.int .i64 x1) := fun g => (g.cell Y0).trans (by subst hW0; simp [go_sem])
  have H0_1 : ∀ g : Grown W0, g.w.frozen? ⟨w.heap.size, 1, none⟩ = false := fun g => (g.frozen Y0).trans (by subst hW0; simp [go_sem])
  have F0_2 : ∀ g : Grown W0, g.w.cell? ⟨w.heap.size, 2, none⟩ = some (.int .i64 x2) := fun g => (g.cell Y0).trans (by subst hW0; simp [go_sem])
  have H0_2 : ∀ g : Grown W0, g.w.frozen? ⟨w.heap.size, 2, none⟩ = false := fun g => (g.frozen Y0).trans (by subst hW0; simp [go_sem])
  have F0_3 : ∀ g : Grown W0, g.w.cell? ⟨w.heap.size, 3, none⟩ = some (.int .i64 x3) := fun g => (g.cell Y0).trans (by subst hW0; simp [go_sem])
  have H0_3 : ∀ g : Grown W0, g.w.frozen? ⟨w.heap.size, 3, none⟩ = false := fun g => (g.frozen Y0).trans (by subst hW0; simp [go_sem])
  have F0_4 : ∀ g : Grown W0, g.w.cell? ⟨w.heap.size, 4, none⟩ = some (.int .i32 x4) := fun g => (g.cell Y0).trans (by subst hW0; simp [go_sem])
  have H0_4 : ∀ g : Grown W0, g.w.frozen? ⟨w.heap.size, 4, none⟩ = false := fun g => (g.frozen Y0).trans (by subst hW0; simp [go_sem])
  have F0_5 : ∀ g : Grown W0, g.w.cell? ⟨w.heap.size, 5, none⟩ = some (.int .u16 x5) := fun g => (g.cell Y0).trans (by subst hW0; simp [go_sem])
  have H0_5 : ∀ g : Grown W0, g.w.frozen? ⟨w.heap.size, 5, none⟩ = false := fun g => (g.frozen Y0).trans (by subst hW0; simp [go_sem])
  clear Y0
  clear hW0
  obtain ⟨g0, hg0⟩ : ∃ g : Grown W0, W0 = g.w := ⟨⟨W0, Below.refl _ _⟩, rfl⟩
  rw [hg0]
  clear hg0
  refine (sanity2 _).mono ?_
  rintro e1 w1 ⟨rfl, hB1⟩
  obtain ⟨g1, rfl⟩ := grow g0 hB1
  clear hB1
  go_wp2_with (fail)
  refine region_data 8 23 _ (by kernel_rfl) new_iv (by kernel_rfl) ?_
  refine data_op (.pointer (some ⟨w.heap.size, 0, none⟩)) rfl (RQ_pure (fun w => by simp [go_sem])) ?_
  simp only [Act.put, List.setIfInBounds_toArray, List.set_cons_succ, List.set_cons_zero]
  refine data_op _ rfl (RQ_load rfl rfl (load_iv_at (S0 _) (F0_0 _) (F0_1 _))) ?_
  simp only [Act.put, List.setIfInBounds_toArray, List.set_cons_succ, List.set_cons_zero]
  refine data_op _ rfl (RQ_call hu1.out (fun _ => by simp [go_sem])) ?_
  simp only [Act.put, List.setIfInBounds_toArray, List.set_cons_succ, List.set_cons_zero]
  refine data_op (.pointer (some ⟨w.heap.size, 2, none⟩)) rfl (RQ_pure (fun w => by simp [go_sem])) ?_
  simp only [Act.put, List.setIfInBounds_toArray, List.set_cons_succ, List.set_cons_zero]
  refine data_op _ rfl (RQ_load rfl rfl (load_iv_at (S0 _) (F0_2 _) (F0_3 _))) ?_
  simp only [Act.put, List.setIfInBounds_toArray, List.set_cons_succ, List.set_cons_zero]
  refine data_op _ rfl (RQ_call hu2.out (fun _ => by simp [go_sem])) ?_
  simp only [Act.put, List.setIfInBounds_toArray, List.set_cons_succ, List.set_cons_zero]
  refine data_al rfl ?_
  simp only [Act.put, List.setIfInBounds_toArray, List.set_cons_succ, List.set_cons_zero]
  refine data_al rfl ?_
  simp only [Act.put, List.setIfInBounds_toArray, List.set_cons_succ, List.set_cons_zero]
  refine data_end ?_
  intro wh hBh
  simp only [Act.put, List.drop_succ_cons, List.drop_zero, List.take_succ_cons, List.take_zero, alDsts, List.filterMap_cons, List.filterMap_nil, isAl, Bool.false_eq_true, if_false, if_true, finK]
  intro b1x0 p0 q0 r0 o0
  intro b1x1 p1 q1 r1 o1
  obtain ⟨u00, u01, v00, v01⟩ := new_cell o0
  obtain ⟨u10, u11, v10, v11⟩ := new_cell o1
  have n01 : b1x0 ≠ b1x1 := r1 b1x0 (by simp)
  clear r0 o0 r1 o1
  simp only [List.setIfInBounds_toArray, List.set_cons_succ, List.set_cons_zero]
  refine list_store rfl rfl rfl rfl rfl (by exact u00) (by exact u01) (by exact v00) (by exact v01) ?_
  refine list_store rfl rfl rfl rfl rfl (by rw [st2_old (Ne.symm n01)]; exact u10) (by rw [st2_old (Ne.symm n01)]; exact u11) (by simp only [st2_frozen]; exact v10) (by simp only [st2_frozen]; exact v11) ?_
  refine wpList_nil ?_
  generalize e1 : (st2 (st2 wh b1x0 (.int .i64 a) (.int .i64 b)) b1x1 (.int .i64 c) (.int .i64 d)) = W1
  have hL1 : Below g1.w.heap.size g1.w W1 := by rw [← e1]; exact (st2_below (st2_below hBh p0) p1)
  have hT1 : Below w.heap.size w W1 := below_then (below_then hT0 g1.h) hL1
  have s0 := S0 g1
  have Y0 : w.heap.size < W1.heap.size := Nat.lt_of_lt_of_le s0 hL1.size
  have c0_0 := F0_0 g1
  have d0_0 := H0_0 g1
  have c0_1 := F0_1 g1
  have d0_1 := H0_1 g1
  have c0_2 := F0_2 g1
  have d0_2 := H0_2 g1
  have c0_3 := F0_3 g1
  have d0_3 := H0_3 g1
  have c0_4 := F0_4 g1
  have d0_4 := H0_4 g1
  have c0_5 := F0_5 g1
  have d0_5 := H0_5 g1
  clear S0 F0_0 H0_0 F0_1 H0_1 F0_2 H0_2 F0_3 H0_3 F0_4 H0_4 F0_5 H0_5
  have S0 : ∀ g : Grown W1, w.heap.size < g.w.heap.size := fun g => Nat.lt_of_lt_of_le Y0 g.h.size
  have F0_0 : ∀ g : Grown W1, g.w.cell? ⟨w.heap.size, 0, none⟩ = some (.int .i64 x0) := fun g => (g.cell Y0).trans ((Below.cell hL1 (p := ⟨w.heap.size, 0, none⟩) s0).trans c0_0)
  have H0_0 : ∀ g : Grown W1, g.w.frozen? ⟨w.heap.size, 0, none⟩ = false := fun g => (g.frozen Y0).trans ((Below.frozen hL1 (p := ⟨w.heap.size, 0, none⟩) s0).trans d0_0)
  have F0_1 : ∀ g : Grown W1, g.w.cell? ⟨w.heap.size, 1, none⟩ = some (.int .i64 x1) := fun g => (g.cell Y0).trans ((Below.cell hL1 (p := ⟨w.heap.size, 1, none⟩) s0).trans c0_1)
  have H0_1 : ∀ g : Grown W1, g.w.frozen? ⟨w.heap.size, 1, none⟩ = false := fun g => (g.frozen Y0).trans ((Below.frozen hL1 (p := ⟨w.heap.size, 1, none⟩) s0).trans d0_1)
  have F0_2 : ∀ g : Grown W1, g.w.cell? ⟨w.heap.size, 2, none⟩ = some (.int .i64 x2) := fun g => (g.cell Y0).trans ((Below.cell hL1 (p := ⟨w.heap.size, 2, none⟩) s0).trans c0_2)
  have H0_2 : ∀ g : Grown W1, g.w.frozen? ⟨w.heap.size, 2, none⟩ = false := fun g => (g.frozen Y0).trans ((Below.frozen hL1 (p := ⟨w.heap.size, 2, none⟩) s0).trans d0_2)
  have F0_3 : ∀ g : Grown W1, g.w.cell? ⟨w.heap.size, 3, none⟩ = some (.int .i64 x3) := fun g => (g.cell Y0).trans ((Below.cell hL1 (p := ⟨w.heap.size, 3, none⟩) s0).trans c0_3)
  have H0_3 : ∀ g : Grown W1, g.w.frozen? ⟨w.heap.size, 3, none⟩ = false := fun g => (g.frozen Y0).trans ((Below.frozen hL1 (p := ⟨w.heap.size, 3, none⟩) s0).trans d0_3)
  have F0_4 : ∀ g : Grown W1, g.w.cell? ⟨w.heap.size, 4, none⟩ = some (.int .i32 x4) := fun g => (g.cell Y0).trans ((Below.cell hL1 (p := ⟨w.heap.size, 4, none⟩) s0).trans c0_4)
  have H0_4 : ∀ g : Grown W1, g.w.frozen? ⟨w.heap.size, 4, none⟩ = false := fun g => (g.frozen Y0).trans ((Below.frozen hL1 (p := ⟨w.heap.size, 4, none⟩) s0).trans d0_4)
  have F0_5 : ∀ g : Grown W1, g.w.cell? ⟨w.heap.size, 5, none⟩ = some (.int .u16 x5) := fun g => (g.cell Y0).trans ((Below.cell hL1 (p := ⟨w.heap.size, 5, none⟩) s0).trans c0_5)
  have H0_5 : ∀ g : Grown W1, g.w.frozen? ⟨w.heap.size, 5, none⟩ = false := fun g => (g.frozen Y0).trans ((Below.frozen hL1 (p := ⟨w.heap.size, 5, none⟩) s0).trans d0_5)
  clear Y0 s0 c0_0 d0_0 c0_1 d0_1 c0_2 d0_2 c0_3 d0_3 c0_4 d0_4 c0_5 d0_5
  have Y1 : b1x0 < W1.heap.size := by rw [← e1]; simp only [st2_size]; exact q0
  have S1 : ∀ g : Grown W1, b1x0 < g.w.heap.size := fun g => Nat.lt_of_lt_of_le Y1 g.h.size
  have F1_0 : ∀ g : Grown W1, g.w.cell? ⟨b1x0, 0, none⟩ = some (.int .i64 a) := fun g => (g.cell Y1).trans (by rw [← e1]; rw [st2_old n01]; exact st2_0 (u := .int .i64 0) (by exact u00))
  have H1_0 : ∀ g : Grown W1, g.w.frozen? ⟨b1x0, 0, none⟩ = false := fun g => (g.frozen Y1).trans (by rw [← e1]; simp only [st2_frozen]; exact v00)
  have F1_1 : ∀ g : Grown W1, g.w.cell? ⟨b1x0, 1, none⟩ = some (.int .i64 b) := fun g => (g.cell Y1).trans (by rw [← e1]; rw [st2_old n01]; exact st2_1 (u := .int .i64 0) (by exact u01))
  have H1_1 : ∀ g : Grown W1, g.w.frozen? ⟨b1x0, 1, none⟩ = false := fun g => (g.frozen Y1).trans (by rw [← e1]; simp only [st2_frozen]; exact v01)
  clear Y1
  have Y2 : b1x1 < W1.heap.size := by rw [← e1]; simp only [st2_size]; exact q1
  have S2 : ∀ g : Grown W1, b1x1 < g.w.heap.size := fun g => Nat.lt_of_lt_of_le Y2 g.h.size
  have F2_0 : ∀ g : Grown W1, g.w.cell? ⟨b1x1, 0, none⟩ = some (.int .i64 c) := fun g => (g.cell Y2).trans (by rw [← e1]; exact st2_0 (u := .int .i64 0) (by rw [st2_old (Ne.symm n01)]; exact u10))
  have H2_0 : ∀ g : Grown W1, g.w.frozen? ⟨b1x1, 0, none⟩ = false := fun g => (g.frozen Y2).trans (by rw [← e1]; simp only [st2_frozen]; exact v10)
  have F2_1 : ∀ g : Grown W1, g.w.cell? ⟨b1x1, 1, none⟩ = some (.int .i64 d) := fun g => (g.cell Y2).trans (by rw [← e1]; exact st2_1 (u := .int .i64 0) (by rw [st2_old (Ne.symm n01)]; exact u11))
  have H2_1 : ∀ g : Grown W1, g.w.frozen? ⟨b1x1, 1, none⟩ = false := fun g => (g.frozen Y2).trans (by rw [← e1]; simp only [st2_frozen]; exact v11)
  clear Y2
  clear e1 hL1 hT0 hBh u00 u01 v00 v01 p0 q0 u10 u11 v10 v11 p1 q1 n01
  obtain ⟨h1, hg1⟩ : ∃ g : Grown W1, W1 = g.w := ⟨⟨W1, Below.refl _ _⟩, rfl⟩
  rw [hg1]
  clear hg1 g1
  go_wp2_with (fail)
  refine (he1.out _).mono ?_
  rintro e2 w2 ⟨rfl, hB2⟩
  obtain ⟨g2, rfl⟩ := grow h1 hB2
  clear hB2
  go_wp2_with (fail)
  refine (he2.out _).mono ?_
  rintro e3 w3 ⟨rfl, hB3⟩
  obtain ⟨g3, rfl⟩ := grow g2 hB3
  clear hB3
  go_wp2_with (fail)
  refine region_quiet' g3 (by kernel_rfl) (by kernel_rfl) ?_
  repeat (go_big_quiet_step (first | exact qc (hp1_.out _) | exact qc (hp2_.out _)))
  refine wpQuiet_nil ?_
  rintro _ ⟨g4, rfl⟩
  go_wp2_with (fail)
  refine (hra.out _).mono ?_
  rintro e5 w5 ⟨rfl, hB5⟩
  obtain ⟨g5, rfl⟩ := grow g4 hB5
  clear hB5
  go_wp2_with (fail)
  refine (ha1_.out _).mono ?_
  rintro e6 w6 ⟨rfl, hB6⟩
  obtain ⟨g6, rfl⟩ := grow g5 hB6
  clear hB6
  rename_i K hK
  refine hK _ _ ?_
  clear hK K
  refine list_quiet g6 ?_
  repeat (go_big_quiet_step (first | exact qc (hb1_.out _) | exact qc (hn1_.out _) | exact qc (hm1_.out _) | exact qc (hs1_.out _) | exact qc (hr1_.out _) | exact qc (ha2_.out _) | exact qc (hb2_.out _) | exact qc (hn2_.out _) | exact qc (hm2_.out _) | exact qc (hs2_.out _) | exact qc (hr2_.out _)))
  refine wpQuiet_nil ?_
  rintro _ ⟨g7, rfl⟩
  go_wp2_with (fail)
  refine (hd1_.out _).mono ?_
  rintro e8 w8 ⟨rfl, hB8⟩
  obtain ⟨g8, rfl⟩ := grow g7 hB8
  clear hB8
  rename_i K hK
  refine hK _ _ ?_
  clear hK K
  refine list_quiet g8 ?_
  repeat (go_big_quiet_step (exact qc (hd2_.out _)))
  refine wpQuiet_nil ?_
  rintro _ ⟨g9, rfl⟩
  go_wp2_with (fail)
  refine (hsr.out _).mono ?_
  rintro e10 w10 ⟨rfl, hB10⟩
  obtain ⟨g10, rfl⟩ := grow g9 hB10
  clear hB10
  go_wp2_with (fail)
  generalize hW2 : World.alloc g10.w _ = W2
  have hL2 : Below g10.w.heap.size g10.w W2 := by subst hW2; exact ((Below.refl _ _).alloc (by first | omega | (simp <;> omega)) _)
  have hT2 : Below w.heap.size w W2 := below_then (below_then hT1 g10.h) hL2
  obtain ⟨nb2, hnb2⟩ : ∃ nb, nb = g10.w.heap.size := ⟨_, rfl⟩
  have s0 := S0 g10
  have Y0 : w.heap.size < W2.heap.size := Nat.lt_of_lt_of_le s0 hL2.size
  have c0_0 := F0_0 g10
  have d0_0 := H0_0 g10
  have c0_1 := F0_1 g10
  have d0_1 := H0_1 g10
  have c0_2 := F0_2 g10
  have d0_2 := H0_2 g10
  have c0_3 := F0_3 g10
  have d0_3 := H0_3 g10
  have c0_4 := F0_4 g10
  have d0_4 := H0_4 g10
  have c0_5 := F0_5 g10
  have d0_5 := H0_5 g10
  clear S0 F0_0 H0_0 F0_1 H0_1 F0_2 H0_2 F0_3 H0_3 F0_4 H0_4 F0_5 H0_5
  have S0 : ∀ g : Grown W2, w.heap.size < g.w.heap.size := fun g => Nat.lt_of_lt_of_le Y0 g.h.size
  have F0_0 : ∀ g : Grown W2, g.w.cell? ⟨w.heap.size, 0, none⟩ = some (.int .i64 x0) := fun g => (g.cell Y0).trans ((Below.cell hL2 (p := ⟨w.heap.size, 0, none⟩) s0).trans c0_0)
  have H0_0 : ∀ g : Grown W2, g.w.frozen? ⟨w.heap.size, 0, none⟩ = false := fun g => (g.frozen Y0).trans ((Below.frozen hL2 (p := ⟨w.heap.size, 0, none⟩) s0).trans d0_0)
  have F0_1 : ∀ g : Grown W2, g.w.cell? ⟨w.heap.size, 1, none⟩ = some (.int .i64 x1) := fun g => (g.cell Y0).trans ((Below.cell hL2 (p := ⟨w.heap.size, 1, none⟩) s0).trans c0_1)
  have H0_1 : ∀ g : Grown W2, g.w.frozen? ⟨w.heap.size, 1, none⟩ = false := fun g => (g.frozen Y0).trans ((Below.frozen hL2 (p := ⟨w.heap.size, 1, none⟩) s0).trans d0_1)
  have F0_2 : ∀ g : Grown W2, g.w.cell? ⟨w.heap.size, 2, none⟩ = some (.int .i64 x2) := fun g => (g.cell Y0).trans ((Below.cell hL2 (p := ⟨w.heap.size, 2, none⟩) s0).trans c0_2)
  have H0_2 : ∀ g : Grown W2, g.w.frozen? ⟨w.heap.size, 2, none⟩ = false := fun g => (g.frozen Y0).trans ((Below.frozen hL2 (p := ⟨w.heap.size, 2, none⟩) s0).trans d0_2)
  have F0_3 : ∀ g : Grown W2, g.w.cell? ⟨w.heap.size, 3, none⟩ = some (.int .i64 x3) := fun g => (g.cell Y0).trans ((Below.cell hL2 (p := ⟨w.heap.size, 3, none⟩) s0).trans c0_3)
  have H0_3 : ∀ g : Grown W2, g.w.frozen? ⟨w.heap.size, 3, none⟩ = false := fun g => (g.frozen Y0).trans ((Below.frozen hL2 (p := ⟨w.heap.size, 3, none⟩) s0).trans d0_3)
  have F0_4 : ∀ g : Grown W2, g.w.cell? ⟨w.heap.size, 4, none⟩ = some (.int .i32 x4) := fun g => (g.cell Y0).trans ((Below.cell hL2 (p := ⟨w.heap.size, 4, none⟩) s0).trans c0_4)
  have H0_4 : ∀ g : Grown W2, g.w.frozen? ⟨w.heap.size, 4, none⟩ = false := fun g => (g.frozen Y0).trans ((Below.frozen hL2 (p := ⟨w.heap.size, 4, none⟩) s0).trans d0_4)
  have F0_5 : ∀ g : Grown W2, g.w.cell? ⟨w.heap.size, 5, none⟩ = some (.int .u16 x5) := fun g => (g.cell Y0).trans ((Below.cell hL2 (p := ⟨w.heap.size, 5, none⟩) s0).trans c0_5)
  have H0_5 : ∀ g : Grown W2, g.w.frozen? ⟨w.heap.size, 5, none⟩ = false := fun g => (g.frozen Y0).trans ((Below.frozen hL2 (p := ⟨w.heap.size, 5, none⟩) s0).trans d0_5)
  clear Y0 s0 c0_0 d0_0 c0_1 d0_1 c0_2 d0_2 c0_3 d0_3 c0_4 d0_4 c0_5 d0_5
  have s1 := S1 g10
  have Y1 : b1x0 < W2.heap.size := Nat.lt_of_lt_of_le s1 hL2.size
  have c1_0 := F1_0 g10
  have d1_0 := H1_0 g10
  have c1_1 := F1_1 g10
  have d1_1 := H1_1 g10
  clear S1 F1_0 H1_0 F1_1 H1_1
  have S1 : ∀ g : Grown W2, b1x0 < g.w.heap.size := fun g => Nat.lt_of_lt_of_le Y1 g.h.size
  have F1_0 : ∀ g : Grown W2, g.w.cell? ⟨b1x0, 0, none⟩ = some (.int .i64 a) := fun g => (g.cell Y1).trans ((Below.cell hL2 (p := ⟨b1x0, 0, none⟩) s1).trans c1_0)
  have H1_0 : ∀ g : Grown W2, g.w.frozen? ⟨b1x0, 0, none⟩ = false := fun g => (g.frozen Y1).trans ((Below.frozen hL2 (p := ⟨b1x0, 0, none⟩) s1).trans d1_0)
  have F1_1 : ∀ g : Grown W2, g.w.cell? ⟨b1x0, 1, none⟩ = some (.int .i64 b) := fun g => (g.cell Y1).trans ((Below.cell hL2 (p := ⟨b1x0, 1, none⟩) s1).trans c1_1)
  have H1_1 : ∀ g : Grown W2, g.w.frozen? ⟨b1x0, 1, none⟩ = false := fun g => (g.frozen Y1).trans ((Below.frozen hL2 (p := ⟨b1x0, 1, none⟩) s1).trans d1_1)
  clear Y1 s1 c1_0 d1_0 c1_1 d1_1
  have s2 := S2 g10
  have Y2 : b1x1 < W2.heap.size := Nat.lt_of_lt_of_le s2 hL2.size
  have c2_0 := F2_0 g10
  have d2_0 := H2_0 g10
  have c2_1 := F2_1 g10
  have d2_1 := H2_1 g10
  clear S2 F2_0 H2_0 F2_1 H2_1
  have S2 : ∀ g : Grown W2, b1x1 < g.w.heap.size := fun g => Nat.lt_of_lt_of_le Y2 g.h.size
  have F2_0 : ∀ g : Grown W2, g.w.cell? ⟨b1x1, 0, none⟩ = some (.int .i64 c) := fun g => (g.cell Y2).trans ((Below.cell hL2 (p := ⟨b1x1, 0, none⟩) s2).trans c2_0)
  have H2_0 : ∀ g : Grown W2, g.w.frozen? ⟨b1x1, 0, none⟩ = false := fun g => (g.frozen Y2).trans ((Below.frozen hL2 (p := ⟨b1x1, 0, none⟩) s2).trans d2_0)
  have F2_1 : ∀ g : Grown W2, g.w.cell? ⟨b1x1, 1, none⟩ = some (.int .i64 d) := fun g => (g.cell Y2).trans ((Below.cell hL2 (p := ⟨b1x1, 1, none⟩) s2).trans c2_1)
  have H2_1 : ∀ g : Grown W2, g.w.frozen? ⟨b1x1, 1, none⟩ = false := fun g => (g.frozen Y2).trans ((Below.frozen hL2 (p := ⟨b1x1, 1, none⟩) s2).trans d2_1)
  clear Y2 s2 c2_0 d2_0 c2_1 d2_1
  have Y3 : nb2 < W2.heap.size := by subst hW2; subst hnb2; simp <;> omega
  have S3 : ∀ g : Grown W2, nb2 < g.w.heap.size := fun g => Nat.lt_of_lt_of_le Y3 g.h.size
  have F3_0 : ∀ g : Grown W2, g.w.cell? ⟨nb2, 0, none⟩ = some (.int .i64 r1) := fun g => (g.cell Y3).trans (by subst hW2; subst hnb2; simp [go_sem])
  have H3_0 : ∀ g : Grown W2, g.w.frozen? ⟨nb2, 0, none⟩ = false := fun g => (g.frozen Y3).trans (by subst hW2; subst hnb2; simp [go_sem])
  have F3_1 : ∀ g : Grown W2, g.w.cell? ⟨nb2, 1, none⟩ = some (.int .i64 r2) := fun g => (g.cell Y3).trans (by subst hW2; subst hnb2; simp [go_sem])
  have H3_1 : ∀ g : Grown W2, g.w.frozen? ⟨nb2, 1, none⟩ = false := fun g => (g.frozen Y3).trans (by subst hW2; subst hnb2; simp [go_sem])
  clear Y3
  rw [← hnb2]
  clear hnb2 hW2 hT1 hL2
  obtain ⟨h2, hg2⟩ : ∃ g : Grown W2, W2 = g.w := ⟨⟨W2, Below.refl _ _⟩, rfl⟩
  rw [hg2]
  clear hg2 g10
  have hB : Below w.heap.size w h2.w := below_then hT2 h2.h
  go_ret
  refine ⟨rfl, ?_⟩
  go_grown

set_option maxRecDepth 100000 in
set_option maxHeartbeats 8000000 in
theorem inc_pos_ge (x0 x1 x2 x3 x4 x5 i k a b c d p q n m s1 s2 uu1 uu2 l1 l2 z1 z2 t1 t2 v1 v2 r1 r2 : Int) (w : World) (g1 : -2147483648 < p) (g2 : p < 2147483648) (g3 : -2147483648 < q) (g4 : q < 2147483648) (g5 : -4611686018427387904 ≤ p * q) (g6 : p * q ≤ 4611686018427387904) (g7 : -4611686018427387904 ≤ p * p) (g8 : p * p ≤ 4611686018427387904) (g9 : -4611686018427387904 ≤ p * n) (g10 : p * n ≤ 4611686018427387904) (hq : 0 < q) (hp : 0 ≤ p) (q1 : r1 * r1 ≤ p * 65536) (q2 : p * 65536 ≤ r2 * r2) (q3 : 0 ≤ r1 * r1) (q4 : r2 * r2 ≤ 4611686018427387904) (u1 : ∀ w, Calls Try.prog 16 #[.agg #[.int .i64 x0, .int .i64 x1]] w fun e w' => e = .returned (.agg #[.int .i64 a, .int .i64 b]) ∧ Below w.heap.size w w') (u2 : ∀ w, Calls Try.prog 16 #[.agg #[.int .i64 x2, .int .i64 x3]] w fun e w' => e = .returned (.agg #[.int .i64 c, .int .i64 d]) ∧ Below w.heap.size w w') (e1 : ∀ w, Calls Try.prog 38 #[.agg #[.int .i64 a, .int .i64 b]] w fun e w' => e = .returned (.bool false) ∧ Below w.heap.size w w') (e2 : ∀ w, Calls Try.prog 38 #[.agg #[.int .i64 c, .int .i64 d]] w fun e w' => e = .returned (.bool false) ∧ Below w.heap.size w w') (p1_ : ∀ w, Calls Try.prog 57 #[.agg #[.int .i64 a, .int .i64 b], .int .u32 i] w fun e w' => e = .returned (.int .i64 p) ∧ Below w.heap.size w w') (p2_ : ∀ w, Calls Try.prog 57 #[.agg #[.int .i64 c, .int .i64 d], .int .u32 k] w fun e w' => e = .returned (.int .i64 q) ∧ Below w.heap.size w w') (ra : ∀ w, Calls Try.prog 17 #[.agg #[.int .i64 x0, .int .i64 x1, .int .i64 x2, .int .i64 x3, .int .i32 x4, .int .u16 x5]] w fun e w' => e = .returned (.tuple #[.int .i64 n, .int .i64 m]) ∧ Below w.heap.size w w') (a1_ : ∀ w, Calls Try.prog 45 #[.agg #[.int .i64 a, .int .i64 b], .agg #[.int .i64 c, .int .i64 d]] w fun e w' => e = .returned (.agg #[.int .i64 s1, .int .i64 s2]) ∧ Below w.heap.size w w') (a2_ : ∀ w, Calls Try.prog 58 #[.agg #[.int .i64 s1, .int .i64 s2], .int .i64 (p + q), .int .i64 1] w fun e w' => e = .returned (.bool true) ∧ Below w.heap.size w w') (b1_ : ∀ w, Calls Try.prog 47 #[.agg #[.int .i64 a, .int .i64 b], .agg #[.int .i64 c, .int .i64 d]] w fun e w' => e = .returned (.agg #[.int .i64 uu1, .int .i64 uu2]) ∧ Below w.heap.size w w') (b2_ : ∀ w, Calls Try.prog 58 #[.agg #[.int .i64 uu1, .int .i64 uu2], .int .i64 (p - q), .int .i64 1] w fun e w' => e = .returned (.bool true) ∧ Below w.heap.size w w') (n1_ : ∀ w, Calls Try.prog 49 #[.agg #[.int .i64 a, .int .i64 b]] w fun e w' => e = .returned (.agg #[.int .i64 (-b), .int .i64 (-a)]) ∧ Below w.heap.size w w') (n2_ : ∀ w, Calls Try.prog 58 #[.agg #[.int .i64 (-b), .int .i64 (-a)], .int .i64 (-p), .int .i64 1] w fun e w' => e = .returned (.bool true) ∧ Below w.heap.size w w') (m1_ : ∀ w, Calls Try.prog 51 #[.agg #[.int .i64 a, .int .i64 b], .agg #[.int .i64 c, .int .i64 d]] w fun e w' => e = .returned (.agg #[.int .i64 l1, .int .i64 l2]) ∧ Below w.heap.size w w') (m2_ : ∀ w, Calls Try.prog 58 #[.agg #[.int .i64 l1, .int .i64 l2], .int .i64 (p * q), .int .i64 65536] w fun e w' => e = .returned (.bool true) ∧ Below w.heap.size w w') (s1_ : ∀ w, Calls Try.prog 53 #[.agg #[.int .i64 a, .int .i64 b]] w fun e w' => e = .returned (.agg #[.int .i64 z1, .int .i64 z2]) ∧ Below w.heap.size w w') (s2_ : ∀ w, Calls Try.prog 58 #[.agg #[.int .i64 z1, .int .i64 z2], .int .i64 (p * p), .int .i64 65536] w fun e w' => e = .returned (.bool true) ∧ Below w.heap.size w w') (r1_ : ∀ w, Calls Try.prog 23 #[.agg #[.int .i64 a, .int .i64 b], .int .i64 n, .int .i64 m] w fun e w' => e = .returned (.agg #[.int .i64 t1, .int .i64 t2]) ∧ Below w.heap.size w w') (r2_ : ∀ w, Calls Try.prog 58 #[.agg #[.int .i64 t1, .int .i64 t2], .int .i64 (p * n), .int .i64 m] w fun e w' => e = .returned (.bool true) ∧ Below w.heap.size w w') (d1_ : ∀ w, Calls Try.prog 55 #[.agg #[.int .i64 a, .int .i64 b], .agg #[.int .i64 c, .int .i64 d]] w fun e w' => e = .returned (.agg #[.int .i64 v1, .int .i64 v2]) ∧ Below w.heap.size w w') (d2_ : ∀ w, Calls Try.prog 58 #[.agg #[.int .i64 v1, .int .i64 v2], .int .i64 (p * 65536), .int .i64 q] w fun e w' => e = .returned (.bool true) ∧ Below w.heap.size w w') (sr : ∀ w, Calls Try.prog 18 #[.agg #[.int .i64 a, .int .i64 b]] w fun e w' => e = .returned (.tuple #[.agg #[.int .i64 r1, .int .i64 r2], .bool true]) ∧ Below w.heap.size w w') :
    Calls Try.prog 4 #[.agg #[.int .i64 x0, .int .i64 x1, .int .i64 x2, .int .i64 x3, .int .i32 x4, .int .u16 x5], .int .u32 i, .int .u32 k] w fun e w' => e = .returned (.bool true) ∧ Below w.heap.size w w' := by
  have hu1 := Lib.hid u1
  clear u1
  have hu2 := Lib.hid u2
  clear u2
  have he1 := Lib.hid e1
  clear e1
  have he2 := Lib.hid e2
  clear e2
  have hp1_ := Lib.hid p1_
  clear p1_
  have hp2_ := Lib.hid p2_
  clear p2_
  have hra := Lib.hid ra
  clear ra
  have ha1_ := Lib.hid a1_
  clear a1_
  have ha2_ := Lib.hid a2_
  clear a2_
  have hb1_ := Lib.hid b1_
  clear b1_
  have hb2_ := Lib.hid b2_
  clear b2_
  have hn1_ := Lib.hid n1_
  clear n1_
  have hn2_ := Lib.hid n2_
  clear n2_
  have hm1_ := Lib.hid m1_
  clear m1_
  have hm2_ := Lib.hid m2_
  clear m2_
  have hs1_ := Lib.hid s1_
  clear s1_
  have hs2_ := Lib.hid s2_
  clear s2_
  have hr1_ := Lib.hid r1_
  clear r1_
  have hr2_ := Lib.hid r2_
  clear r2_
  have hd1_ := Lib.hid d1_
  clear d1_
  have hd2_ := Lib.hid d2_
  clear d2_
  have hsr := Lib.hid sr
  clear sr
  have hq' : decide (q < 0) = false := decide_eq_false (by omega)
  have hp' : decide (p < 0) = false := decide_eq_false (by omega)
  go_enter Try.func4, Try.ntmps4
  go_wp2_with (fail)
  generalize hW0 : World.alloc w _ = W0
  have hT0 : Below w.heap.size w W0 := by subst hW0; exact ((Below.refl w.heap.size w).alloc (by go_size) _)
  have Y0 : w.heap.size < W0.heap.size := by subst hW0; simp <;> omega
  have S0 : ∀ g : Grown W0, w.heap.size < g.w.heap.size := fun g => Nat.lt_of_lt_of_le Y0 g.h.size
  have F0_0 : ∀ g : Grown W0, g.w.cell? ⟨w.heap.size, 0, none⟩ = some (.int .i64 x0) := fun g => (g.cell Y0).trans (by subst hW0; simp [go_sem])
  have H0_0 : ∀ g : Grown W0, g.w.frozen? ⟨w.heap.size, 0, none⟩ = false := fun g => (g.frozen Y0).trans (by subst hW0; simp [go_sem])
  have F0_1 : ∀ g : Grown W0, g.w.cell? ⟨w.heap.size, 1, none⟩ = some (.int .i64 x1) := fun g => (g.cell Y0).trans (by subst hW0; simp [go_sem])
  have H0_1 : ∀ g : Grown W0, g.w.frozen? ⟨w.heap.size, 1, none⟩ = false := fun g => (g.frozen Y0).trans (by subst hW0; simp [go_sem])
  have F0_2 : ∀ g : Grown W0, g.w.cell? ⟨w.heap.size, 2, none⟩ = some (.int .i64 x2) := fun g => (g.cell Y0).trans (by subst hW0; simp [go_sem])
  have H0_2 : ∀ g : Grown W0, g.w.frozen? ⟨w.heap.size, 2, none⟩ = false := fun g => (g.frozen Y0).trans (by subst hW0; simp [go_sem])
  have F0_3 : ∀ g : Grown W0, g.w.cell? ⟨w.heap.size, 3, none⟩ = some (.int .i64 x3) := fun g => (g.cell Y0).trans (by subst hW0; simp [go_sem])
  have H0_3 : ∀ g : Grown W0, g.w.frozen? ⟨w.heap.size, 3, none⟩ = false := fun g => (g.frozen Y0).trans (by subst hW0; simp [go_sem])
  have F0_4 : ∀ g : Grown W0, g.w.cell? ⟨w.heap.size, 4, none⟩ = some (.int .i32 x4) := fun g => (g.cell Y0).trans (by subst hW0; simp [go_sem])
  have H0_4 : ∀ g : Grown W0, g.w.frozen? ⟨w.heap.size, 4, none⟩ = false := fun g => (g.frozen Y0).trans (by subst hW0; simp [go_sem])
  have F0_5 : ∀ g : Grown W0, g.w.cell? ⟨w.heap.size, 5, none⟩ = some (.int .u16 x5) := fun g => (g.cell Y0).trans (by subst hW0; simp [go_sem])
  have H0_5 : ∀ g : Grown W0, g.w.frozen? ⟨w.heap.size, 5, none⟩ = false := fun g => (g.frozen Y0).trans (by subst hW0; simp [go_sem])
  clear Y0
  clear hW0
  obtain ⟨g0, hg0⟩ : ∃ g : Grown W0, W0 = g.w := ⟨⟨W0, Below.refl _ _⟩, rfl⟩
  rw [hg0]
  clear hg0
  refine (sanity2 _).mono ?_
  rintro e1 w1 ⟨rfl, hB1⟩
  obtain ⟨g1, rfl⟩ := grow g0 hB1
  clear hB1
  go_wp2_with (fail)
  refine region_data 8 23 _ (by kernel_rfl) new_iv (by kernel_rfl) ?_
  refine data_op (.pointer (some ⟨w.heap.size, 0, none⟩)) rfl (RQ_pure (fun w => by simp [go_sem])) ?_
  simp only [Act.put, List.setIfInBounds_toArray, List.set_cons_succ, List.set_cons_zero]
  refine data_op _ rfl (RQ_load rfl rfl (load_iv_at (S0 _) (F0_0 _) (F0_1 _))) ?_
  simp only [Act.put, List.setIfInBounds_toArray, List.set_cons_succ, List.set_cons_zero]
  refine data_op _ rfl (RQ_call hu1.out (fun _ => by simp [go_sem])) ?_
  simp only [Act.put, List.setIfInBounds_toArray, List.set_cons_succ, List.set_cons_zero]
  refine data_op (.pointer (some ⟨w.heap.size, 2, none⟩)) rfl (RQ_pure (fun w => by simp [go_sem])) ?_
  simp only [Act.put, List.setIfInBounds_toArray, List.set_cons_succ, List.set_cons_zero]
  refine data_op _ rfl (RQ_load rfl rfl (load_iv_at (S0 _) (F0_2 _) (F0_3 _))) ?_
  simp only [Act.put, List.setIfInBounds_toArray, List.set_cons_succ, List.set_cons_zero]
  refine data_op _ rfl (RQ_call hu2.out (fun _ => by simp [go_sem])) ?_
  simp only [Act.put, List.setIfInBounds_toArray, List.set_cons_succ, List.set_cons_zero]
  refine data_al rfl ?_
  simp only [Act.put, List.setIfInBounds_toArray, List.set_cons_succ, List.set_cons_zero]
  refine data_al rfl ?_
  simp only [Act.put, List.setIfInBounds_toArray, List.set_cons_succ, List.set_cons_zero]
  refine data_end ?_
  intro wh hBh
  simp only [Act.put, List.drop_succ_cons, List.drop_zero, List.take_succ_cons, List.take_zero, alDsts, List.filterMap_cons, List.filterMap_nil, isAl, Bool.false_eq_true, if_false, if_true, finK]
  intro b1x0 p0 q0 r0 o0
  intro b1x1 p1 q1 r1 o1
  obtain ⟨u00, u01, v00, v01⟩ := new_cell o0
  obtain ⟨u10, u11, v10, v11⟩ := new_cell o1
  have n01 : b1x0 ≠ b1x1 := r1 b1x0 (by simp)
  clear r0 o0 r1 o1
  simp only [List.setIfInBounds_toArray, List.set_cons_succ, List.set_cons_zero]
  refine list_store rfl rfl rfl rfl rfl (by exact u00) (by exact u01) (by exact v00) (by exact v01) ?_
  refine list_store rfl rfl rfl rfl rfl (by rw [st2_old (Ne.symm n01)]; exact u10) (by rw [st2_old (Ne.symm n01)]; exact u11) (by simp only [st2_frozen]; exact v10) (by simp only [st2_frozen]; exact v11) ?_
  refine wpList_nil ?_
  generalize e1 : (st2 (st2 wh b1x0 (.int .i64 a) (.int .i64 b)) b1x1 (.int .i64 c) (.int .i64 d)) = W1
  have hL1 : Below g1.w.heap.size g1.w W1 := by rw [← e1]; exact (st2_below (st2_below hBh p0) p1)
  have hT1 : Below w.heap.size w W1 := below_then (below_then hT0 g1.h) hL1
  have s0 := S0 g1
  have Y0 : w.heap.size < W1.heap.size := Nat.lt_of_lt_of_le s0 hL1.size
  have c0_0 := F0_0 g1
  have d0_0 := H0_0 g1
  have c0_1 := F0_1 g1
  have d0_1 := H0_1 g1
  have c0_2 := F0_2 g1
  have d0_2 := H0_2 g1
  have c0_3 := F0_3 g1
  have d0_3 := H0_3 g1
  have c0_4 := F0_4 g1
  have d0_4 := H0_4 g1
  have c0_5 := F0_5 g1
  have d0_5 := H0_5 g1
  clear S0 F0_0 H0_0 F0_1 H0_1 F0_2 H0_2 F0_3 H0_3 F0_4 H0_4 F0_5 H0_5
  have S0 : ∀ g : Grown W1, w.heap.size < g.w.heap.size := fun g => Nat.lt_of_lt_of_le Y0 g.h.size
  have F0_0 : ∀ g : Grown W1, g.w.cell? ⟨w.heap.size, 0, none⟩ = some (.int .i64 x0) := fun g => (g.cell Y0).trans ((Below.cell hL1 (p := ⟨w.heap.size, 0, none⟩) s0).trans c0_0)
  have H0_0 : ∀ g : Grown W1, g.w.frozen? ⟨w.heap.size, 0, none⟩ = false := fun g => (g.frozen Y0).trans ((Below.frozen hL1 (p := ⟨w.heap.size, 0, none⟩) s0).trans d0_0)
  have F0_1 : ∀ g : Grown W1, g.w.cell? ⟨w.heap.size, 1, none⟩ = some (.int .i64 x1) := fun g => (g.cell Y0).trans ((Below.cell hL1 (p := ⟨w.heap.size, 1, none⟩) s0).trans c0_1)
  have H0_1 : ∀ g : Grown W1, g.w.frozen? ⟨w.heap.size, 1, none⟩ = false := fun g => (g.frozen Y0).trans ((Below.frozen hL1 (p := ⟨w.heap.size, 1, none⟩) s0).trans d0_1)
  have F0_2 : ∀ g : Grown W1, g.w.cell? ⟨w.heap.size, 2, none⟩ = some (.int .i64 x2) := fun g => (g.cell Y0).trans ((Below.cell hL1 (p := ⟨w.heap.size, 2, none⟩) s0).trans c0_2)
  have H0_2 : ∀ g : Grown W1, g.w.frozen? ⟨w.heap.size, 2, none⟩ = false := fun g => (g.frozen Y0).trans ((Below.frozen hL1 (p := ⟨w.heap.size, 2, none⟩) s0).trans d0_2)
  have F0_3 : ∀ g : Grown W1, g.w.cell? ⟨w.heap.size, 3, none⟩ = some (.int .i64 x3) := fun g => (g.cell Y0).trans ((Below.cell hL1 (p := ⟨w.heap.size, 3, none⟩) s0).trans c0_3)
  have H0_3 : ∀ g : Grown W1, g.w.frozen? ⟨w.heap.size, 3, none⟩ = false := fun g => (g.frozen Y0).trans ((Below.frozen hL1 (p := ⟨w.heap.size, 3, none⟩) s0).trans d0_3)
  have F0_4 : ∀ g : Grown W1, g.w.cell? ⟨w.heap.size, 4, none⟩ = some (.int .i32 x4) := fun g => (g.cell Y0).trans ((Below.cell hL1 (p := ⟨w.heap.size, 4, none⟩) s0).trans c0_4)
  have H0_4 : ∀ g : Grown W1, g.w.frozen? ⟨w.heap.size, 4, none⟩ = false := fun g => (g.frozen Y0).trans ((Below.frozen hL1 (p := ⟨w.heap.size, 4, none⟩) s0).trans d0_4)
  have F0_5 : ∀ g : Grown W1, g.w.cell? ⟨w.heap.size, 5, none⟩ = some (.int .u16 x5) := fun g => (g.cell Y0).trans ((Below.cell hL1 (p := ⟨w.heap.size, 5, none⟩) s0).trans c0_5)
  have H0_5 : ∀ g : Grown W1, g.w.frozen? ⟨w.heap.size, 5, none⟩ = false := fun g => (g.frozen Y0).trans ((Below.frozen hL1 (p := ⟨w.heap.size, 5, none⟩) s0).trans d0_5)
  clear Y0 s0 c0_0 d0_0 c0_1 d0_1 c0_2 d0_2 c0_3 d0_3 c0_4 d0_4 c0_5 d0_5
  have Y1 : b1x0 < W1.heap.size := by rw [← e1]; simp only [st2_size]; exact q0
  have S1 : ∀ g : Grown W1, b1x0 < g.w.heap.size := fun g => Nat.lt_of_lt_of_le Y1 g.h.size
  have F1_0 : ∀ g : Grown W1, g.w.cell? ⟨b1x0, 0, none⟩ = some (.int .i64 a) := fun g => (g.cell Y1).trans (by rw [← e1]; rw [st2_old n01]; exact st2_0 (u := .int .i64 0) (by exact u00))
  have H1_0 : ∀ g : Grown W1, g.w.frozen? ⟨b1x0, 0, none⟩ = false := fun g => (g.frozen Y1).trans (by rw [← e1]; simp only [st2_frozen]; exact v00)
  have F1_1 : ∀ g : Grown W1, g.w.cell? ⟨b1x0, 1, none⟩ = some (.int .i64 b) := fun g => (g.cell Y1).trans (by rw [← e1]; rw [st2_old n01]; exact st2_1 (u := .int .i64 0) (by exact u01))
  have H1_1 : ∀ g : Grown W1, g.w.frozen? ⟨b1x0, 1, none⟩ = false := fun g => (g.frozen Y1).trans (by rw [← e1]; simp only [st2_frozen]; exact v01)
  clear Y1
  have Y2 : b1x1 < W1.heap.size := by rw [← e1]; simp only [st2_size]; exact q1
  have S2 : ∀ g : Grown W1, b1x1 < g.w.heap.size := fun g => Nat.lt_of_lt_of_le Y2 g.h.size
  have F2_0 : ∀ g : Grown W1, g.w.cell? ⟨b1x1, 0, none⟩ = some (.int .i64 c) := fun g => (g.cell Y2).trans (by rw [← e1]; exact st2_0 (u := .int .i64 0) (by rw [st2_old (Ne.symm n01)]; exact u10))
  have H2_0 : ∀ g : Grown W1, g.w.frozen? ⟨b1x1, 0, none⟩ = false := fun g => (g.frozen Y2).trans (by rw [← e1]; simp only [st2_frozen]; exact v10)
  have F2_1 : ∀ g : Grown W1, g.w.cell? ⟨b1x1, 1, none⟩ = some (.int .i64 d) := fun g => (g.cell Y2).trans (by rw [← e1]; exact st2_1 (u := .int .i64 0) (by rw [st2_old (Ne.symm n01)]; exact u11))
  have H2_1 : ∀ g : Grown W1, g.w.frozen? ⟨b1x1, 1, none⟩ = false := fun g => (g.frozen Y2).trans (by rw [← e1]; simp only [st2_frozen]; exact v11)
  clear Y2
  clear e1 hL1 hT0 hBh u00 u01 v00 v01 p0 q0 u10 u11 v10 v11 p1 q1 n01
  obtain ⟨h1, hg1⟩ : ∃ g : Grown W1, W1 = g.w := ⟨⟨W1, Below.refl _ _⟩, rfl⟩
  rw [hg1]
  clear hg1 g1
  go_wp2_with (fail)
  refine (he1.out _).mono ?_
  rintro e2 w2 ⟨rfl, hB2⟩
  obtain ⟨g2, rfl⟩ := grow h1 hB2
  clear hB2
  go_wp2_with (fail)
  refine (he2.out _).mono ?_
  rintro e3 w3 ⟨rfl, hB3⟩
  obtain ⟨g3, rfl⟩ := grow g2 hB3
  clear hB3
  go_wp2_with (fail)
  refine region_quiet' g3 (by kernel_rfl) (by kernel_rfl) ?_
  repeat (go_big_quiet_step (first | exact qc (hp1_.out _) | exact qc (hp2_.out _)))
  refine wpQuiet_nil ?_
  rintro _ ⟨g4, rfl⟩
  go_wp2_with (fail)
  refine (hra.out _).mono ?_
  rintro e5 w5 ⟨rfl, hB5⟩
  obtain ⟨g5, rfl⟩ := grow g4 hB5
  clear hB5
  go_wp2_with (fail)
  refine (ha1_.out _).mono ?_
  rintro e6 w6 ⟨rfl, hB6⟩
  obtain ⟨g6, rfl⟩ := grow g5 hB6
  clear hB6
  rename_i K hK
  refine hK _ _ ?_
  clear hK K
  refine list_quiet g6 ?_
  repeat (go_big_quiet_step (first | exact qc (hb1_.out _) | exact qc (hn1_.out _) | exact qc (hm1_.out _) | exact qc (hs1_.out _) | exact qc (hr1_.out _) | exact qc (ha2_.out _) | exact qc (hb2_.out _) | exact qc (hn2_.out _) | exact qc (hm2_.out _) | exact qc (hs2_.out _) | exact qc (hr2_.out _)))
  refine wpQuiet_nil ?_
  rintro _ ⟨g7, rfl⟩
  go_wp2_with (fail)
  refine (hd1_.out _).mono ?_
  rintro e8 w8 ⟨rfl, hB8⟩
  obtain ⟨g8, rfl⟩ := grow g7 hB8
  clear hB8
  rename_i K hK
  refine hK _ _ ?_
  clear hK K
  refine list_quiet g8 ?_
  repeat (go_big_quiet_step (exact qc (hd2_.out _)))
  refine wpQuiet_nil ?_
  rintro _ ⟨g9, rfl⟩
  go_wp2_with (fail)
  refine (hsr.out _).mono ?_
  rintro e10 w10 ⟨rfl, hB10⟩
  obtain ⟨g10, rfl⟩ := grow g9 hB10
  clear hB10
  go_wp2_with (fail)
  generalize hW2 : World.alloc g10.w _ = W2
  have hL2 : Below g10.w.heap.size g10.w W2 := by subst hW2; exact ((Below.refl _ _).alloc (by first | omega | (simp <;> omega)) _)
  have hT2 : Below w.heap.size w W2 := below_then (below_then hT1 g10.h) hL2
  obtain ⟨nb2, hnb2⟩ : ∃ nb, nb = g10.w.heap.size := ⟨_, rfl⟩
  have s0 := S0 g10
  have Y0 : w.heap.size < W2.heap.size := Nat.lt_of_lt_of_le s0 hL2.size
  have c0_0 := F0_0 g10
  have d0_0 := H0_0 g10
  have c0_1 := F0_1 g10
  have d0_1 := H0_1 g10
  have c0_2 := F0_2 g10
  have d0_2 := H0_2 g10
  have c0_3 := F0_3 g10
  have d0_3 := H0_3 g10
  have c0_4 := F0_4 g10
  have d0_4 := H0_4 g10
  have c0_5 := F0_5 g10
  have d0_5 := H0_5 g10
  clear S0 F0_0 H0_0 F0_1 H0_1 F0_2 H0_2 F0_3 H0_3 F0_4 H0_4 F0_5 H0_5
  have S0 : ∀ g : Grown W2, w.heap.size < g.w.heap.size := fun g => Nat.lt_of_lt_of_le Y0 g.h.size
  have F0_0 : ∀ g : Grown W2, g.w.cell? ⟨w.heap.size, 0, none⟩ = some (.int .i64 x0) := fun g => (g.cell Y0).trans ((Below.cell hL2 (p := ⟨w.heap.size, 0, none⟩) s0).trans c0_0)
  have H0_0 : ∀ g : Grown W2, g.w.frozen? ⟨w.heap.size, 0, none⟩ = false := fun g => (g.frozen Y0).trans ((Below.frozen hL2 (p := ⟨w.heap.size, 0, none⟩) s0).trans d0_0)
  have F0_1 : ∀ g : Grown W2, g.w.cell? ⟨w.heap.size, 1, none⟩ = some (.int .i64 x1) := fun g => (g.cell Y0).trans ((Below.cell hL2 (p := ⟨w.heap.size, 1, none⟩) s0).trans c0_1)
  have H0_1 : ∀ g : Grown W2, g.w.frozen? ⟨w.heap.size, 1, none⟩ = false := fun g => (g.frozen Y0).trans ((Below.frozen hL2 (p := ⟨w.heap.size, 1, none⟩) s0).trans d0_1)
  have F0_2 : ∀ g : Grown W2, g.w.cell? ⟨w.heap.size, 2, none⟩ = some (.int .i64 x2) := fun g => (g.cell Y0).trans ((Below.cell hL2 (p := ⟨w.heap.size, 2, none⟩) s0).trans c0_2)
  have H0_2 : ∀ g : Grown W2, g.w.frozen? ⟨w.heap.size, 2, none⟩ = false := fun g => (g.frozen Y0).trans ((Below.frozen hL2 (p := ⟨w.heap.size, 2, none⟩) s0).trans d0_2)
  have F0_3 : ∀ g : Grown W2, g.w.cell? ⟨w.heap.size, 3, none⟩ = some (.int .i64 x3) := fun g => (g.cell Y0).trans ((Below.cell hL2 (p := ⟨w.heap.size, 3, none⟩) s0).trans c0_3)
  have H0_3 : ∀ g : Grown W2, g.w.frozen? ⟨w.heap.size, 3, none⟩ = false := fun g => (g.frozen Y0).trans ((Below.frozen hL2 (p := ⟨w.heap.size, 3, none⟩) s0).trans d0_3)
  have F0_4 : ∀ g : Grown W2, g.w.cell? ⟨w.heap.size, 4, none⟩ = some (.int .i32 x4) := fun g => (g.cell Y0).trans ((Below.cell hL2 (p := ⟨w.heap.size, 4, none⟩) s0).trans c0_4)
  have H0_4 : ∀ g : Grown W2, g.w.frozen? ⟨w.heap.size, 4, none⟩ = false := fun g => (g.frozen Y0).trans ((Below.frozen hL2 (p := ⟨w.heap.size, 4, none⟩) s0).trans d0_4)
  have F0_5 : ∀ g : Grown W2, g.w.cell? ⟨w.heap.size, 5, none⟩ = some (.int .u16 x5) := fun g => (g.cell Y0).trans ((Below.cell hL2 (p := ⟨w.heap.size, 5, none⟩) s0).trans c0_5)
  have H0_5 : ∀ g : Grown W2, g.w.frozen? ⟨w.heap.size, 5, none⟩ = false := fun g => (g.frozen Y0).trans ((Below.frozen hL2 (p := ⟨w.heap.size, 5, none⟩) s0).trans d0_5)
  clear Y0 s0 c0_0 d0_0 c0_1 d0_1 c0_2 d0_2 c0_3 d0_3 c0_4 d0_4 c0_5 d0_5
  have s1 := S1 g10
  have Y1 : b1x0 < W2.heap.size := Nat.lt_of_lt_of_le s1 hL2.size
  have c1_0 := F1_0 g10
  have d1_0 := H1_0 g10
  have c1_1 := F1_1 g10
  have d1_1 := H1_1 g10
  clear S1 F1_0 H1_0 F1_1 H1_1
  have S1 : ∀ g : Grown W2, b1x0 < g.w.heap.size := fun g => Nat.lt_of_lt_of_le Y1 g.h.size
  have F1_0 : ∀ g : Grown W2, g.w.cell? ⟨b1x0, 0, none⟩ = some (.int .i64 a) := fun g => (g.cell Y1).trans ((Below.cell hL2 (p := ⟨b1x0, 0, none⟩) s1).trans c1_0)
  have H1_0 : ∀ g : Grown W2, g.w.frozen? ⟨b1x0, 0, none⟩ = false := fun g => (g.frozen Y1).trans ((Below.frozen hL2 (p := ⟨b1x0, 0, none⟩) s1).trans d1_0)
  have F1_1 : ∀ g : Grown W2, g.w.cell? ⟨b1x0, 1, none⟩ = some (.int .i64 b) := fun g => (g.cell Y1).trans ((Below.cell hL2 (p := ⟨b1x0, 1, none⟩) s1).trans c1_1)
  have H1_1 : ∀ g : Grown W2, g.w.frozen? ⟨b1x0, 1, none⟩ = false := fun g => (g.frozen Y1).trans ((Below.frozen hL2 (p := ⟨b1x0, 1, none⟩) s1).trans d1_1)
  clear Y1 s1 c1_0 d1_0 c1_1 d1_1
  have s2 := S2 g10
  have Y2 : b1x1 < W2.heap.size := Nat.lt_of_lt_of_le s2 hL2.size
  have c2_0 := F2_0 g10
  have d2_0 := H2_0 g10
  have c2_1 := F2_1 g10
  have d2_1 := H2_1 g10
  clear S2 F2_0 H2_0 F2_1 H2_1
  have S2 : ∀ g : Grown W2, b1x1 < g.w.heap.size := fun g => Nat.lt_of_lt_of_le Y2 g.h.size
  have F2_0 : ∀ g : Grown W2, g.w.cell? ⟨b1x1, 0, none⟩ = some (.int .i64 c) := fun g => (g.cell Y2).trans ((Below.cell hL2 (p := ⟨b1x1, 0, none⟩) s2).trans c2_0)
  have H2_0 : ∀ g : Grown W2, g.w.frozen? ⟨b1x1, 0, none⟩ = false := fun g => (g.frozen Y2).trans ((Below.frozen hL2 (p := ⟨b1x1, 0, none⟩) s2).trans d2_0)
  have F2_1 : ∀ g : Grown W2, g.w.cell? ⟨b1x1, 1, none⟩ = some (.int .i64 d) := fun g => (g.cell Y2).trans ((Below.cell hL2 (p := ⟨b1x1, 1, none⟩) s2).trans c2_1)
  have H2_1 : ∀ g : Grown W2, g.w.frozen? ⟨b1x1, 1, none⟩ = false := fun g => (g.frozen Y2).trans ((Below.frozen hL2 (p := ⟨b1x1, 1, none⟩) s2).trans d2_1)
  clear Y2 s2 c2_0 d2_0 c2_1 d2_1
  have Y3 : nb2 < W2.heap.size := by subst hW2; subst hnb2; simp <;> omega
  have S3 : ∀ g : Grown W2, nb2 < g.w.heap.size := fun g => Nat.lt_of_lt_of_le Y3 g.h.size
  have F3_0 : ∀ g : Grown W2, g.w.cell? ⟨nb2, 0, none⟩ = some (.int .i64 r1) := fun g => (g.cell Y3).trans (by subst hW2; subst hnb2; simp [go_sem])
  have H3_0 : ∀ g : Grown W2, g.w.frozen? ⟨nb2, 0, none⟩ = false := fun g => (g.frozen Y3).trans (by subst hW2; subst hnb2; simp [go_sem])
  have F3_1 : ∀ g : Grown W2, g.w.cell? ⟨nb2, 1, none⟩ = some (.int .i64 r2) := fun g => (g.cell Y3).trans (by subst hW2; subst hnb2; simp [go_sem])
  have H3_1 : ∀ g : Grown W2, g.w.frozen? ⟨nb2, 1, none⟩ = false := fun g => (g.frozen Y3).trans (by subst hW2; subst hnb2; simp [go_sem])
  clear Y3
  rw [← hnb2]
  clear hnb2 hW2 hT1 hL2
  obtain ⟨h2, hg2⟩ : ∃ g : Grown W2, W2 = g.w := ⟨⟨W2, Below.refl _ _⟩, rfl⟩
  rw [hg2]
  clear hg2 g10
  have hB : Below w.heap.size w h2.w := below_then hT2 h2.h
  go_ret
  refine ⟨rfl, ?_⟩
  go_grown

set_option maxRecDepth 100000 in
set_option maxHeartbeats 8000000 in
theorem inc_neg_lt (x0 x1 x2 x3 x4 x5 i k a b c d p q n m s1 s2 uu1 uu2 l1 l2 z1 z2 t1 t2 v1 v2 r1 r2 : Int) (w : World) (g1 : -2147483648 < p) (g2 : p < 2147483648) (g3 : -2147483648 < q) (g4 : q < 2147483648) (g5 : -4611686018427387904 ≤ p * q) (g6 : p * q ≤ 4611686018427387904) (g7 : -4611686018427387904 ≤ p * p) (g8 : p * p ≤ 4611686018427387904) (g9 : -4611686018427387904 ≤ p * n) (g10 : p * n ≤ 4611686018427387904) (hq : q < 0) (hp : p < 0) (is : Bool) (u1 : ∀ w, Calls Try.prog 16 #[.agg #[.int .i64 x0, .int .i64 x1]] w fun e w' => e = .returned (.agg #[.int .i64 a, .int .i64 b]) ∧ Below w.heap.size w w') (u2 : ∀ w, Calls Try.prog 16 #[.agg #[.int .i64 x2, .int .i64 x3]] w fun e w' => e = .returned (.agg #[.int .i64 c, .int .i64 d]) ∧ Below w.heap.size w w') (e1 : ∀ w, Calls Try.prog 38 #[.agg #[.int .i64 a, .int .i64 b]] w fun e w' => e = .returned (.bool false) ∧ Below w.heap.size w w') (e2 : ∀ w, Calls Try.prog 38 #[.agg #[.int .i64 c, .int .i64 d]] w fun e w' => e = .returned (.bool false) ∧ Below w.heap.size w w') (p1_ : ∀ w, Calls Try.prog 57 #[.agg #[.int .i64 a, .int .i64 b], .int .u32 i] w fun e w' => e = .returned (.int .i64 p) ∧ Below w.heap.size w w') (p2_ : ∀ w, Calls Try.prog 57 #[.agg #[.int .i64 c, .int .i64 d], .int .u32 k] w fun e w' => e = .returned (.int .i64 q) ∧ Below w.heap.size w w') (ra : ∀ w, Calls Try.prog 17 #[.agg #[.int .i64 x0, .int .i64 x1, .int .i64 x2, .int .i64 x3, .int .i32 x4, .int .u16 x5]] w fun e w' => e = .returned (.tuple #[.int .i64 n, .int .i64 m]) ∧ Below w.heap.size w w') (a1_ : ∀ w, Calls Try.prog 45 #[.agg #[.int .i64 a, .int .i64 b], .agg #[.int .i64 c, .int .i64 d]] w fun e w' => e = .returned (.agg #[.int .i64 s1, .int .i64 s2]) ∧ Below w.heap.size w w') (a2_ : ∀ w, Calls Try.prog 58 #[.agg #[.int .i64 s1, .int .i64 s2], .int .i64 (p + q), .int .i64 1] w fun e w' => e = .returned (.bool true) ∧ Below w.heap.size w w') (b1_ : ∀ w, Calls Try.prog 47 #[.agg #[.int .i64 a, .int .i64 b], .agg #[.int .i64 c, .int .i64 d]] w fun e w' => e = .returned (.agg #[.int .i64 uu1, .int .i64 uu2]) ∧ Below w.heap.size w w') (b2_ : ∀ w, Calls Try.prog 58 #[.agg #[.int .i64 uu1, .int .i64 uu2], .int .i64 (p - q), .int .i64 1] w fun e w' => e = .returned (.bool true) ∧ Below w.heap.size w w') (n1_ : ∀ w, Calls Try.prog 49 #[.agg #[.int .i64 a, .int .i64 b]] w fun e w' => e = .returned (.agg #[.int .i64 (-b), .int .i64 (-a)]) ∧ Below w.heap.size w w') (n2_ : ∀ w, Calls Try.prog 58 #[.agg #[.int .i64 (-b), .int .i64 (-a)], .int .i64 (-p), .int .i64 1] w fun e w' => e = .returned (.bool true) ∧ Below w.heap.size w w') (m1_ : ∀ w, Calls Try.prog 51 #[.agg #[.int .i64 a, .int .i64 b], .agg #[.int .i64 c, .int .i64 d]] w fun e w' => e = .returned (.agg #[.int .i64 l1, .int .i64 l2]) ∧ Below w.heap.size w w') (m2_ : ∀ w, Calls Try.prog 58 #[.agg #[.int .i64 l1, .int .i64 l2], .int .i64 (p * q), .int .i64 65536] w fun e w' => e = .returned (.bool true) ∧ Below w.heap.size w w') (s1_ : ∀ w, Calls Try.prog 53 #[.agg #[.int .i64 a, .int .i64 b]] w fun e w' => e = .returned (.agg #[.int .i64 z1, .int .i64 z2]) ∧ Below w.heap.size w w') (s2_ : ∀ w, Calls Try.prog 58 #[.agg #[.int .i64 z1, .int .i64 z2], .int .i64 (p * p), .int .i64 65536] w fun e w' => e = .returned (.bool true) ∧ Below w.heap.size w w') (r1_ : ∀ w, Calls Try.prog 23 #[.agg #[.int .i64 a, .int .i64 b], .int .i64 n, .int .i64 m] w fun e w' => e = .returned (.agg #[.int .i64 t1, .int .i64 t2]) ∧ Below w.heap.size w w') (r2_ : ∀ w, Calls Try.prog 58 #[.agg #[.int .i64 t1, .int .i64 t2], .int .i64 (p * n), .int .i64 m] w fun e w' => e = .returned (.bool true) ∧ Below w.heap.size w w') (d1_ : ∀ w, Calls Try.prog 55 #[.agg #[.int .i64 a, .int .i64 b], .agg #[.int .i64 c, .int .i64 d]] w fun e w' => e = .returned (.agg #[.int .i64 v1, .int .i64 v2]) ∧ Below w.heap.size w w') (d2_ : ∀ w, Calls Try.prog 58 #[.agg #[.int .i64 v1, .int .i64 v2], .int .i64 (-p * 65536), .int .i64 (-q)] w fun e w' => e = .returned (.bool true) ∧ Below w.heap.size w w') (sr : ∀ w, Calls Try.prog 18 #[.agg #[.int .i64 a, .int .i64 b]] w fun e w' => e = .returned (.tuple #[.agg #[.int .i64 r1, .int .i64 r2], .bool is]) ∧ Below w.heap.size w w') :
    Calls Try.prog 4 #[.agg #[.int .i64 x0, .int .i64 x1, .int .i64 x2, .int .i64 x3, .int .i32 x4, .int .u16 x5], .int .u32 i, .int .u32 k] w fun e w' => e = .returned (.bool true) ∧ Below w.heap.size w w' := by
  have hu1 := Lib.hid u1
  clear u1
  have hu2 := Lib.hid u2
  clear u2
  have he1 := Lib.hid e1
  clear e1
  have he2 := Lib.hid e2
  clear e2
  have hp1_ := Lib.hid p1_
  clear p1_
  have hp2_ := Lib.hid p2_
  clear p2_
  have hra := Lib.hid ra
  clear ra
  have ha1_ := Lib.hid a1_
  clear a1_
  have ha2_ := Lib.hid a2_
  clear a2_
  have hb1_ := Lib.hid b1_
  clear b1_
  have hb2_ := Lib.hid b2_
  clear b2_
  have hn1_ := Lib.hid n1_
  clear n1_
  have hn2_ := Lib.hid n2_
  clear n2_
  have hm1_ := Lib.hid m1_
  clear m1_
  have hm2_ := Lib.hid m2_
  clear m2_
  have hs1_ := Lib.hid s1_
  clear s1_
  have hs2_ := Lib.hid s2_
  clear s2_
  have hr1_ := Lib.hid r1_
  clear r1_
  have hr2_ := Lib.hid r2_
  clear r2_
  have hd1_ := Lib.hid d1_
  clear d1_
  have hd2_ := Lib.hid d2_
  clear d2_
  have hsr := Lib.hid sr
  clear sr
  have hq' : decide (0 < q) = false := decide_eq_false (by omega)
  go_enter Try.func4, Try.ntmps4
  go_wp2_with (fail)
  generalize hW0 : World.alloc w _ = W0
  have hT0 : Below w.heap.size w W0 := by subst hW0; exact ((Below.refl w.heap.size w).alloc (by go_size) _)
  have Y0 : w.heap.size < W0.heap.size := by subst hW0; simp <;> omega
  have S0 : ∀ g : Grown W0, w.heap.size < g.w.heap.size := fun g => Nat.lt_of_lt_of_le Y0 g.h.size
  have F0_0 : ∀ g : Grown W0, g.w.cell? ⟨w.heap.size, 0, none⟩ = some (.int .i64 x0) := fun g => (g.cell Y0).trans (by subst hW0; simp [go_sem])
  have H0_0 : ∀ g : Grown W0, g.w.frozen? ⟨w.heap.size, 0, none⟩ = false := fun g => (g.frozen Y0).trans (by subst hW0; simp [go_sem])
  have F0_1 : ∀ g : Grown W0, g.w.cell? ⟨w.heap.size, 1, none⟩ = some (.int .i64 x1) := fun g => (g.cell Y0).trans (by subst hW0; simp [go_sem])
  have H0_1 : ∀ g : Grown W0, g.w.frozen? ⟨w.heap.size, 1, none⟩ = false := fun g => (g.frozen Y0).trans (by subst hW0; simp [go_sem])
  have F0_2 : ∀ g : Grown W0, g.w.cell? ⟨w.heap.size, 2, none⟩ = some (.int .i64 x2) := fun g => (g.cell Y0).trans (by subst hW0; simp [go_sem])
  have H0_2 : ∀ g : Grown W0, g.w.frozen? ⟨w.heap.size, 2, none⟩ = false := fun g => (g.frozen Y0).trans (by subst hW0; simp [go_sem])
  have F0_3 : ∀ g : Grown W0, g.w.cell? ⟨w.heap.size, 3, none⟩ = some (.int .i64 x3) := fun g => (g.cell Y0).trans (by subst hW0; simp [go_sem])
  have H0_3 : ∀ g : Grown W0, g.w.frozen? ⟨w.heap.size, 3, none⟩ = false := fun g => (g.frozen Y0).trans (by subst hW0; simp [go_sem])
  have F0_4 : ∀ g : Grown W0, g.w.cell? ⟨w.heap.size, 4, none⟩ = some (.int .i32 x4) := fun g => (g.cell Y0).trans (by subst hW0; simp [go_sem])
  have H0_4 : ∀ g : Grown W0, g.w.frozen? ⟨w.heap.size, 4, none⟩ = false := fun g => (g.frozen Y0).trans (by subst hW0; simp [go_sem])
  have F0_5 : ∀ g : Grown W0, g.w.cell? ⟨w.heap.size, 5, none⟩ = some (.int .u16 x5) := fun g => (g.cell Y0).trans (by subst hW0; simp [go_sem])
  have H0_5 : ∀ g : Grown W0, g.w.frozen? ⟨w.heap.size, 5, none⟩ = false := fun g => (g.frozen Y0).trans (by subst hW0; simp [go_sem])
  clear Y0
  clear hW0
  obtain ⟨g0, hg0⟩ : ∃ g : Grown W0, W0 = g.w := ⟨⟨W0, Below.refl _ _⟩, rfl⟩
  rw [hg0]
  clear hg0
  refine (sanity2 _).mono ?_
  rintro e1 w1 ⟨rfl, hB1⟩
  obtain ⟨g1, rfl⟩ := grow g0 hB1
  clear hB1
  go_wp2_with (fail)
  refine region_data 8 23 _ (by kernel_rfl) new_iv (by kernel_rfl) ?_
  refine data_op (.pointer (some ⟨w.heap.size, 0, none⟩)) rfl (RQ_pure (fun w => by simp [go_sem])) ?_
  simp only [Act.put, List.setIfInBounds_toArray, List.set_cons_succ, List.set_cons_zero]
  refine data_op _ rfl (RQ_load rfl rfl (load_iv_at (S0 _) (F0_0 _) (F0_1 _))) ?_
  simp only [Act.put, List.setIfInBounds_toArray, List.set_cons_succ, List.set_cons_zero]
  refine data_op _ rfl (RQ_call hu1.out (fun _ => by simp [go_sem])) ?_
  simp only [Act.put, List.setIfInBounds_toArray, List.set_cons_succ, List.set_cons_zero]
  refine data_op (.pointer (some ⟨w.heap.size, 2, none⟩)) rfl (RQ_pure (fun w => by simp [go_sem])) ?_
  simp only [Act.put, List.setIfInBounds_toArray, List.set_cons_succ, List.set_cons_zero]
  refine data_op _ rfl (RQ_load rfl rfl (load_iv_at (S0 _) (F0_2 _) (F0_3 _))) ?_
  simp only [Act.put, List.setIfInBounds_toArray, List.set_cons_succ, List.set_cons_zero]
  refine data_op _ rfl (RQ_call hu2.out (fun _ => by simp [go_sem])) ?_
  simp only [Act.put, List.setIfInBounds_toArray, List.set_cons_succ, List.set_cons_zero]
  refine data_al rfl ?_
  simp only [Act.put, List.setIfInBounds_toArray, List.set_cons_succ, List.set_cons_zero]
  refine data_al rfl ?_
  simp only [Act.put, List.setIfInBounds_toArray, List.set_cons_succ, List.set_cons_zero]
  refine data_end ?_
  intro wh hBh
  simp only [Act.put, List.drop_succ_cons, List.drop_zero, List.take_succ_cons, List.take_zero, alDsts, List.filterMap_cons, List.filterMap_nil, isAl, Bool.false_eq_true, if_false, if_true, finK]
  intro b1x0 p0 q0 r0 o0
  intro b1x1 p1 q1 r1 o1
  obtain ⟨u00, u01, v00, v01⟩ := new_cell o0
  obtain ⟨u10, u11, v10, v11⟩ := new_cell o1
  have n01 : b1x0 ≠ b1x1 := r1 b1x0 (by simp)
  clear r0 o0 r1 o1
  simp only [List.setIfInBounds_toArray, List.set_cons_succ, List.set_cons_zero]
  refine list_store rfl rfl rfl rfl rfl (by exact u00) (by exact u01) (by exact v00) (by exact v01) ?_
  refine list_store rfl rfl rfl rfl rfl (by rw [st2_old (Ne.symm n01)]; exact u10) (by rw [st2_old (Ne.symm n01)]; exact u11) (by simp only [st2_frozen]; exact v10) (by simp only [st2_frozen]; exact v11) ?_
  refine wpList_nil ?_
  generalize e1 : (st2 (st2 wh b1x0 (.int .i64 a) (.int .i64 b)) b1x1 (.int .i64 c) (.int .i64 d)) = W1
  have hL1 : Below g1.w.heap.size g1.w W1 := by rw [← e1]; exact (st2_below (st2_below hBh p0) p1)
  have hT1 : Below w.heap.size w W1 := below_then (below_then hT0 g1.h) hL1
  have s0 := S0 g1
  have Y0 : w.heap.size < W1.heap.size := Nat.lt_of_lt_of_le s0 hL1.size
  have c0_0 := F0_0 g1
  have d0_0 := H0_0 g1
  have c0_1 := F0_1 g1
  have d0_1 := H0_1 g1
  have c0_2 := F0_2 g1
  have d0_2 := H0_2 g1
  have c0_3 := F0_3 g1
  have d0_3 := H0_3 g1
  have c0_4 := F0_4 g1
  have d0_4 := H0_4 g1
  have c0_5 := F0_5 g1
  have d0_5 := H0_5 g1
  clear S0 F0_0 H0_0 F0_1 H0_1 F0_2 H0_2 F0_3 H0_3 F0_4 H0_4 F0_5 H0_5
  have S0 : ∀ g : Grown W1, w.heap.size < g.w.heap.size := fun g => Nat.lt_of_lt_of_le Y0 g.h.size
  have F0_0 : ∀ g : Grown W1, g.w.cell? ⟨w.heap.size, 0, none⟩ = some (.int .i64 x0) := fun g => (g.cell Y0).trans ((Below.cell hL1 (p := ⟨w.heap.size, 0, none⟩) s0).trans c0_0)
  have H0_0 : ∀ g : Grown W1, g.w.frozen? ⟨w.heap.size, 0, none⟩ = false := fun g => (g.frozen Y0).trans ((Below.frozen hL1 (p := ⟨w.heap.size, 0, none⟩) s0).trans d0_0)
  have F0_1 : ∀ g : Grown W1, g.w.cell? ⟨w.heap.size, 1, none⟩ = some (.int .i64 x1) := fun g => (g.cell Y0).trans ((Below.cell hL1 (p := ⟨w.heap.size, 1, none⟩) s0).trans c0_1)
  have H0_1 : ∀ g : Grown W1, g.w.frozen? ⟨w.heap.size, 1, none⟩ = false := fun g => (g.frozen Y0).trans ((Below.frozen hL1 (p := ⟨w.heap.size, 1, none⟩) s0).trans d0_1)
  have F0_2 : ∀ g : Grown W1, g.w.cell? ⟨w.heap.size, 2, none⟩ = some (.int .i64 x2) := fun g => (g.cell Y0).trans ((Below.cell hL1 (p := ⟨w.heap.size, 2, none⟩) s0).trans c0_2)
  have H0_2 : ∀ g : Grown W1, g.w.frozen? ⟨w.heap.size, 2, none⟩ = false := fun g => (g.frozen Y0).trans ((Below.frozen hL1 (p := ⟨w.heap.size, 2, none⟩) s0).trans d0_2)
  have F0_3 : ∀ g : Grown W1, g.w.cell? ⟨w.heap.size, 3, none⟩ = some (.int .i64 x3) := fun g => (g.cell Y0).trans ((Below.cell hL1 (p := ⟨w.heap.size, 3, none⟩) s0).trans c0_3)
  have H0_3 : ∀ g : Grown W1, g.w.frozen? ⟨w.heap.size, 3, none⟩ = false := fun g => (g.frozen Y0).trans ((Below.frozen hL1 (p := ⟨w.heap.size, 3, none⟩) s0).trans d0_3)
  have F0_4 : ∀ g : Grown W1, g.w.cell? ⟨w.heap.size, 4, none⟩ = some (.int .i32 x4) := fun g => (g.cell Y0).trans ((Below.cell hL1 (p := ⟨w.heap.size, 4, none⟩) s0).trans c0_4)
  have H0_4 : ∀ g : Grown W1, g.w.frozen? ⟨w.heap.size, 4, none⟩ = false := fun g => (g.frozen Y0).trans ((Below.frozen hL1 (p := ⟨w.heap.size, 4, none⟩) s0).trans d0_4)
  have F0_5 : ∀ g : Grown W1, g.w.cell? ⟨w.heap.size, 5, none⟩ = some (.int .u16 x5) := fun g => (g.cell Y0).trans ((Below.cell hL1 (p := ⟨w.heap.size, 5, none⟩) s0).trans c0_5)
  have H0_5 : ∀ g : Grown W1, g.w.frozen? ⟨w.heap.size, 5, none⟩ = false := fun g => (g.frozen Y0).trans ((Below.frozen hL1 (p := ⟨w.heap.size, 5, none⟩) s0).trans d0_5)
  clear Y0 s0 c0_0 d0_0 c0_1 d0_1 c0_2 d0_2 c0_3 d0_3 c0_4 d0_4 c0_5 d0_5
  have Y1 : b1x0 < W1.heap.size := by rw [← e1]; simp only [st2_size]; exact q0
  have S1 : ∀ g : Grown W1, b1x0 < g.w.heap.size := fun g => Nat.lt_of_lt_of_le Y1 g.h.size
  have F1_0 : ∀ g : Grown W1, g.w.cell? ⟨b1x0, 0, none⟩ = some (.int .i64 a) := fun g => (g.cell Y1).trans (by rw [← e1]; rw [st2_old n01]; exact st2_0 (u := .int .i64 0) (by exact u00))
  have H1_0 : ∀ g : Grown W1, g.w.frozen? ⟨b1x0, 0, none⟩ = false := fun g => (g.frozen Y1).trans (by rw [← e1]; simp only [st2_frozen]; exact v00)
  have F1_1 : ∀ g : Grown W1, g.w.cell? ⟨b1x0, 1, none⟩ = some (.int .i64 b) := fun g => (g.cell Y1).trans (by rw [← e1]; rw [st2_old n01]; exact st2_1 (u := .int .i64 0) (by exact u01))
  have H1_1 : ∀ g : Grown W1, g.w.frozen? ⟨b1x0, 1, none⟩ = false := fun g => (g.frozen Y1).trans (by rw [← e1]; simp only [st2_frozen]; exact v01)
  clear Y1
  have Y2 : b1x1 < W1.heap.size := by rw [← e1]; simp only [st2_size]; exact q1
  have S2 : ∀ g : Grown W1, b1x1 < g.w.heap.size := fun g => Nat.lt_of_lt_of_le Y2 g.h.size
  have F2_0 : ∀ g : Grown W1, g.w.cell? ⟨b1x1, 0, none⟩ = some (.int .i64 c) := fun g => (g.cell Y2).trans (by rw [← e1]; exact st2_0 (u := .int .i64 0) (by rw [st2_old (Ne.symm n01)]; exact u10))
  have H2_0 : ∀ g : Grown W1, g.w.frozen? ⟨b1x1, 0, none⟩ = false := fun g => (g.frozen Y2).trans (by rw [← e1]; simp only [st2_frozen]; exact v10)
  have F2_1 : ∀ g : Grown W1, g.w.cell? ⟨b1x1, 1, none⟩ = some (.int .i64 d) := fun g => (g.cell Y2).trans (by rw [← e1]; exact st2_1 (u := .int .i64 0) (by rw [st2_old (Ne.symm n01)]; exact u11))
  have H2_1 : ∀ g : Grown W1, g.w.frozen? ⟨b1x1, 1, none⟩ = false := fun g => (g.frozen Y2).trans (by rw [← e1]; simp only [st2_frozen]; exact v11)
  clear Y2
  clear e1 hL1 hT0 hBh u00 u01 v00 v01 p0 q0 u10 u11 v10 v11 p1 q1 n01
  obtain ⟨h1, hg1⟩ : ∃ g : Grown W1, W1 = g.w := ⟨⟨W1, Below.refl _ _⟩, rfl⟩
  rw [hg1]
  clear hg1 g1
  go_wp2_with (fail)
  refine (he1.out _).mono ?_
  rintro e2 w2 ⟨rfl, hB2⟩
  obtain ⟨g2, rfl⟩ := grow h1 hB2
  clear hB2
  go_wp2_with (fail)
  refine (he2.out _).mono ?_
  rintro e3 w3 ⟨rfl, hB3⟩
  obtain ⟨g3, rfl⟩ := grow g2 hB3
  clear hB3
  go_wp2_with (fail)
  refine region_quiet' g3 (by kernel_rfl) (by kernel_rfl) ?_
  repeat (go_big_quiet_step (first | exact qc (hp1_.out _) | exact qc (hp2_.out _)))
  refine wpQuiet_nil ?_
  rintro _ ⟨g4, rfl⟩
  go_wp2_with (fail)
  refine (hra.out _).mono ?_
  rintro e5 w5 ⟨rfl, hB5⟩
  obtain ⟨g5, rfl⟩ := grow g4 hB5
  clear hB5
  go_wp2_with (fail)
  refine (ha1_.out _).mono ?_
  rintro e6 w6 ⟨rfl, hB6⟩
  obtain ⟨g6, rfl⟩ := grow g5 hB6
  clear hB6
  rename_i K hK
  refine hK _ _ ?_
  clear hK K
  refine list_quiet g6 ?_
  repeat (go_big_quiet_step (first | exact qc (hb1_.out _) | exact qc (hn1_.out _) | exact qc (hm1_.out _) | exact qc (hs1_.out _) | exact qc (hr1_.out _) | exact qc (ha2_.out _) | exact qc (hb2_.out _) | exact qc (hn2_.out _) | exact qc (hm2_.out _) | exact qc (hs2_.out _) | exact qc (hr2_.out _)))
  refine wpQuiet_nil ?_
  rintro _ ⟨g7, rfl⟩
  go_wp2_with (fail)
  refine (hd1_.out _).mono ?_
  rintro e8 w8 ⟨rfl, hB8⟩
  obtain ⟨g8, rfl⟩ := grow g7 hB8
  clear hB8
  rename_i K hK
  refine hK _ _ ?_
  clear hK K
  refine list_quiet g8 ?_
  repeat (go_big_quiet_step (exact qc (hd2_.out _)))
  refine wpQuiet_nil ?_
  rintro _ ⟨g9, rfl⟩
  go_wp2_with (fail)
  refine (hsr.out _).mono ?_
  rintro e10 w10 ⟨rfl, hB10⟩
  obtain ⟨g10, rfl⟩ := grow g9 hB10
  clear hB10
  go_wp2_with (fail)
  generalize hW2 : World.alloc g10.w _ = W2
  have hL2 : Below g10.w.heap.size g10.w W2 := by subst hW2; exact ((Below.refl _ _).alloc (by first | omega | (simp <;> omega)) _)
  have hT2 : Below w.heap.size w W2 := below_then (below_then hT1 g10.h) hL2
  obtain ⟨nb2, hnb2⟩ : ∃ nb, nb = g10.w.heap.size := ⟨_, rfl⟩
  have s0 := S0 g10
  have Y0 : w.heap.size < W2.heap.size := Nat.lt_of_lt_of_le s0 hL2.size
  have c0_0 := F0_0 g10
  have d0_0 := H0_0 g10
  have c0_1 := F0_1 g10
  have d0_1 := H0_1 g10
  have c0_2 := F0_2 g10
  have d0_2 := H0_2 g10
  have c0_3 := F0_3 g10
  have d0_3 := H0_3 g10
  have c0_4 := F0_4 g10
  have d0_4 := H0_4 g10
  have c0_5 := F0_5 g10
  have d0_5 := H0_5 g10
  clear S0 F0_0 H0_0 F0_1 H0_1 F0_2 H0_2 F0_3 H0_3 F0_4 H0_4 F0_5 H0_5
  have S0 : ∀ g : Grown W2, w.heap.size < g.w.heap.size := fun g => Nat.lt_of_lt_of_le Y0 g.h.size
  have F0_0 : ∀ g : Grown W2, g.w.cell? ⟨w.heap.size, 0, none⟩ = some (.int .i64 x0) := fun g => (g.cell Y0).trans ((Below.cell hL2 (p := ⟨w.heap.size, 0, none⟩) s0).trans c0_0)
  have H0_0 : ∀ g : Grown W2, g.w.frozen? ⟨w.heap.size, 0, none⟩ = false := fun g => (g.frozen Y0).trans ((Below.frozen hL2 (p := ⟨w.heap.size, 0, none⟩) s0).trans d0_0)
  have F0_1 : ∀ g : Grown W2, g.w.cell? ⟨w.heap.size, 1, none⟩ = some (.int .i64 x1) := fun g => (g.cell Y0).trans ((Below.cell hL2 (p := ⟨w.heap.size, 1, none⟩) s0).trans c0_1)
  have H0_1 : ∀ g : Grown W2, g.w.frozen? ⟨w.heap.size, 1, none⟩ = false := fun g => (g.frozen Y0).trans ((Below.frozen hL2 (p := ⟨w.heap.size, 1, none⟩) s0).trans d0_1)
  have F0_2 : ∀ g : Grown W2, g.w.cell? ⟨w.heap.size, 2, none⟩ = some (.int .i64 x2) := fun g => (g.cell Y0).trans ((Below.cell hL2 (p := ⟨w.heap.size, 2, none⟩) s0).trans c0_2)
  have H0_2 : ∀ g : Grown W2, g.w.frozen? ⟨w.heap.size, 2, none⟩ = false := fun g => (g.frozen Y0).trans ((Below.frozen hL2 (p := ⟨w.heap.size, 2, none⟩) s0).trans d0_2)
  have F0_3 : ∀ g : Grown W2, g.w.cell? ⟨w.heap.size, 3, none⟩ = some (.int .i64 x3) := fun g => (g.cell Y0).trans ((Below.cell hL2 (p := ⟨w.heap.size, 3, none⟩) s0).trans c0_3)
  have H0_3 : ∀ g : Grown W2, g.w.frozen? ⟨w.heap.size, 3, none⟩ = false := fun g => (g.frozen Y0).trans ((Below.frozen hL2 (p := ⟨w.heap.size, 3, none⟩) s0).trans d0_3)
  have F0_4 : ∀ g : Grown W2, g.w.cell? ⟨w.heap.size, 4, none⟩ = some (.int .i32 x4) := fun g => (g.cell Y0).trans ((Below.cell hL2 (p := ⟨w.heap.size, 4, none⟩) s0).trans c0_4)
  have H0_4 : ∀ g : Grown W2, g.w.frozen? ⟨w.heap.size, 4, none⟩ = false := fun g => (g.frozen Y0).trans ((Below.frozen hL2 (p := ⟨w.heap.size, 4, none⟩) s0).trans d0_4)
  have F0_5 : ∀ g : Grown W2, g.w.cell? ⟨w.heap.size, 5, none⟩ = some (.int .u16 x5) := fun g => (g.cell Y0).trans ((Below.cell hL2 (p := ⟨w.heap.size, 5, none⟩) s0).trans c0_5)
  have H0_5 : ∀ g : Grown W2, g.w.frozen? ⟨w.heap.size, 5, none⟩ = false := fun g => (g.frozen Y0).trans ((Below.frozen hL2 (p := ⟨w.heap.size, 5, none⟩) s0).trans d0_5)
  clear Y0 s0 c0_0 d0_0 c0_1 d0_1 c0_2 d0_2 c0_3 d0_3 c0_4 d0_4 c0_5 d0_5
  have s1 := S1 g10
  have Y1 : b1x0 < W2.heap.size := Nat.lt_of_lt_of_le s1 hL2.size
  have c1_0 := F1_0 g10
  have d1_0 := H1_0 g10
  have c1_1 := F1_1 g10
  have d1_1 := H1_1 g10
  clear S1 F1_0 H1_0 F1_1 H1_1
  have S1 : ∀ g : Grown W2, b1x0 < g.w.heap.size := fun g => Nat.lt_of_lt_of_le Y1 g.h.size
  have F1_0 : ∀ g : Grown W2, g.w.cell? ⟨b1x0, 0, none⟩ = some (.int .i64 a) := fun g => (g.cell Y1).trans ((Below.cell hL2 (p := ⟨b1x0, 0, none⟩) s1).trans c1_0)
  have H1_0 : ∀ g : Grown W2, g.w.frozen? ⟨b1x0, 0, none⟩ = false := fun g => (g.frozen Y1).trans ((Below.frozen hL2 (p := ⟨b1x0, 0, none⟩) s1).trans d1_0)
  have F1_1 : ∀ g : Grown W2, g.w.cell? ⟨b1x0, 1, none⟩ = some (.int .i64 b) := fun g => (g.cell Y1).trans ((Below.cell hL2 (p := ⟨b1x0, 1, none⟩) s1).trans c1_1)
  have H1_1 : ∀ g : Grown W2, g.w.frozen? ⟨b1x0, 1, none⟩ = false := fun g => (g.frozen Y1).trans ((Below.frozen hL2 (p := ⟨b1x0, 1, none⟩) s1).trans d1_1)
  clear Y1 s1 c1_0 d1_0 c1_1 d1_1
  have s2 := S2 g10
  have Y2 : b1x1 < W2.heap.size := Nat.lt_of_lt_of_le s2 hL2.size
  have c2_0 := F2_0 g10
  have d2_0 := H2_0 g10
  have c2_1 := F2_1 g10
  have d2_1 := H2_1 g10
  clear S2 F2_0 H2_0 F2_1 H2_1
  have S2 : ∀ g : Grown W2, b1x1 < g.w.heap.size := fun g => Nat.lt_of_lt_of_le Y2 g.h.size
  have F2_0 : ∀ g : Grown W2, g.w.cell? ⟨b1x1, 0, none⟩ = some (.int .i64 c) := fun g => (g.cell Y2).trans ((Below.cell hL2 (p := ⟨b1x1, 0, none⟩) s2).trans c2_0)
  have H2_0 : ∀ g : Grown W2, g.w.frozen? ⟨b1x1, 0, none⟩ = false := fun g => (g.frozen Y2).trans ((Below.frozen hL2 (p := ⟨b1x1, 0, none⟩) s2).trans d2_0)
  have F2_1 : ∀ g : Grown W2, g.w.cell? ⟨b1x1, 1, none⟩ = some (.int .i64 d) := fun g => (g.cell Y2).trans ((Below.cell hL2 (p := ⟨b1x1, 1, none⟩) s2).trans c2_1)
  have H2_1 : ∀ g : Grown W2, g.w.frozen? ⟨b1x1, 1, none⟩ = false := fun g => (g.frozen Y2).trans ((Below.frozen hL2 (p := ⟨b1x1, 1, none⟩) s2).trans d2_1)
  clear Y2 s2 c2_0 d2_0 c2_1 d2_1
  have Y3 : nb2 < W2.heap.size := by subst hW2; subst hnb2; simp <;> omega
  have S3 : ∀ g : Grown W2, nb2 < g.w.heap.size := fun g => Nat.lt_of_lt_of_le Y3 g.h.size
  have F3_0 : ∀ g : Grown W2, g.w.cell? ⟨nb2, 0, none⟩ = some (.int .i64 r1) := fun g => (g.cell Y3).trans (by subst hW2; subst hnb2; simp [go_sem])
  have H3_0 : ∀ g : Grown W2, g.w.frozen? ⟨nb2, 0, none⟩ = false := fun g => (g.frozen Y3).trans (by subst hW2; subst hnb2; simp [go_sem])
  have F3_1 : ∀ g : Grown W2, g.w.cell? ⟨nb2, 1, none⟩ = some (.int .i64 r2) := fun g => (g.cell Y3).trans (by subst hW2; subst hnb2; simp [go_sem])
  have H3_1 : ∀ g : Grown W2, g.w.frozen? ⟨nb2, 1, none⟩ = false := fun g => (g.frozen Y3).trans (by subst hW2; subst hnb2; simp [go_sem])
  clear Y3
  rw [← hnb2]
  clear hnb2 hW2 hT1 hL2
  obtain ⟨h2, hg2⟩ : ∃ g : Grown W2, W2 = g.w := ⟨⟨W2, Below.refl _ _⟩, rfl⟩
  rw [hg2]
  clear hg2 g10
  have hB : Below w.heap.size w h2.w := below_then hT2 h2.h
  go_ret
  refine ⟨rfl, ?_⟩
  go_grown

set_option maxRecDepth 100000 in
set_option maxHeartbeats 8000000 in
theorem inc_neg_ge (x0 x1 x2 x3 x4 x5 i k a b c d p q n m s1 s2 uu1 uu2 l1 l2 z1 z2 t1 t2 v1 v2 r1 r2 : Int) (w : World) (g1 : -2147483648 < p) (g2 : p < 2147483648) (g3 : -2147483648 < q) (g4 : q < 2147483648) (g5 : -4611686018427387904 ≤ p * q) (g6 : p * q ≤ 4611686018427387904) (g7 : -4611686018427387904 ≤ p * p) (g8 : p * p ≤ 4611686018427387904) (g9 : -4611686018427387904 ≤ p * n) (g10 : p * n ≤ 4611686018427387904) (hq : q < 0) (hp : 0 ≤ p) (q1 : r1 * r1 ≤ p * 65536) (q2 : p * 65536 ≤ r2 * r2) (q3 : 0 ≤ r1 * r1) (q4 : r2 * r2 ≤ 4611686018427387904) (u1 : ∀ w, Calls Try.prog 16 #[.agg #[.int .i64 x0, .int .i64 x1]] w fun e w' => e = .returned (.agg #[.int .i64 a, .int .i64 b]) ∧ Below w.heap.size w w') (u2 : ∀ w, Calls Try.prog 16 #[.agg #[.int .i64 x2, .int .i64 x3]] w fun e w' => e = .returned (.agg #[.int .i64 c, .int .i64 d]) ∧ Below w.heap.size w w') (e1 : ∀ w, Calls Try.prog 38 #[.agg #[.int .i64 a, .int .i64 b]] w fun e w' => e = .returned (.bool false) ∧ Below w.heap.size w w') (e2 : ∀ w, Calls Try.prog 38 #[.agg #[.int .i64 c, .int .i64 d]] w fun e w' => e = .returned (.bool false) ∧ Below w.heap.size w w') (p1_ : ∀ w, Calls Try.prog 57 #[.agg #[.int .i64 a, .int .i64 b], .int .u32 i] w fun e w' => e = .returned (.int .i64 p) ∧ Below w.heap.size w w') (p2_ : ∀ w, Calls Try.prog 57 #[.agg #[.int .i64 c, .int .i64 d], .int .u32 k] w fun e w' => e = .returned (.int .i64 q) ∧ Below w.heap.size w w') (ra : ∀ w, Calls Try.prog 17 #[.agg #[.int .i64 x0, .int .i64 x1, .int .i64 x2, .int .i64 x3, .int .i32 x4, .int .u16 x5]] w fun e w' => e = .returned (.tuple #[.int .i64 n, .int .i64 m]) ∧ Below w.heap.size w w') (a1_ : ∀ w, Calls Try.prog 45 #[.agg #[.int .i64 a, .int .i64 b], .agg #[.int .i64 c, .int .i64 d]] w fun e w' => e = .returned (.agg #[.int .i64 s1, .int .i64 s2]) ∧ Below w.heap.size w w') (a2_ : ∀ w, Calls Try.prog 58 #[.agg #[.int .i64 s1, .int .i64 s2], .int .i64 (p + q), .int .i64 1] w fun e w' => e = .returned (.bool true) ∧ Below w.heap.size w w') (b1_ : ∀ w, Calls Try.prog 47 #[.agg #[.int .i64 a, .int .i64 b], .agg #[.int .i64 c, .int .i64 d]] w fun e w' => e = .returned (.agg #[.int .i64 uu1, .int .i64 uu2]) ∧ Below w.heap.size w w') (b2_ : ∀ w, Calls Try.prog 58 #[.agg #[.int .i64 uu1, .int .i64 uu2], .int .i64 (p - q), .int .i64 1] w fun e w' => e = .returned (.bool true) ∧ Below w.heap.size w w') (n1_ : ∀ w, Calls Try.prog 49 #[.agg #[.int .i64 a, .int .i64 b]] w fun e w' => e = .returned (.agg #[.int .i64 (-b), .int .i64 (-a)]) ∧ Below w.heap.size w w') (n2_ : ∀ w, Calls Try.prog 58 #[.agg #[.int .i64 (-b), .int .i64 (-a)], .int .i64 (-p), .int .i64 1] w fun e w' => e = .returned (.bool true) ∧ Below w.heap.size w w') (m1_ : ∀ w, Calls Try.prog 51 #[.agg #[.int .i64 a, .int .i64 b], .agg #[.int .i64 c, .int .i64 d]] w fun e w' => e = .returned (.agg #[.int .i64 l1, .int .i64 l2]) ∧ Below w.heap.size w w') (m2_ : ∀ w, Calls Try.prog 58 #[.agg #[.int .i64 l1, .int .i64 l2], .int .i64 (p * q), .int .i64 65536] w fun e w' => e = .returned (.bool true) ∧ Below w.heap.size w w') (s1_ : ∀ w, Calls Try.prog 53 #[.agg #[.int .i64 a, .int .i64 b]] w fun e w' => e = .returned (.agg #[.int .i64 z1, .int .i64 z2]) ∧ Below w.heap.size w w') (s2_ : ∀ w, Calls Try.prog 58 #[.agg #[.int .i64 z1, .int .i64 z2], .int .i64 (p * p), .int .i64 65536] w fun e w' => e = .returned (.bool true) ∧ Below w.heap.size w w') (r1_ : ∀ w, Calls Try.prog 23 #[.agg #[.int .i64 a, .int .i64 b], .int .i64 n, .int .i64 m] w fun e w' => e = .returned (.agg #[.int .i64 t1, .int .i64 t2]) ∧ Below w.heap.size w w') (r2_ : ∀ w, Calls Try.prog 58 #[.agg #[.int .i64 t1, .int .i64 t2], .int .i64 (p * n), .int .i64 m] w fun e w' => e = .returned (.bool true) ∧ Below w.heap.size w w') (d1_ : ∀ w, Calls Try.prog 55 #[.agg #[.int .i64 a, .int .i64 b], .agg #[.int .i64 c, .int .i64 d]] w fun e w' => e = .returned (.agg #[.int .i64 v1, .int .i64 v2]) ∧ Below w.heap.size w w') (d2_ : ∀ w, Calls Try.prog 58 #[.agg #[.int .i64 v1, .int .i64 v2], .int .i64 (-p * 65536), .int .i64 (-q)] w fun e w' => e = .returned (.bool true) ∧ Below w.heap.size w w') (sr : ∀ w, Calls Try.prog 18 #[.agg #[.int .i64 a, .int .i64 b]] w fun e w' => e = .returned (.tuple #[.agg #[.int .i64 r1, .int .i64 r2], .bool true]) ∧ Below w.heap.size w w') :
    Calls Try.prog 4 #[.agg #[.int .i64 x0, .int .i64 x1, .int .i64 x2, .int .i64 x3, .int .i32 x4, .int .u16 x5], .int .u32 i, .int .u32 k] w fun e w' => e = .returned (.bool true) ∧ Below w.heap.size w w' := by
  have hu1 := Lib.hid u1
  clear u1
  have hu2 := Lib.hid u2
  clear u2
  have he1 := Lib.hid e1
  clear e1
  have he2 := Lib.hid e2
  clear e2
  have hp1_ := Lib.hid p1_
  clear p1_
  have hp2_ := Lib.hid p2_
  clear p2_
  have hra := Lib.hid ra
  clear ra
  have ha1_ := Lib.hid a1_
  clear a1_
  have ha2_ := Lib.hid a2_
  clear a2_
  have hb1_ := Lib.hid b1_
  clear b1_
  have hb2_ := Lib.hid b2_
  clear b2_
  have hn1_ := Lib.hid n1_
  clear n1_
  have hn2_ := Lib.hid n2_
  clear n2_
  have hm1_ := Lib.hid m1_
  clear m1_
  have hm2_ := Lib.hid m2_
  clear m2_
  have hs1_ := Lib.hid s1_
  clear s1_
  have hs2_ := Lib.hid s2_
  clear s2_
  have hr1_ := Lib.hid r1_
  clear r1_
  have hr2_ := Lib.hid r2_
  clear r2_
  have hd1_ := Lib.hid d1_
  clear d1_
  have hd2_ := Lib.hid d2_
  clear d2_
  have hsr := Lib.hid sr
  clear sr
  have hq' : decide (0 < q) = false := decide_eq_false (by omega)
  have hp' : decide (p < 0) = false := decide_eq_false (by omega)
  go_enter Try.func4, Try.ntmps4
  go_wp2_with (fail)
  generalize hW0 : World.alloc w _ = W0
  have hT0 : Below w.heap.size w W0 := by subst hW0; exact ((Below.refl w.heap.size w).alloc (by go_size) _)
  have Y0 : w.heap.size < W0.heap.size := by subst hW0; simp <;> omega
  have S0 : ∀ g : Grown W0, w.heap.size < g.w.heap.size := fun g => Nat.lt_of_lt_of_le Y0 g.h.size
  have F0_0 : ∀ g : Grown W0, g.w.cell? ⟨w.heap.size, 0, none⟩ = some (.int .i64 x0) := fun g => (g.cell Y0).trans (by subst hW0; simp [go_sem])
  have H0_0 : ∀ g : Grown W0, g.w.frozen? ⟨w.heap.size, 0, none⟩ = false := fun g => (g.frozen Y0).trans (by subst hW0; simp [go_sem])
  have F0_1 : ∀ g : Grown W0, g.w.cell? ⟨w.heap.size, 1, none⟩ = some (.int .i64 x1) := fun g => (g.cell Y0).trans (by subst hW0; simp [go_sem])
  have H0_1 : ∀ g : Grown W0, g.w.frozen? ⟨w.heap.size, 1, none⟩ = false := fun g => (g.frozen Y0).trans (by subst hW0; simp [go_sem])
  have F0_2 : ∀ g : Grown W0, g.w.cell? ⟨w.heap.size, 2, none⟩ = some (.int .i64 x2) := fun g => (g.cell Y0).trans (by subst hW0; simp [go_sem])
  have H0_2 : ∀ g : Grown W0, g.w.frozen? ⟨w.heap.size, 2, none⟩ = false := fun g => (g.frozen Y0).trans (by subst hW0; simp [go_sem])
  have F0_3 : ∀ g : Grown W0, g.w.cell? ⟨w.heap.size, 3, none⟩ = some (.int .i64 x3) := fun g => (g.cell Y0).trans (by subst hW0; simp [go_sem])
  have H0_3 : ∀ g : Grown W0, g.w.frozen? ⟨w.heap.size, 3, none⟩ = false := fun g => (g.frozen Y0).trans (by subst hW0; simp [go_sem])
  have F0_4 : ∀ g : Grown W0, g.w.cell? ⟨w.heap.size, 4, none⟩ = some (.int .i32 x4) := fun g => (g.cell Y0).trans (by subst hW0; simp [go_sem])
  have H0_4 : ∀ g : Grown W0, g.w.frozen? ⟨w.heap.size, 4, none⟩ = false := fun g => (g.frozen Y0).trans (by subst hW0; simp [go_sem])
  have F0_5 : ∀ g : Grown W0, g.w.cell? ⟨w.heap.size, 5, none⟩ = some (.int .u16 x5) := fun g => (g.cell Y0).trans (by subst hW0; simp [go_sem])
  have H0_5 : ∀ g : Grown W0, g.w.frozen? ⟨w.heap.size, 5, none⟩ = false := fun g => (g.frozen Y0).trans (by subst hW0; simp [go_sem])
  clear Y0
  clear hW0
  obtain ⟨g0, hg0⟩ : ∃ g : Grown W0, W0 = g.w := ⟨⟨W0, Below.refl _ _⟩, rfl⟩
  rw [hg0]
  clear hg0
  refine (sanity2 _).mono ?_
  rintro e1 w1 ⟨rfl, hB1⟩
  obtain ⟨g1, rfl⟩ := grow g0 hB1
  clear hB1
  go_wp2_with (fail)
  refine region_data 8 23 _ (by kernel_rfl) new_iv (by kernel_rfl) ?_
  refine data_op (.pointer (some ⟨w.heap.size, 0, none⟩)) rfl (RQ_pure (fun w => by simp [go_sem])) ?_
  simp only [Act.put, List.setIfInBounds_toArray, List.set_cons_succ, List.set_cons_zero]
  refine data_op _ rfl (RQ_load rfl rfl (load_iv_at (S0 _) (F0_0 _) (F0_1 _))) ?_
  simp only [Act.put, List.setIfInBounds_toArray, List.set_cons_succ, List.set_cons_zero]
  refine data_op _ rfl (RQ_call hu1.out (fun _ => by simp [go_sem])) ?_
  simp only [Act.put, List.setIfInBounds_toArray, List.set_cons_succ, List.set_cons_zero]
  refine data_op (.pointer (some ⟨w.heap.size, 2, none⟩)) rfl (RQ_pure (fun w => by simp [go_sem])) ?_
  simp only [Act.put, List.setIfInBounds_toArray, List.set_cons_succ, List.set_cons_zero]
  refine data_op _ rfl (RQ_load rfl rfl (load_iv_at (S0 _) (F0_2 _) (F0_3 _))) ?_
  simp only [Act.put, List.setIfInBounds_toArray, List.set_cons_succ, List.set_cons_zero]
  refine data_op _ rfl (RQ_call hu2.out (fun _ => by simp [go_sem])) ?_
  simp only [Act.put, List.setIfInBounds_toArray, List.set_cons_succ, List.set_cons_zero]
  refine data_al rfl ?_
  simp only [Act.put, List.setIfInBounds_toArray, List.set_cons_succ, List.set_cons_zero]
  refine data_al rfl ?_
  simp only [Act.put, List.setIfInBounds_toArray, List.set_cons_succ, List.set_cons_zero]
  refine data_end ?_
  intro wh hBh
  simp only [Act.put, List.drop_succ_cons, List.drop_zero, List.take_succ_cons, List.take_zero, alDsts, List.filterMap_cons, List.filterMap_nil, isAl, Bool.false_eq_true, if_false, if_true, finK]
  intro b1x0 p0 q0 r0 o0
  intro b1x1 p1 q1 r1 o1
  obtain ⟨u00, u01, v00, v01⟩ := new_cell o0
  obtain ⟨u10, u11, v10, v11⟩ := new_cell o1
  have n01 : b1x0 ≠ b1x1 := r1 b1x0 (by simp)
  clear r0 o0 r1 o1
  simp only [List.setIfInBounds_toArray, List.set_cons_succ, List.set_cons_zero]
  refine list_store rfl rfl rfl rfl rfl (by exact u00) (by exact u01) (by exact v00) (by exact v01) ?_
  refine list_store rfl rfl rfl rfl rfl (by rw [st2_old (Ne.symm n01)]; exact u10) (by rw [st2_old (Ne.symm n01)]; exact u11) (by simp only [st2_frozen]; exact v10) (by simp only [st2_frozen]; exact v11) ?_
  refine wpList_nil ?_
  generalize e1 : (st2 (st2 wh b1x0 (.int .i64 a) (.int .i64 b)) b1x1 (.int .i64 c) (.int .i64 d)) = W1
  have hL1 : Below g1.w.heap.size g1.w W1 := by rw [← e1]; exact (st2_below (st2_below hBh p0) p1)
  have hT1 : Below w.heap.size w W1 := below_then (below_then hT0 g1.h) hL1
  have s0 := S0 g1
  have Y0 : w.heap.size < W1.heap.size := Nat.lt_of_lt_of_le s0 hL1.size
  have c0_0 := F0_0 g1
  have d0_0 := H0_0 g1
  have c0_1 := F0_1 g1
  have d0_1 := H0_1 g1
  have c0_2 := F0_2 g1
  have d0_2 := H0_2 g1
  have c0_3 := F0_3 g1
  have d0_3 := H0_3 g1
  have c0_4 := F0_4 g1
  have d0_4 := H0_4 g1
  have c0_5 := F0_5 g1
  have d0_5 := H0_5 g1
  clear S0 F0_0 H0_0 F0_1 H0_1 F0_2 H0_2 F0_3 H0_3 F0_4 H0_4 F0_5 H0_5
  have S0 : ∀ g : Grown W1, w.heap.size < g.w.heap.size := fun g => Nat.lt_of_lt_of_le Y0 g.h.size
  have F0_0 : ∀ g : Grown W1, g.w.cell? ⟨w.heap.size, 0, none⟩ = some (.int .i64 x0) := fun g => (g.cell Y0).trans ((Below.cell hL1 (p := ⟨w.heap.size, 0, none⟩) s0).trans c0_0)
  have H0_0 : ∀ g : Grown W1, g.w.frozen? ⟨w.heap.size, 0, none⟩ = false := fun g => (g.frozen Y0).trans ((Below.frozen hL1 (p := ⟨w.heap.size, 0, none⟩) s0).trans d0_0)
  have F0_1 : ∀ g : Grown W1, g.w.cell? ⟨w.heap.size, 1, none⟩ = some (.int .i64 x1) := fun g => (g.cell Y0).trans ((Below.cell hL1 (p := ⟨w.heap.size, 1, none⟩) s0).trans c0_1)
  have H0_1 : ∀ g : Grown W1, g.w.frozen? ⟨w.heap.size, 1, none⟩ = false := fun g => (g.frozen Y0).trans ((Below.frozen hL1 (p := ⟨w.heap.size, 1, none⟩) s0).trans d0_1)
  have F0_2 : ∀ g : Grown W1, g.w.cell? ⟨w.heap.size, 2, none⟩ = some (.int .i64 x2) := fun g => (g.cell Y0).trans ((Below.cell hL1 (p := ⟨w.heap.size, 2, none⟩) s0).trans c0_2)
  have H0_2 : ∀ g : Grown W1, g.w.frozen? ⟨w.heap.size, 2, none⟩ = false := fun g => (g.frozen Y0).trans ((Below.frozen hL1 (p := ⟨w.heap.size, 2, none⟩) s0).trans d0_2)
  have F0_3 : ∀ g : Grown W1, g.w.cell? ⟨w.heap.size, 3, none⟩ = some (.int .i64 x3) := fun g => (g.cell Y0).trans ((Below.cell hL1 (p := ⟨w.heap.size, 3, none⟩) s0).trans c0_3)
  have H0_3 : ∀ g : Grown W1, g.w.frozen? ⟨w.heap.size, 3, none⟩ = false := fun g => (g.frozen Y0).trans ((Below.frozen hL1 (p := ⟨w.heap.size, 3, none⟩) s0).trans d0_3)
  have F0_4 : ∀ g : Grown W1, g.w.cell? ⟨w.heap.size, 4, none⟩ = some (.int .i32 x4) := fun g => (g.cell Y0).trans ((Below.cell hL1 (p := ⟨w.heap.size, 4, none⟩) s0).trans c0_4)
  have H0_4 : ∀ g : Grown W1, g.w.frozen? ⟨w.heap.size, 4, none⟩ = false := fun g => (g.frozen Y0).trans ((Below.frozen hL1 (p := ⟨w.heap.size, 4, none⟩) s0).trans d0_4)
  have F0_5 : ∀ g : Grown W1, g.w.cell? ⟨w.heap.size, 5, none⟩ = some (.int .u16 x5) := fun g => (g.cell Y0).trans ((Below.cell hL1 (p := ⟨w.heap.size, 5, none⟩) s0).trans c0_5)
  have H0_5 : ∀ g : Grown W1, g.w.frozen? ⟨w.heap.size, 5, none⟩ = false := fun g => (g.frozen Y0).trans ((Below.frozen hL1 (p := ⟨w.heap.size, 5, none⟩) s0).trans d0_5)
  clear Y0 s0 c0_0 d0_0 c0_1 d0_1 c0_2 d0_2 c0_3 d0_3 c0_4 d0_4 c0_5 d0_5
  have Y1 : b1x0 < W1.heap.size := by rw [← e1]; simp only [st2_size]; exact q0
  have S1 : ∀ g : Grown W1, b1x0 < g.w.heap.size := fun g => Nat.lt_of_lt_of_le Y1 g.h.size
  have F1_0 : ∀ g : Grown W1, g.w.cell? ⟨b1x0, 0, none⟩ = some (.int .i64 a) := fun g => (g.cell Y1).trans (by rw [← e1]; rw [st2_old n01]; exact st2_0 (u := .int .i64 0) (by exact u00))
  have H1_0 : ∀ g : Grown W1, g.w.frozen? ⟨b1x0, 0, none⟩ = false := fun g => (g.frozen Y1).trans (by rw [← e1]; simp only [st2_frozen]; exact v00)
  have F1_1 : ∀ g : Grown W1, g.w.cell? ⟨b1x0, 1, none⟩ = some (.int .i64 b) := fun g => (g.cell Y1).trans (by rw [← e1]; rw [st2_old n01]; exact st2_1 (u := .int .i64 0) (by exact u01))
  have H1_1 : ∀ g : Grown W1, g.w.frozen? ⟨b1x0, 1, none⟩ = false := fun g => (g.frozen Y1).trans (by rw [← e1]; simp only [st2_frozen]; exact v01)
  clear Y1
  have Y2 : b1x1 < W1.heap.size := by rw [← e1]; simp only [st2_size]; exact q1
  have S2 : ∀ g : Grown W1, b1x1 < g.w.heap.size := fun g => Nat.lt_of_lt_of_le Y2 g.h.size
  have F2_0 : ∀ g : Grown W1, g.w.cell? ⟨b1x1, 0, none⟩ = some (.int .i64 c) := fun g => (g.cell Y2).trans (by rw [← e1]; exact st2_0 (u := .int .i64 0) (by rw [st2_old (Ne.symm n01)]; exact u10))
  have H2_0 : ∀ g : Grown W1, g.w.frozen? ⟨b1x1, 0, none⟩ = false := fun g => (g.frozen Y2).trans (by rw [← e1]; simp only [st2_frozen]; exact v10)
  have F2_1 : ∀ g : Grown W1, g.w.cell? ⟨b1x1, 1, none⟩ = some (.int .i64 d) := fun g => (g.cell Y2).trans (by rw [← e1]; exact st2_1 (u := .int .i64 0) (by rw [st2_old (Ne.symm n01)]; exact u11))
  have H2_1 : ∀ g : Grown W1, g.w.frozen? ⟨b1x1, 1, none⟩ = false := fun g => (g.frozen Y2).trans (by rw [← e1]; simp only [st2_frozen]; exact v11)
  clear Y2
  clear e1 hL1 hT0 hBh u00 u01 v00 v01 p0 q0 u10 u11 v10 v11 p1 q1 n01
  obtain ⟨h1, hg1⟩ : ∃ g : Grown W1, W1 = g.w := ⟨⟨W1, Below.refl _ _⟩, rfl⟩
  rw [hg1]
  clear hg1 g1
  go_wp2_with (fail)
  refine (he1.out _).mono ?_
  rintro e2 w2 ⟨rfl, hB2⟩
  obtain ⟨g2, rfl⟩ := grow h1 hB2
  clear hB2
  go_wp2_with (fail)
  refine (he2.out _).mono ?_
  rintro e3 w3 ⟨rfl, hB3⟩
  obtain ⟨g3, rfl⟩ := grow g2 hB3
  clear hB3
  go_wp2_with (fail)
  refine region_quiet' g3 (by kernel_rfl) (by kernel_rfl) ?_
  repeat (go_big_quiet_step (first | exact qc (hp1_.out _) | exact qc (hp2_.out _)))
  refine wpQuiet_nil ?_
  rintro _ ⟨g4, rfl⟩
  go_wp2_with (fail)
  refine (hra.out _).mono ?_
  rintro e5 w5 ⟨rfl, hB5⟩
  obtain ⟨g5, rfl⟩ := grow g4 hB5
  clear hB5
  go_wp2_with (fail)
  refine (ha1_.out _).mono ?_
  rintro e6 w6 ⟨rfl, hB6⟩
  obtain ⟨g6, rfl⟩ := grow g5 hB6
  clear hB6
  rename_i K hK
  refine hK _ _ ?_
  clear hK K
  refine list_quiet g6 ?_
  repeat (go_big_quiet_step (first | exact qc (hb1_.out _) | exact qc (hn1_.out _) | exact qc (hm1_.out _) | exact qc (hs1_.out _) | exact qc (hr1_.out _) | exact qc (ha2_.out _) | exact qc (hb2_.out _) | exact qc (hn2_.out _) | exact qc (hm2_.out _) | exact qc (hs2_.out _) | exact qc (hr2_.out _)))
  refine wpQuiet_nil ?_
  rintro _ ⟨g7, rfl⟩
  go_wp2_with (fail)
  refine (hd1_.out _).mono ?_
  rintro e8 w8 ⟨rfl, hB8⟩
  obtain ⟨g8, rfl⟩ := grow g7 hB8
  clear hB8
  rename_i K hK
  refine hK _ _ ?_
  clear hK K
  refine list_quiet g8 ?_
  repeat (go_big_quiet_step (exact qc (hd2_.out _)))
  refine wpQuiet_nil ?_
  rintro _ ⟨g9, rfl⟩
  go_wp2_with (fail)
  refine (hsr.out _).mono ?_
  rintro e10 w10 ⟨rfl, hB10⟩
  obtain ⟨g10, rfl⟩ := grow g9 hB10
  clear hB10
  go_wp2_with (fail)
  generalize hW2 : World.alloc g10.w _ = W2
  have hL2 : Below g10.w.heap.size g10.w W2 := by subst hW2; exact ((Below.refl _ _).alloc (by first | omega | (simp <;> omega)) _)
  have hT2 : Below w.heap.size w W2 := below_then (below_then hT1 g10.h) hL2
  obtain ⟨nb2, hnb2⟩ : ∃ nb, nb = g10.w.heap.size := ⟨_, rfl⟩
  have s0 := S0 g10
  have Y0 : w.heap.size < W2.heap.size := Nat.lt_of_lt_of_le s0 hL2.size
  have c0_0 := F0_0 g10
  have d0_0 := H0_0 g10
  have c0_1 := F0_1 g10
  have d0_1 := H0_1 g10
  have c0_2 := F0_2 g10
  have d0_2 := H0_2 g10
  have c0_3 := F0_3 g10
  have d0_3 := H0_3 g10
  have c0_4 := F0_4 g10
  have d0_4 := H0_4 g10
  have c0_5 := F0_5 g10
  have d0_5 := H0_5 g10
  clear S0 F0_0 H0_0 F0_1 H0_1 F0_2 H0_2 F0_3 H0_3 F0_4 H0_4 F0_5 H0_5
  have S0 : ∀ g : Grown W2, w.heap.size < g.w.heap.size := fun g => Nat.lt_of_lt_of_le Y0 g.h.size
  have F0_0 : ∀ g : Grown W2, g.w.cell? ⟨w.heap.size, 0, none⟩ = some (.int .i64 x0) := fun g => (g.cell Y0).trans ((Below.cell hL2 (p := ⟨w.heap.size, 0, none⟩) s0).trans c0_0)
  have H0_0 : ∀ g : Grown W2, g.w.frozen? ⟨w.heap.size, 0, none⟩ = false := fun g => (g.frozen Y0).trans ((Below.frozen hL2 (p := ⟨w.heap.size, 0, none⟩) s0).trans d0_0)
  have F0_1 : ∀ g : Grown W2, g.w.cell? ⟨w.heap.size, 1, none⟩ = some (.int .i64 x1) := fun g => (g.cell Y0).trans ((Below.cell hL2 (p := ⟨w.heap.size, 1, none⟩) s0).trans c0_1)
  have H0_1 : ∀ g : Grown W2, g.w.frozen? ⟨w.heap.size, 1, none⟩ = false := fun g => (g.frozen Y0).trans ((Below.frozen hL2 (p := ⟨w.heap.size, 1, none⟩) s0).trans d0_1)
  have F0_2 : ∀ g : Grown W2, g.w.cell? ⟨w.heap.size, 2, none⟩ = some (.int .i64 x2) := fun g => (g.cell Y0).trans ((Below.cell hL2 (p := ⟨w.heap.size, 2, none⟩) s0).trans c0_2)
  have H0_2 : ∀ g : Grown W2, g.w.frozen? ⟨w.heap.size, 2, none⟩ = false := fun g => (g.frozen Y0).trans ((Below.frozen hL2 (p := ⟨w.heap.size, 2, none⟩) s0).trans d0_2)
  have F0_3 : ∀ g : Grown W2, g.w.cell? ⟨w.heap.size, 3, none⟩ = some (.int .i64 x3) := fun g => (g.cell Y0).trans ((Below.cell hL2 (p := ⟨w.heap.size, 3, none⟩) s0).trans c0_3)
  have H0_3 : ∀ g : Grown W2, g.w.frozen? ⟨w.heap.size, 3, none⟩ = false := fun g => (g.frozen Y0).trans ((Below.frozen hL2 (p := ⟨w.heap.size, 3, none⟩) s0).trans d0_3)
  have F0_4 : ∀ g : Grown W2, g.w.cell? ⟨w.heap.size, 4, none⟩ = some (.int .i32 x4) := fun g => (g.cell Y0).trans ((Below.cell hL2 (p := ⟨w.heap.size, 4, none⟩) s0).trans c0_4)
  have H0_4 : ∀ g : Grown W2, g.w.frozen? ⟨w.heap.size, 4, none⟩ = false := fun g => (g.frozen Y0).trans ((Below.frozen hL2 (p := ⟨w.heap.size, 4, none⟩) s0).trans d0_4)
  have F0_5 : ∀ g : Grown W2, g.w.cell? ⟨w.heap.size, 5, none⟩ = some (.int .u16 x5) := fun g => (g.cell Y0).trans ((Below.cell hL2 (p := ⟨w.heap.size, 5, none⟩) s0).trans c0_5)
  have H0_5 : ∀ g : Grown W2, g.w.frozen? ⟨w.heap.size, 5, none⟩ = false := fun g => (g.frozen Y0).trans ((Below.frozen hL2 (p := ⟨w.heap.size, 5, none⟩) s0).trans d0_5)
  clear Y0 s0 c0_0 d0_0 c0_1 d0_1 c0_2 d0_2 c0_3 d0_3 c0_4 d0_4 c0_5 d0_5
  have s1 := S1 g10
  have Y1 : b1x0 < W2.heap.size := Nat.lt_of_lt_of_le s1 hL2.size
  have c1_0 := F1_0 g10
  have d1_0 := H1_0 g10
  have c1_1 := F1_1 g10
  have d1_1 := H1_1 g10
  clear S1 F1_0 H1_0 F1_1 H1_1
  have S1 : ∀ g : Grown W2, b1x0 < g.w.heap.size := fun g => Nat.lt_of_lt_of_le Y1 g.h.size
  have F1_0 : ∀ g : Grown W2, g.w.cell? ⟨b1x0, 0, none⟩ = some (.int .i64 a) := fun g => (g.cell Y1).trans ((Below.cell hL2 (p := ⟨b1x0, 0, none⟩) s1).trans c1_0)
  have H1_0 : ∀ g : Grown W2, g.w.frozen? ⟨b1x0, 0, none⟩ = false := fun g => (g.frozen Y1).trans ((Below.frozen hL2 (p := ⟨b1x0, 0, none⟩) s1).trans d1_0)
  have F1_1 : ∀ g : Grown W2, g.w.cell? ⟨b1x0, 1, none⟩ = some (.int .i64 b) := fun g => (g.cell Y1).trans ((Below.cell hL2 (p := ⟨b1x0, 1, none⟩) s1).trans c1_1)
  have H1_1 : ∀ g : Grown W2, g.w.frozen? ⟨b1x0, 1, none⟩ = false := fun g => (g.frozen Y1).trans ((Below.frozen hL2 (p := ⟨b1x0, 1, none⟩) s1).trans d1_1)
  clear Y1 s1 c1_0 d1_0 c1_1 d1_1
  have s2 := S2 g10
  have Y2 : b1x1 < W2.heap.size := Nat.lt_of_lt_of_le s2 hL2.size
  have c2_0 := F2_0 g10
  have d2_0 := H2_0 g10
  have c2_1 := F2_1 g10
  have d2_1 := H2_1 g10
  clear S2 F2_0 H2_0 F2_1 H2_1
  have S2 : ∀ g : Grown W2, b1x1 < g.w.heap.size := fun g => Nat.lt_of_lt_of_le Y2 g.h.size
  have F2_0 : ∀ g : Grown W2, g.w.cell? ⟨b1x1, 0, none⟩ = some (.int .i64 c) := fun g => (g.cell Y2).trans ((Below.cell hL2 (p := ⟨b1x1, 0, none⟩) s2).trans c2_0)
  have H2_0 : ∀ g : Grown W2, g.w.frozen? ⟨b1x1, 0, none⟩ = false := fun g => (g.frozen Y2).trans ((Below.frozen hL2 (p := ⟨b1x1, 0, none⟩) s2).trans d2_0)
  have F2_1 : ∀ g : Grown W2, g.w.cell? ⟨b1x1, 1, none⟩ = some (.int .i64 d) := fun g => (g.cell Y2).trans ((Below.cell hL2 (p := ⟨b1x1, 1, none⟩) s2).trans c2_1)
  have H2_1 : ∀ g : Grown W2, g.w.frozen? ⟨b1x1, 1, none⟩ = false := fun g => (g.frozen Y2).trans ((Below.frozen hL2 (p := ⟨b1x1, 1, none⟩) s2).trans d2_1)
  clear Y2 s2 c2_0 d2_0 c2_1 d2_1
  have Y3 : nb2 < W2.heap.size := by subst hW2; subst hnb2; simp <;> omega
  have S3 : ∀ g : Grown W2, nb2 < g.w.heap.size := fun g => Nat.lt_of_lt_of_le Y3 g.h.size
  have F3_0 : ∀ g : Grown W2, g.w.cell? ⟨nb2, 0, none⟩ = some (.int .i64 r1) := fun g => (g.cell Y3).trans (by subst hW2; subst hnb2; simp [go_sem])
  have H3_0 : ∀ g : Grown W2, g.w.frozen? ⟨nb2, 0, none⟩ = false := fun g => (g.frozen Y3).trans (by subst hW2; subst hnb2; simp [go_sem])
  have F3_1 : ∀ g : Grown W2, g.w.cell? ⟨nb2, 1, none⟩ = some (.int .i64 r2) := fun g => (g.cell Y3).trans (by subst hW2; subst hnb2; simp [go_sem])
  have H3_1 : ∀ g : Grown W2, g.w.frozen? ⟨nb2, 1, none⟩ = false := fun g => (g.frozen Y3).trans (by subst hW2; subst hnb2; simp [go_sem])
  clear Y3
  rw [← hnb2]
  clear hnb2 hW2 hT1 hL2
  obtain ⟨h2, hg2⟩ : ∃ g : Grown W2, W2 = g.w := ⟨⟨W2, Below.refl _ _⟩, rfl⟩
  rw [hg2]
  clear hg2 g10
  have hB : Below w.heap.size w h2.w := below_then hT2 h2.h
  go_ret
  refine ⟨rfl, ?_⟩
  go_grown

set_option maxRecDepth 100000 in
set_option maxHeartbeats 8000000 in
theorem inc_zero_lt (x0 x1 x2 x3 x4 x5 i k a b c d p n m s1 s2 uu1 uu2 l1 l2 z1 z2 t1 t2 v1 v2 r1 r2 : Int) (w : World) (g1 : -2147483648 < p) (g2 : p < 2147483648) (g7 : -4611686018427387904 ≤ p * p) (g8 : p * p ≤ 4611686018427387904) (g9 : -4611686018427387904 ≤ p * n) (g10 : p * n ≤ 4611686018427387904)  (hp : p < 0) (is : Bool) (u1 : ∀ w, Calls Try.prog 16 #[.agg #[.int .i64 x0, .int .i64 x1]] w fun e w' => e = .returned (.agg #[.int .i64 a, .int .i64 b]) ∧ Below w.heap.size w w') (u2 : ∀ w, Calls Try.prog 16 #[.agg #[.int .i64 x2, .int .i64 x3]] w fun e w' => e = .returned (.agg #[.int .i64 c, .int .i64 d]) ∧ Below w.heap.size w w') (e1 : ∀ w, Calls Try.prog 38 #[.agg #[.int .i64 a, .int .i64 b]] w fun e w' => e = .returned (.bool false) ∧ Below w.heap.size w w') (e2 : ∀ w, Calls Try.prog 38 #[.agg #[.int .i64 c, .int .i64 d]] w fun e w' => e = .returned (.bool false) ∧ Below w.heap.size w w') (p1_ : ∀ w, Calls Try.prog 57 #[.agg #[.int .i64 a, .int .i64 b], .int .u32 i] w fun e w' => e = .returned (.int .i64 p) ∧ Below w.heap.size w w') (p2_ : ∀ w, Calls Try.prog 57 #[.agg #[.int .i64 c, .int .i64 d], .int .u32 k] w fun e w' => e = .returned (.int .i64 0) ∧ Below w.heap.size w w') (ra : ∀ w, Calls Try.prog 17 #[.agg #[.int .i64 x0, .int .i64 x1, .int .i64 x2, .int .i64 x3, .int .i32 x4, .int .u16 x5]] w fun e w' => e = .returned (.tuple #[.int .i64 n, .int .i64 m]) ∧ Below w.heap.size w w') (a1_ : ∀ w, Calls Try.prog 45 #[.agg #[.int .i64 a, .int .i64 b], .agg #[.int .i64 c, .int .i64 d]] w fun e w' => e = .returned (.agg #[.int .i64 s1, .int .i64 s2]) ∧ Below w.heap.size w w') (a2_ : ∀ w, Calls Try.prog 58 #[.agg #[.int .i64 s1, .int .i64 s2], .int .i64 p, .int .i64 1] w fun e w' => e = .returned (.bool true) ∧ Below w.heap.size w w') (b1_ : ∀ w, Calls Try.prog 47 #[.agg #[.int .i64 a, .int .i64 b], .agg #[.int .i64 c, .int .i64 d]] w fun e w' => e = .returned (.agg #[.int .i64 uu1, .int .i64 uu2]) ∧ Below w.heap.size w w') (b2_ : ∀ w, Calls Try.prog 58 #[.agg #[.int .i64 uu1, .int .i64 uu2], .int .i64 p, .int .i64 1] w fun e w' => e = .returned (.bool true) ∧ Below w.heap.size w w') (n1_ : ∀ w, Calls Try.prog 49 #[.agg #[.int .i64 a, .int .i64 b]] w fun e w' => e = .returned (.agg #[.int .i64 (-b), .int .i64 (-a)]) ∧ Below w.heap.size w w') (n2_ : ∀ w, Calls Try.prog 58 #[.agg #[.int .i64 (-b), .int .i64 (-a)], .int .i64 (-p), .int .i64 1] w fun e w' => e = .returned (.bool true) ∧ Below w.heap.size w w') (m1_ : ∀ w, Calls Try.prog 51 #[.agg #[.int .i64 a, .int .i64 b], .agg #[.int .i64 c, .int .i64 d]] w fun e w' => e = .returned (.agg #[.int .i64 l1, .int .i64 l2]) ∧ Below w.heap.size w w') (m2_ : ∀ w, Calls Try.prog 58 #[.agg #[.int .i64 l1, .int .i64 l2], .int .i64 0, .int .i64 65536] w fun e w' => e = .returned (.bool true) ∧ Below w.heap.size w w') (s1_ : ∀ w, Calls Try.prog 53 #[.agg #[.int .i64 a, .int .i64 b]] w fun e w' => e = .returned (.agg #[.int .i64 z1, .int .i64 z2]) ∧ Below w.heap.size w w') (s2_ : ∀ w, Calls Try.prog 58 #[.agg #[.int .i64 z1, .int .i64 z2], .int .i64 (p * p), .int .i64 65536] w fun e w' => e = .returned (.bool true) ∧ Below w.heap.size w w') (r1_ : ∀ w, Calls Try.prog 23 #[.agg #[.int .i64 a, .int .i64 b], .int .i64 n, .int .i64 m] w fun e w' => e = .returned (.agg #[.int .i64 t1, .int .i64 t2]) ∧ Below w.heap.size w w') (r2_ : ∀ w, Calls Try.prog 58 #[.agg #[.int .i64 t1, .int .i64 t2], .int .i64 (p * n), .int .i64 m] w fun e w' => e = .returned (.bool true) ∧ Below w.heap.size w w') (sr : ∀ w, Calls Try.prog 18 #[.agg #[.int .i64 a, .int .i64 b]] w fun e w' => e = .returned (.tuple #[.agg #[.int .i64 r1, .int .i64 r2], .bool is]) ∧ Below w.heap.size w w') :
    Calls Try.prog 4 #[.agg #[.int .i64 x0, .int .i64 x1, .int .i64 x2, .int .i64 x3, .int .i32 x4, .int .u16 x5], .int .u32 i, .int .u32 k] w fun e w' => e = .returned (.bool true) ∧ Below w.heap.size w w' := by
  have hu1 := Lib.hid u1
  clear u1
  have hu2 := Lib.hid u2
  clear u2
  have he1 := Lib.hid e1
  clear e1
  have he2 := Lib.hid e2
  clear e2
  have hp1_ := Lib.hid p1_
  clear p1_
  have hp2_ := Lib.hid p2_
  clear p2_
  have hra := Lib.hid ra
  clear ra
  have ha1_ := Lib.hid a1_
  clear a1_
  have ha2_ := Lib.hid a2_
  clear a2_
  have hb1_ := Lib.hid b1_
  clear b1_
  have hb2_ := Lib.hid b2_
  clear b2_
  have hn1_ := Lib.hid n1_
  clear n1_
  have hn2_ := Lib.hid n2_
  clear n2_
  have hm1_ := Lib.hid m1_
  clear m1_
  have hm2_ := Lib.hid m2_
  clear m2_
  have hs1_ := Lib.hid s1_
  clear s1_
  have hs2_ := Lib.hid s2_
  clear s2_
  have hr1_ := Lib.hid r1_
  clear r1_
  have hr2_ := Lib.hid r2_
  clear r2_
  have hsr := Lib.hid sr
  clear sr
  go_enter Try.func4, Try.ntmps4
  go_wp2_with (fail)
  generalize hW0 : World.alloc w _ = W0
  have hT0 : Below w.heap.size w W0 := by subst hW0; exact ((Below.refl w.heap.size w).alloc (by go_size) _)
  have Y0 : w.heap.size < W0.heap.size := by subst hW0; simp <;> omega
  have S0 : ∀ g : Grown W0, w.heap.size < g.w.heap.size := fun g => Nat.lt_of_lt_of_le Y0 g.h.size
  have F0_0 : ∀ g : Grown W0, g.w.cell? ⟨w.heap.size, 0, none⟩ = some (.int .i64 x0) := fun g => (g.cell Y0).trans (by subst hW0; simp [go_sem])
  have H0_0 : ∀ g : Grown W0, g.w.frozen? ⟨w.heap.size, 0, none⟩ = false := fun g => (g.frozen Y0).trans (by subst hW0; simp [go_sem])
  have F0_1 : ∀ g : Grown W0, g.w.cell? ⟨w.heap.size, 1, none⟩ = some (.int .i64 x1) := fun g => (g.cell Y0).trans (by subst hW0; simp [go_sem])
  have H0_1 : ∀ g : Grown W0, g.w.frozen? ⟨w.heap.size, 1, none⟩ = false := fun g => (g.frozen Y0).trans (by subst hW0; simp [go_sem])
  have F0_2 : ∀ g : Grown W0, g.w.cell? ⟨w.heap.size, 2, none⟩ = some (.int .i64 x2) := fun g => (g.cell Y0).trans (by subst hW0; simp [go_sem])
  have H0_2 : ∀ g : Grown W0, g.w.frozen? ⟨w.heap.size, 2, none⟩ = false := fun g => (g.frozen Y0).trans (by subst hW0; simp [go_sem])
  have F0_3 : ∀ g : Grown W0, g.w.cell? ⟨w.heap.size, 3, none⟩ = some (.int .i64 x3) := fun g => (g.cell Y0).trans (by subst hW0; simp [go_sem])
  have H0_3 : ∀ g : Grown W0, g.w.frozen? ⟨w.heap.size, 3, none⟩ = false := fun g => (g.frozen Y0).trans (by subst hW0; simp [go_sem])
  have F0_4 : ∀ g : Grown W0, g.w.cell? ⟨w.heap.size, 4, none⟩ = some (.int .i32 x4) := fun g => (g.cell Y0).trans (by subst hW0; simp [go_sem])
  have H0_4 : ∀ g : Grown W0, g.w.frozen? ⟨w.heap.size, 4, none⟩ = false := fun g => (g.frozen Y0).trans (by subst hW0; simp [go_sem])
  have F0_5 : ∀ g : Grown W0, g.w.cell? ⟨w.heap.size, 5, none⟩ = some (.int .u16 x5) := fun g => (g.cell Y0).trans (by subst hW0; simp [go_sem])
  have H0_5 : ∀ g : Grown W0, g.w.frozen? ⟨w.heap.size, 5, none⟩ = false := fun g => (g.frozen Y0).trans (by subst hW0; simp [go_sem])
  clear Y0
  clear hW0
  obtain ⟨g0, hg0⟩ : ∃ g : Grown W0, W0 = g.w := ⟨⟨W0, Below.refl _ _⟩, rfl⟩
  rw [hg0]
  clear hg0
  refine (sanity2 _).mono ?_
  rintro e1 w1 ⟨rfl, hB1⟩
  obtain ⟨g1, rfl⟩ := grow g0 hB1
  clear hB1
  go_wp2_with (fail)
  refine region_data 8 23 _ (by kernel_rfl) new_iv (by kernel_rfl) ?_
  refine data_op (.pointer (some ⟨w.heap.size, 0, none⟩)) rfl (RQ_pure (fun w => by simp [go_sem])) ?_
  simp only [Act.put, List.setIfInBounds_toArray, List.set_cons_succ, List.set_cons_zero]
  refine data_op _ rfl (RQ_load rfl rfl (load_iv_at (S0 _) (F0_0 _) (F0_1 _))) ?_
  simp only [Act.put, List.setIfInBounds_toArray, List.set_cons_succ, List.set_cons_zero]
  refine data_op _ rfl (RQ_call hu1.out (fun _ => by simp [go_sem])) ?_
  simp only [Act.put, List.setIfInBounds_toArray, List.set_cons_succ, List.set_cons_zero]
  refine data_op (.pointer (some ⟨w.heap.size, 2, none⟩)) rfl (RQ_pure (fun w => by simp [go_sem])) ?_
  simp only [Act.put, List.setIfInBounds_toArray, List.set_cons_succ, List.set_cons_zero]
  refine data_op _ rfl (RQ_load rfl rfl (load_iv_at (S0 _) (F0_2 _) (F0_3 _))) ?_
  simp only [Act.put, List.setIfInBounds_toArray, List.set_cons_succ, List.set_cons_zero]
  refine data_op _ rfl (RQ_call hu2.out (fun _ => by simp [go_sem])) ?_
  simp only [Act.put, List.setIfInBounds_toArray, List.set_cons_succ, List.set_cons_zero]
  refine data_al rfl ?_
  simp only [Act.put, List.setIfInBounds_toArray, List.set_cons_succ, List.set_cons_zero]
  refine data_al rfl ?_
  simp only [Act.put, List.setIfInBounds_toArray, List.set_cons_succ, List.set_cons_zero]
  refine data_end ?_
  intro wh hBh
  simp only [Act.put, List.drop_succ_cons, List.drop_zero, List.take_succ_cons, List.take_zero, alDsts, List.filterMap_cons, List.filterMap_nil, isAl, Bool.false_eq_true, if_false, if_true, finK]
  intro b1x0 p0 q0 r0 o0
  intro b1x1 p1 q1 r1 o1
  obtain ⟨u00, u01, v00, v01⟩ := new_cell o0
  obtain ⟨u10, u11, v10, v11⟩ := new_cell o1
  have n01 : b1x0 ≠ b1x1 := r1 b1x0 (by simp)
  clear r0 o0 r1 o1
  simp only [List.setIfInBounds_toArray, List.set_cons_succ, List.set_cons_zero]
  refine list_store rfl rfl rfl rfl rfl (by exact u00) (by exact u01) (by exact v00) (by exact v01) ?_
  refine list_store rfl rfl rfl rfl rfl (by rw [st2_old (Ne.symm n01)]; exact u10) (by rw [st2_old (Ne.symm n01)]; exact u11) (by simp only [st2_frozen]; exact v10) (by simp only [st2_frozen]; exact v11) ?_
  refine wpList_nil ?_
  generalize e1 : (st2 (st2 wh b1x0 (.int .i64 a) (.int .i64 b)) b1x1 (.int .i64 c) (.int .i64 d)) = W1
  have hL1 : Below g1.w.heap.size g1.w W1 := by rw [← e1]; exact (st2_below (st2_below hBh p0) p1)
  have hT1 : Below w.heap.size w W1 := below_then (below_then hT0 g1.h) hL1
  have s0 := S0 g1
  have Y0 : w.heap.size < W1.heap.size := Nat.lt_of_lt_of_le s0 hL1.size
  have c0_0 := F0_0 g1
  have d0_0 := H0_0 g1
  have c0_1 := F0_1 g1
  have d0_1 := H0_1 g1
  have c0_2 := F0_2 g1
  have d0_2 := H0_2 g1
  have c0_3 := F0_3 g1
  have d0_3 := H0_3 g1
  have c0_4 := F0_4 g1
  have d0_4 := H0_4 g1
  have c0_5 := F0_5 g1
  have d0_5 := H0_5 g1
  clear S0 F0_0 H0_0 F0_1 H0_1 F0_2 H0_2 F0_3 H0_3 F0_4 H0_4 F0_5 H0_5
  have S0 : ∀ g : Grown W1, w.heap.size < g.w.heap.size := fun g => Nat.lt_of_lt_of_le Y0 g.h.size
  have F0_0 : ∀ g : Grown W1, g.w.cell? ⟨w.heap.size, 0, none⟩ = some (.int .i64 x0) := fun g => (g.cell Y0).trans ((Below.cell hL1 (p := ⟨w.heap.size, 0, none⟩) s0).trans c0_0)
  have H0_0 : ∀ g : Grown W1, g.w.frozen? ⟨w.heap.size, 0, none⟩ = false := fun g => (g.frozen Y0).trans ((Below.frozen hL1 (p := ⟨w.heap.size, 0, none⟩) s0).trans d0_0)
  have F0_1 : ∀ g : Grown W1, g.w.cell? ⟨w.heap.size, 1, none⟩ = some (.int .i64 x1) := fun g => (g.cell Y0).trans ((Below.cell hL1 (p := ⟨w.heap.size, 1, none⟩) s0).trans c0_1)
  have H0_1 : ∀ g : Grown W1, g.w.frozen? ⟨w.heap.size, 1, none⟩ = false := fun g => (g.frozen Y0).trans ((Below.frozen hL1 (p := ⟨w.heap.size, 1, none⟩) s0).trans d0_1)
  have F0_2 : ∀ g : Grown W1, g.w.cell? ⟨w.heap.size, 2, none⟩ = some (.int .i64 x2) := fun g => (g.cell Y0).trans ((Below.cell hL1 (p := ⟨w.heap.size, 2, none⟩) s0).trans c0_2)
  have H0_2 : ∀ g : Grown W1, g.w.frozen? ⟨w.heap.size, 2, none⟩ = false := fun g => (g.frozen Y0).trans ((Below.frozen hL1 (p := ⟨w.heap.size, 2, none⟩) s0).trans d0_2)
  have F0_3 : ∀ g : Grown W1, g.w.cell? ⟨w.heap.size, 3, none⟩ = some (.int .i64 x3) := fun g => (g.cell Y0).trans ((Below.cell hL1 (p := ⟨w.heap.size, 3, none⟩) s0).trans c0_3)
  have H0_3 : ∀ g : Grown W1, g.w.frozen? ⟨w.heap.size, 3, none⟩ = false := fun g => (g.frozen Y0).trans ((Below.frozen hL1 (p := ⟨w.heap.size, 3, none⟩) s0).trans d0_3)
  have F0_4 : ∀ g : Grown W1, g.w.cell? ⟨w.heap.size, 4, none⟩ = some (.int .i32 x4) := fun g => (g.cell Y0).trans ((Below.cell hL1 (p := ⟨w.heap.size, 4, none⟩) s0).trans c0_4)
  have H0_4 : ∀ g : Grown W1, g.w.frozen? ⟨w.heap.size, 4, none⟩ = false := fun g => (g.frozen Y0).trans ((Below.frozen hL1 (p := ⟨w.heap.size, 4, none⟩) s0).trans d0_4)
  have F0_5 : ∀ g : Grown W1, g.w.cell? ⟨w.heap.size, 5, none⟩ = some (.int .u16 x5) := fun g => (g.cell Y0).trans ((Below.cell hL1 (p := ⟨w.heap.size, 5, none⟩) s0).trans c0_5)
  have H0_5 : ∀ g : Grown W1, g.w.frozen? ⟨w.heap.size, 5, none⟩ = false := fun g => (g.frozen Y0).trans ((Below.frozen hL1 (p := ⟨w.heap.size, 5, none⟩) s0).trans d0_5)
  clear Y0 s0 c0_0 d0_0 c0_1 d0_1 c0_2 d0_2 c0_3 d0_3 c0_4 d0_4 c0_5 d0_5
  have Y1 : b1x0 < W1.heap.size := by rw [← e1]; simp only [st2_size]; exact q0
  have S1 : ∀ g : Grown W1, b1x0 < g.w.heap.size := fun g => Nat.lt_of_lt_of_le Y1 g.h.size
  have F1_0 : ∀ g : Grown W1, g.w.cell? ⟨b1x0, 0, none⟩ = some (.int .i64 a) := fun g => (g.cell Y1).trans (by rw [← e1]; rw [st2_old n01]; exact st2_0 (u := .int .i64 0) (by exact u00))
  have H1_0 : ∀ g : Grown W1, g.w.frozen? ⟨b1x0, 0, none⟩ = false := fun g => (g.frozen Y1).trans (by rw [← e1]; simp only [st2_frozen]; exact v00)
  have F1_1 : ∀ g : Grown W1, g.w.cell? ⟨b1x0, 1, none⟩ = some (.int .i64 b) := fun g => (g.cell Y1).trans (by rw [← e1]; rw [st2_old n01]; exact st2_1 (u := .int .i64 0) (by exact u01))
  have H1_1 : ∀ g : Grown W1, g.w.frozen? ⟨b1x0, 1, none⟩ = false := fun g => (g.frozen Y1).trans (by rw [← e1]; simp only [st2_frozen]; exact v01)
  clear Y1
  have Y2 : b1x1 < W1.heap.size := by rw [← e1]; simp only [st2_size]; exact q1
  have S2 : ∀ g : Grown W1, b1x1 < g.w.heap.size := fun g => Nat.lt_of_lt_of_le Y2 g.h.size
  have F2_0 : ∀ g : Grown W1, g.w.cell? ⟨b1x1, 0, none⟩ = some (.int .i64 c) := fun g => (g.cell Y2).trans (by rw [← e1]; exact st2_0 (u := .int .i64 0) (by rw [st2_old (Ne.symm n01)]; exact u10))
  have H2_0 : ∀ g : Grown W1, g.w.frozen? ⟨b1x1, 0, none⟩ = false := fun g => (g.frozen Y2).trans (by rw [← e1]; simp only [st2_frozen]; exact v10)
  have F2_1 : ∀ g : Grown W1, g.w.cell? ⟨b1x1, 1, none⟩ = some (.int .i64 d) := fun g => (g.cell Y2).trans (by rw [← e1]; exact st2_1 (u := .int .i64 0) (by rw [st2_old (Ne.symm n01)]; exact u11))
  have H2_1 : ∀ g : Grown W1, g.w.frozen? ⟨b1x1, 1, none⟩ = false := fun g => (g.frozen Y2).trans (by rw [← e1]; simp only [st2_frozen]; exact v11)
  clear Y2
  clear e1 hL1 hT0 hBh u00 u01 v00 v01 p0 q0 u10 u11 v10 v11 p1 q1 n01
  obtain ⟨h1, hg1⟩ : ∃ g : Grown W1, W1 = g.w := ⟨⟨W1, Below.refl _ _⟩, rfl⟩
  rw [hg1]
  clear hg1 g1
  go_wp2_with (fail)
  refine (he1.out _).mono ?_
  rintro e2 w2 ⟨rfl, hB2⟩
  obtain ⟨g2, rfl⟩ := grow h1 hB2
  clear hB2
  go_wp2_with (fail)
  refine (he2.out _).mono ?_
  rintro e3 w3 ⟨rfl, hB3⟩
  obtain ⟨g3, rfl⟩ := grow g2 hB3
  clear hB3
  go_wp2_with (fail)
  refine region_quiet' g3 (by kernel_rfl) (by kernel_rfl) ?_
  repeat (go_big_quiet_step (first | exact qc (hp1_.out _) | exact qc (hp2_.out _)))
  refine wpQuiet_nil ?_
  rintro _ ⟨g4, rfl⟩
  go_wp2_with (fail)
  refine (hra.out _).mono ?_
  rintro e5 w5 ⟨rfl, hB5⟩
  obtain ⟨g5, rfl⟩ := grow g4 hB5
  clear hB5
  go_wp2_with (fail)
  refine (ha1_.out _).mono ?_
  rintro e6 w6 ⟨rfl, hB6⟩
  obtain ⟨g6, rfl⟩ := grow g5 hB6
  clear hB6
  rename_i K hK
  refine hK _ _ ?_
  clear hK K
  refine list_quiet g6 ?_
  repeat (go_big_quiet_step (first | exact qc (hb1_.out _) | exact qc (hn1_.out _) | exact qc (hm1_.out _) | exact qc (hs1_.out _) | exact qc (hr1_.out _) | exact qc (ha2_.out _) | exact qc (hb2_.out _) | exact qc (hn2_.out _) | exact qc (hm2_.out _) | exact qc (hs2_.out _) | exact qc (hr2_.out _)))
  refine wpQuiet_nil ?_
  rintro _ ⟨g7, rfl⟩
  go_wp2_with (fail)
  refine (hsr.out _).mono ?_
  rintro e8 w8 ⟨rfl, hB8⟩
  obtain ⟨g8, rfl⟩ := grow g7 hB8
  clear hB8
  go_wp2_with (fail)
  generalize hW2 : World.alloc g8.w _ = W2
  have hL2 : Below g8.w.heap.size g8.w W2 := by subst hW2; exact ((Below.refl _ _).alloc (by first | omega | (simp <;> omega)) _)
  have hT2 : Below w.heap.size w W2 := below_then (below_then hT1 g8.h) hL2
  obtain ⟨nb2, hnb2⟩ : ∃ nb, nb = g8.w.heap.size := ⟨_, rfl⟩
  have s0 := S0 g8
  have Y0 : w.heap.size < W2.heap.size := Nat.lt_of_lt_of_le s0 hL2.size
  have c0_0 := F0_0 g8
  have d0_0 := H0_0 g8
  have c0_1 := F0_1 g8
  have d0_1 := H0_1 g8
  have c0_2 := F0_2 g8
  have d0_2 := H0_2 g8
  have c0_3 := F0_3 g8
  have d0_3 := H0_3 g8
  have c0_4 := F0_4 g8
  have d0_4 := H0_4 g8
  have c0_5 := F0_5 g8
  have d0_5 := H0_5 g8
  clear S0 F0_0 H0_0 F0_1 H0_1 F0_2 H0_2 F0_3 H0_3 F0_4 H0_4 F0_5 H0_5
  have S0 : ∀ g : Grown W2, w.heap.size < g.w.heap.size := fun g => Nat.lt_of_lt_of_le Y0 g.h.size
  have F0_0 : ∀ g : Grown W2, g.w.cell? ⟨w.heap.size, 0, none⟩ = some (.int .i64 x0) := fun g => (g.cell Y0).trans ((Below.cell hL2 (p := ⟨w.heap.size, 0, none⟩) s0).trans c0_0)
  have H0_0 : ∀ g : Grown W2, g.w.frozen? ⟨w.heap.size, 0, none⟩ = false := fun g => (g.frozen Y0).trans ((Below.frozen hL2 (p := ⟨w.heap.size, 0, none⟩) s0).trans d0_0)
  have F0_1 : ∀ g : Grown W2, g.w.cell? ⟨w.heap.size, 1, none⟩ = some (.int .i64 x1) := fun g => (g.cell Y0).trans ((Below.cell hL2 (p := ⟨w.heap.size, 1, none⟩) s0).trans c0_1)
  have H0_1 : ∀ g : Grown W2, g.w.frozen? ⟨w.heap.size, 1, none⟩ = false := fun g => (g.frozen Y0).trans ((Below.frozen hL2 (p := ⟨w.heap.size, 1, none⟩) s0).trans d0_1)
  have F0_2 : ∀ g : Grown W2, g.w.cell? ⟨w.heap.size, 2, none⟩ = some (.int .i64 x2) := fun g => (g.cell Y0).trans ((Below.cell hL2 (p := ⟨w.heap.size, 2, none⟩) s0).trans c0_2)
  have H0_2 : ∀ g : Grown W2, g.w.frozen? ⟨w.heap.size, 2, none⟩ = false := fun g => (g.frozen Y0).trans ((Below.frozen hL2 (p := ⟨w.heap.size, 2, none⟩) s0).trans d0_2)
  have F0_3 : ∀ g : Grown W2, g.w.cell? ⟨w.heap.size, 3, none⟩ = some (.int .i64 x3) := fun g => (g.cell Y0).trans ((Below.cell hL2 (p := ⟨w.heap.size, 3, none⟩) s0).trans c0_3)
  have H0_3 : ∀ g : Grown W2, g.w.frozen? ⟨w.heap.size, 3, none⟩ = false := fun g => (g.frozen Y0).trans ((Below.frozen hL2 (p := ⟨w.heap.size, 3, none⟩) s0).trans d0_3)
  have F0_4 : ∀ g : Grown W2, g.w.cell? ⟨w.heap.size, 4, none⟩ = some (.int .i32 x4) := fun g => (g.cell Y0).trans ((Below.cell hL2 (p := ⟨w.heap.size, 4, none⟩) s0).trans c0_4)
  have H0_4 : ∀ g : Grown W2, g.w.frozen? ⟨w.heap.size, 4, none⟩ = false := fun g => (g.frozen Y0).trans ((Below.frozen hL2 (p := ⟨w.heap.size, 4, none⟩) s0).trans d0_4)
  have F0_5 : ∀ g : Grown W2, g.w.cell? ⟨w.heap.size, 5, none⟩ = some (.int .u16 x5) := fun g => (g.cell Y0).trans ((Below.cell hL2 (p := ⟨w.heap.size, 5, none⟩) s0).trans c0_5)
  have H0_5 : ∀ g : Grown W2, g.w.frozen? ⟨w.heap.size, 5, none⟩ = false := fun g => (g.frozen Y0).trans ((Below.frozen hL2 (p := ⟨w.heap.size, 5, none⟩) s0).trans d0_5)
  clear Y0 s0 c0_0 d0_0 c0_1 d0_1 c0_2 d0_2 c0_3 d0_3 c0_4 d0_4 c0_5 d0_5
  have s1 := S1 g8
  have Y1 : b1x0 < W2.heap.size := Nat.lt_of_lt_of_le s1 hL2.size
  have c1_0 := F1_0 g8
  have d1_0 := H1_0 g8
  have c1_1 := F1_1 g8
  have d1_1 := H1_1 g8
  clear S1 F1_0 H1_0 F1_1 H1_1
  have S1 : ∀ g : Grown W2, b1x0 < g.w.heap.size := fun g => Nat.lt_of_lt_of_le Y1 g.h.size
  have F1_0 : ∀ g : Grown W2, g.w.cell? ⟨b1x0, 0, none⟩ = some (.int .i64 a) := fun g => (g.cell Y1).trans ((Below.cell hL2 (p := ⟨b1x0, 0, none⟩) s1).trans c1_0)
  have H1_0 : ∀ g : Grown W2, g.w.frozen? ⟨b1x0, 0, none⟩ = false := fun g => (g.frozen Y1).trans ((Below.frozen hL2 (p := ⟨b1x0, 0, none⟩) s1).trans d1_0)
  have F1_1 : ∀ g : Grown W2, g.w.cell? ⟨b1x0, 1, none⟩ = some (.int .i64 b) := fun g => (g.cell Y1).trans ((Below.cell hL2 (p := ⟨b1x0, 1, none⟩) s1).trans c1_1)
  have H1_1 : ∀ g : Grown W2, g.w.frozen? ⟨b1x0, 1, none⟩ = false := fun g => (g.frozen Y1).trans ((Below.frozen hL2 (p := ⟨b1x0, 1, none⟩) s1).trans d1_1)
  clear Y1 s1 c1_0 d1_0 c1_1 d1_1
  have s2 := S2 g8
  have Y2 : b1x1 < W2.heap.size := Nat.lt_of_lt_of_le s2 hL2.size
  have c2_0 := F2_0 g8
  have d2_0 := H2_0 g8
  have c2_1 := F2_1 g8
  have d2_1 := H2_1 g8
  clear S2 F2_0 H2_0 F2_1 H2_1
  have S2 : ∀ g : Grown W2, b1x1 < g.w.heap.size := fun g => Nat.lt_of_lt_of_le Y2 g.h.size
  have F2_0 : ∀ g : Grown W2, g.w.cell? ⟨b1x1, 0, none⟩ = some (.int .i64 c) := fun g => (g.cell Y2).trans ((Below.cell hL2 (p := ⟨b1x1, 0, none⟩) s2).trans c2_0)
  have H2_0 : ∀ g : Grown W2, g.w.frozen? ⟨b1x1, 0, none⟩ = false := fun g => (g.frozen Y2).trans ((Below.frozen hL2 (p := ⟨b1x1, 0, none⟩) s2).trans d2_0)
  have F2_1 : ∀ g : Grown W2, g.w.cell? ⟨b1x1, 1, none⟩ = some (.int .i64 d) := fun g => (g.cell Y2).trans ((Below.cell hL2 (p := ⟨b1x1, 1, none⟩) s2).trans c2_1)
  have H2_1 : ∀ g : Grown W2, g.w.frozen? ⟨b1x1, 1, none⟩ = false := fun g => (g.frozen Y2).trans ((Below.frozen hL2 (p := ⟨b1x1, 1, none⟩) s2).trans d2_1)
  clear Y2 s2 c2_0 d2_0 c2_1 d2_1
  have Y3 : nb2 < W2.heap.size := by subst hW2; subst hnb2; simp <;> omega
  have S3 : ∀ g : Grown W2, nb2 < g.w.heap.size := fun g => Nat.lt_of_lt_of_le Y3 g.h.size
  have F3_0 : ∀ g : Grown W2, g.w.cell? ⟨nb2, 0, none⟩ = some (.int .i64 r1) := fun g => (g.cell Y3).trans (by subst hW2; subst hnb2; simp [go_sem])
  have H3_0 : ∀ g : Grown W2, g.w.frozen? ⟨nb2, 0, none⟩ = false := fun g => (g.frozen Y3).trans (by subst hW2; subst hnb2; simp [go_sem])
  have F3_1 : ∀ g : Grown W2, g.w.cell? ⟨nb2, 1, none⟩ = some (.int .i64 r2) := fun g => (g.cell Y3).trans (by subst hW2; subst hnb2; simp [go_sem])
  have H3_1 : ∀ g : Grown W2, g.w.frozen? ⟨nb2, 1, none⟩ = false := fun g => (g.frozen Y3).trans (by subst hW2; subst hnb2; simp [go_sem])
  clear Y3
  rw [← hnb2]
  clear hnb2 hW2 hT1 hL2
  obtain ⟨h2, hg2⟩ : ∃ g : Grown W2, W2 = g.w := ⟨⟨W2, Below.refl _ _⟩, rfl⟩
  rw [hg2]
  clear hg2 g8
  have hB : Below w.heap.size w h2.w := below_then hT2 h2.h
  go_ret
  refine ⟨rfl, ?_⟩
  go_grown

set_option maxRecDepth 100000 in
set_option maxHeartbeats 8000000 in
theorem inc_zero_ge (x0 x1 x2 x3 x4 x5 i k a b c d p n m s1 s2 uu1 uu2 l1 l2 z1 z2 t1 t2 v1 v2 r1 r2 : Int) (w : World) (g1 : -2147483648 < p) (g2 : p < 2147483648) (g7 : -4611686018427387904 ≤ p * p) (g8 : p * p ≤ 4611686018427387904) (g9 : -4611686018427387904 ≤ p * n) (g10 : p * n ≤ 4611686018427387904)  (hp : 0 ≤ p) (q1 : r1 * r1 ≤ p * 65536) (q2 : p * 65536 ≤ r2 * r2) (q3 : 0 ≤ r1 * r1) (q4 : r2 * r2 ≤ 4611686018427387904) (u1 : ∀ w, Calls Try.prog 16 #[.agg #[.int .i64 x0, .int .i64 x1]] w fun e w' => e = .returned (.agg #[.int .i64 a, .int .i64 b]) ∧ Below w.heap.size w w') (u2 : ∀ w, Calls Try.prog 16 #[.agg #[.int .i64 x2, .int .i64 x3]] w fun e w' => e = .returned (.agg #[.int .i64 c, .int .i64 d]) ∧ Below w.heap.size w w') (e1 : ∀ w, Calls Try.prog 38 #[.agg #[.int .i64 a, .int .i64 b]] w fun e w' => e = .returned (.bool false) ∧ Below w.heap.size w w') (e2 : ∀ w, Calls Try.prog 38 #[.agg #[.int .i64 c, .int .i64 d]] w fun e w' => e = .returned (.bool false) ∧ Below w.heap.size w w') (p1_ : ∀ w, Calls Try.prog 57 #[.agg #[.int .i64 a, .int .i64 b], .int .u32 i] w fun e w' => e = .returned (.int .i64 p) ∧ Below w.heap.size w w') (p2_ : ∀ w, Calls Try.prog 57 #[.agg #[.int .i64 c, .int .i64 d], .int .u32 k] w fun e w' => e = .returned (.int .i64 0) ∧ Below w.heap.size w w') (ra : ∀ w, Calls Try.prog 17 #[.agg #[.int .i64 x0, .int .i64 x1, .int .i64 x2, .int .i64 x3, .int .i32 x4, .int .u16 x5]] w fun e w' => e = .returned (.tuple #[.int .i64 n, .int .i64 m]) ∧ Below w.heap.size w w') (a1_ : ∀ w, Calls Try.prog 45 #[.agg #[.int .i64 a, .int .i64 b], .agg #[.int .i64 c, .int .i64 d]] w fun e w' => e = .returned (.agg #[.int .i64 s1, .int .i64 s2]) ∧ Below w.heap.size w w') (a2_ : ∀ w, Calls Try.prog 58 #[.agg #[.int .i64 s1, .int .i64 s2], .int .i64 p, .int .i64 1] w fun e w' => e = .returned (.bool true) ∧ Below w.heap.size w w') (b1_ : ∀ w, Calls Try.prog 47 #[.agg #[.int .i64 a, .int .i64 b], .agg #[.int .i64 c, .int .i64 d]] w fun e w' => e = .returned (.agg #[.int .i64 uu1, .int .i64 uu2]) ∧ Below w.heap.size w w') (b2_ : ∀ w, Calls Try.prog 58 #[.agg #[.int .i64 uu1, .int .i64 uu2], .int .i64 p, .int .i64 1] w fun e w' => e = .returned (.bool true) ∧ Below w.heap.size w w') (n1_ : ∀ w, Calls Try.prog 49 #[.agg #[.int .i64 a, .int .i64 b]] w fun e w' => e = .returned (.agg #[.int .i64 (-b), .int .i64 (-a)]) ∧ Below w.heap.size w w') (n2_ : ∀ w, Calls Try.prog 58 #[.agg #[.int .i64 (-b), .int .i64 (-a)], .int .i64 (-p), .int .i64 1] w fun e w' => e = .returned (.bool true) ∧ Below w.heap.size w w') (m1_ : ∀ w, Calls Try.prog 51 #[.agg #[.int .i64 a, .int .i64 b], .agg #[.int .i64 c, .int .i64 d]] w fun e w' => e = .returned (.agg #[.int .i64 l1, .int .i64 l2]) ∧ Below w.heap.size w w') (m2_ : ∀ w, Calls Try.prog 58 #[.agg #[.int .i64 l1, .int .i64 l2], .int .i64 0, .int .i64 65536] w fun e w' => e = .returned (.bool true) ∧ Below w.heap.size w w') (s1_ : ∀ w, Calls Try.prog 53 #[.agg #[.int .i64 a, .int .i64 b]] w fun e w' => e = .returned (.agg #[.int .i64 z1, .int .i64 z2]) ∧ Below w.heap.size w w') (s2_ : ∀ w, Calls Try.prog 58 #[.agg #[.int .i64 z1, .int .i64 z2], .int .i64 (p * p), .int .i64 65536] w fun e w' => e = .returned (.bool true) ∧ Below w.heap.size w w') (r1_ : ∀ w, Calls Try.prog 23 #[.agg #[.int .i64 a, .int .i64 b], .int .i64 n, .int .i64 m] w fun e w' => e = .returned (.agg #[.int .i64 t1, .int .i64 t2]) ∧ Below w.heap.size w w') (r2_ : ∀ w, Calls Try.prog 58 #[.agg #[.int .i64 t1, .int .i64 t2], .int .i64 (p * n), .int .i64 m] w fun e w' => e = .returned (.bool true) ∧ Below w.heap.size w w') (sr : ∀ w, Calls Try.prog 18 #[.agg #[.int .i64 a, .int .i64 b]] w fun e w' => e = .returned (.tuple #[.agg #[.int .i64 r1, .int .i64 r2], .bool true]) ∧ Below w.heap.size w w') :
    Calls Try.prog 4 #[.agg #[.int .i64 x0, .int .i64 x1, .int .i64 x2, .int .i64 x3, .int .i32 x4, .int .u16 x5], .int .u32 i, .int .u32 k] w fun e w' => e = .returned (.bool true) ∧ Below w.heap.size w w' := by
  have hu1 := Lib.hid u1
  clear u1
  have hu2 := Lib.hid u2
  clear u2
  have he1 := Lib.hid e1
  clear e1
  have he2 := Lib.hid e2
  clear e2
  have hp1_ := Lib.hid p1_
  clear p1_
  have hp2_ := Lib.hid p2_
  clear p2_
  have hra := Lib.hid ra
  clear ra
  have ha1_ := Lib.hid a1_
  clear a1_
  have ha2_ := Lib.hid a2_
  clear a2_
  have hb1_ := Lib.hid b1_
  clear b1_
  have hb2_ := Lib.hid b2_
  clear b2_
  have hn1_ := Lib.hid n1_
  clear n1_
  have hn2_ := Lib.hid n2_
  clear n2_
  have hm1_ := Lib.hid m1_
  clear m1_
  have hm2_ := Lib.hid m2_
  clear m2_
  have hs1_ := Lib.hid s1_
  clear s1_
  have hs2_ := Lib.hid s2_
  clear s2_
  have hr1_ := Lib.hid r1_
  clear r1_
  have hr2_ := Lib.hid r2_
  clear r2_
  have hsr := Lib.hid sr
  clear sr
  have hp' : decide (p < 0) = false := decide_eq_false (by omega)
  go_enter Try.func4, Try.ntmps4
  go_wp2_with (fail)
  generalize hW0 : World.alloc w _ = W0
  have hT0 : Below w.heap.size w W0 := by subst hW0; exact ((Below.refl w.heap.size w).alloc (by go_size) _)
  have Y0 : w.heap.size < W0.heap.size := by subst hW0; simp <;> omega
  have S0 : ∀ g : Grown W0, w.heap.size < g.w.heap.size := fun g => Nat.lt_of_lt_of_le Y0 g.h.size
  have F0_0 : ∀ g : Grown W0, g.w.cell? ⟨w.heap.size, 0, none⟩ = some (.int .i64 x0) := fun g => (g.cell Y0).trans (by subst hW0; simp [go_sem])
  have H0_0 : ∀ g : Grown W0, g.w.frozen? ⟨w.heap.size, 0, none⟩ = false := fun g => (g.frozen Y0).trans (by subst hW0; simp [go_sem])
  have F0_1 : ∀ g : Grown W0, g.w.cell? ⟨w.heap.size, 1, none⟩ = some (.int .i64 x1) := fun g => (g.cell Y0).trans (by subst hW0; simp [go_sem])
  have H0_1 : ∀ g : Grown W0, g.w.frozen? ⟨w.heap.size, 1, none⟩ = false := fun g => (g.frozen Y0).trans (by subst hW0; simp [go_sem])
  have F0_2 : ∀ g : Grown W0, g.w.cell? ⟨w.heap.size, 2, none⟩ = some (.int .i64 x2) := fun g => (g.cell Y0).trans (by subst hW0; simp [go_sem])
  have H0_2 : ∀ g : Grown W0, g.w.frozen? ⟨w.heap.size, 2, none⟩ = false := fun g => (g.frozen Y0).trans (by subst hW0; simp [go_sem])
  have F0_3 : ∀ g : Grown W0, g.w.cell? ⟨w.heap.size, 3, none⟩ = some (.int .i64 x3) := fun g => (g.cell Y0).trans (by subst hW0; simp [go_sem])
  have H0_3 : ∀ g : Grown W0, g.w.frozen? ⟨w.heap.size, 3, none⟩ = false := fun g => (g.frozen Y0).trans (by subst hW0; simp [go_sem])
  have F0_4 : ∀ g : Grown W0, g.w.cell? ⟨w.heap.size, 4, none⟩ = some (.int .i32 x4) := fun g => (g.cell Y0).trans (by subst hW0; simp [go_sem])
  have H0_4 : ∀ g : Grown W0, g.w.frozen? ⟨w.heap.size, 4, none⟩ = false := fun g => (g.frozen Y0).trans (by subst hW0; simp [go_sem])
  have F0_5 : ∀ g : Grown W0, g.w.cell? ⟨w.heap.size, 5, none⟩ = some (.int .u16 x5) := fun g => (g.cell Y0).trans (by subst hW0; simp [go_sem])
  have H0_5 : ∀ g : Grown W0, g.w.frozen? ⟨w.heap.size, 5, none⟩ = false := fun g => (g.frozen Y0).trans (by subst hW0; simp [go_sem])
  clear Y0
  clear hW0
  obtain ⟨g0, hg0⟩ : ∃ g : Grown W0, W0 = g.w := ⟨⟨W0, Below.refl _ _⟩, rfl⟩
  rw [hg0]
  clear hg0
  refine (sanity2 _).mono ?_
  rintro e1 w1 ⟨rfl, hB1⟩
  obtain ⟨g1, rfl⟩ := grow g0 hB1
  clear hB1
  go_wp2_with (fail)
  refine region_data 8 23 _ (by kernel_rfl) new_iv (by kernel_rfl) ?_
  refine data_op (.pointer (some ⟨w.heap.size, 0, none⟩)) rfl (RQ_pure (fun w => by simp [go_sem])) ?_
  simp only [Act.put, List.setIfInBounds_toArray, List.set_cons_succ, List.set_cons_zero]
  refine data_op _ rfl (RQ_load rfl rfl (load_iv_at (S0 _) (F0_0 _) (F0_1 _))) ?_
  simp only [Act.put, List.setIfInBounds_toArray, List.set_cons_succ, List.set_cons_zero]
  refine data_op _ rfl (RQ_call hu1.out (fun _ => by simp [go_sem])) ?_
  simp only [Act.put, List.setIfInBounds_toArray, List.set_cons_succ, List.set_cons_zero]
  refine data_op (.pointer (some ⟨w.heap.size, 2, none⟩)) rfl (RQ_pure (fun w => by simp [go_sem])) ?_
  simp only [Act.put, List.setIfInBounds_toArray, List.set_cons_succ, List.set_cons_zero]
  refine data_op _ rfl (RQ_load rfl rfl (load_iv_at (S0 _) (F0_2 _) (F0_3 _))) ?_
  simp only [Act.put, List.setIfInBounds_toArray, List.set_cons_succ, List.set_cons_zero]
  refine data_op _ rfl (RQ_call hu2.out (fun _ => by simp [go_sem])) ?_
  simp only [Act.put, List.setIfInBounds_toArray, List.set_cons_succ, List.set_cons_zero]
  refine data_al rfl ?_
  simp only [Act.put, List.setIfInBounds_toArray, List.set_cons_succ, List.set_cons_zero]
  refine data_al rfl ?_
  simp only [Act.put, List.setIfInBounds_toArray, List.set_cons_succ, List.set_cons_zero]
  refine data_end ?_
  intro wh hBh
  simp only [Act.put, List.drop_succ_cons, List.drop_zero, List.take_succ_cons, List.take_zero, alDsts, List.filterMap_cons, List.filterMap_nil, isAl, Bool.false_eq_true, if_false, if_true, finK]
  intro b1x0 p0 q0 r0 o0
  intro b1x1 p1 q1 r1 o1
  obtain ⟨u00, u01, v00, v01⟩ := new_cell o0
  obtain ⟨u10, u11, v10, v11⟩ := new_cell o1
  have n01 : b1x0 ≠ b1x1 := r1 b1x0 (by simp)
  clear r0 o0 r1 o1
  simp only [List.setIfInBounds_toArray, List.set_cons_succ, List.set_cons_zero]
  refine list_store rfl rfl rfl rfl rfl (by exact u00) (by exact u01) (by exact v00) (by exact v01) ?_
  refine list_store rfl rfl rfl rfl rfl (by rw [st2_old (Ne.symm n01)]; exact u10) (by rw [st2_old (Ne.symm n01)]; exact u11) (by simp only [st2_frozen]; exact v10) (by simp only [st2_frozen]; exact v11) ?_
  refine wpList_nil ?_
  generalize e1 : (st2 (st2 wh b1x0 (.int .i64 a) (.int .i64 b)) b1x1 (.int .i64 c) (.int .i64 d)) = W1
  have hL1 : Below g1.w.heap.size g1.w W1 := by rw [← e1]; exact (st2_below (st2_below hBh p0) p1)
  have hT1 : Below w.heap.size w W1 := below_then (below_then hT0 g1.h) hL1
  have s0 := S0 g1
  have Y0 : w.heap.size < W1.heap.size := Nat.lt_of_lt_of_le s0 hL1.size
  have c0_0 := F0_0 g1
  have d0_0 := H0_0 g1
  have c0_1 := F0_1 g1
  have d0_1 := H0_1 g1
  have c0_2 := F0_2 g1
  have d0_2 := H0_2 g1
  have c0_3 := F0_3 g1
  have d0_3 := H0_3 g1
  have c0_4 := F0_4 g1
  have d0_4 := H0_4 g1
  have c0_5 := F0_5 g1
  have d0_5 := H0_5 g1
  clear S0 F0_0 H0_0 F0_1 H0_1 F0_2 H0_2 F0_3 H0_3 F0_4 H0_4 F0_5 H0_5
  have S0 : ∀ g : Grown W1, w.heap.size < g.w.heap.size := fun g => Nat.lt_of_lt_of_le Y0 g.h.size
  have F0_0 : ∀ g : Grown W1, g.w.cell? ⟨w.heap.size, 0, none⟩ = some (.int .i64 x0) := fun g => (g.cell Y0).trans ((Below.cell hL1 (p := ⟨w.heap.size, 0, none⟩) s0).trans c0_0)
  have H0_0 : ∀ g : Grown W1, g.w.frozen? ⟨w.heap.size, 0, none⟩ = false := fun g => (g.frozen Y0).trans ((Below.frozen hL1 (p := ⟨w.heap.size, 0, none⟩) s0).trans d0_0)
  have F0_1 : ∀ g : Grown W1, g.w.cell? ⟨w.heap.size, 1, none⟩ = some (.int .i64 x1) := fun g => (g.cell Y0).trans ((Below.cell hL1 (p := ⟨w.heap.size, 1, none⟩) s0).trans c0_1)
  have H0_1 : ∀ g : Grown W1, g.w.frozen? ⟨w.heap.size, 1, none⟩ = false := fun g => (g.frozen Y0).trans ((Below.frozen hL1 (p := ⟨w.heap.size, 1, none⟩) s0).trans d0_1)
  have F0_2 : ∀ g : Grown W1, g.w.cell? ⟨w.heap.size, 2, none⟩ = some (.int .i64 x2) := fun g => (g.cell Y0).trans ((Below.cell hL1 (p := ⟨w.heap.size, 2, none⟩) s0).trans c0_2)
  have H0_2 : ∀ g : Grown W1, g.w.frozen? ⟨w.heap.size, 2, none⟩ = false := fun g => (g.frozen Y0).trans ((Below.frozen hL1 (p := ⟨w.heap.size, 2, none⟩) s0).trans d0_2)
  have F0_3 : ∀ g : Grown W1, g.w.cell? ⟨w.heap.size, 3, none⟩ = some (.int .i64 x3) := fun g => (g.cell Y0).trans ((Below.cell hL1 (p := ⟨w.heap.size, 3, none⟩) s0).trans c0_3)
  have H0_3 : ∀ g : Grown W1, g.w.frozen? ⟨w.heap.size, 3, none⟩ = false := fun g => (g.frozen Y0).trans ((Below.frozen hL1 (p := ⟨w.heap.size, 3, none⟩) s0).trans d0_3)
  have F0_4 : ∀ g : Grown W1, g.w.cell? ⟨w.heap.size, 4, none⟩ = some (.int .i32 x4) := fun g => (g.cell Y0).trans ((Below.cell hL1 (p := ⟨w.heap.size, 4, none⟩) s0).trans c0_4)
  have H0_4 : ∀ g : Grown W1, g.w.frozen? ⟨w.heap.size, 4, none⟩ = false := fun g => (g.frozen Y0).trans ((Below.frozen hL1 (p := ⟨w.heap.size, 4, none⟩) s0).trans d0_4)
  have F0_5 : ∀ g : Grown W1, g.w.cell? ⟨w.heap.size, 5, none⟩ = some (.int .u16 x5) := fun g => (g.cell Y0).trans ((Below.cell hL1 (p := ⟨w.heap.size, 5, none⟩) s0).trans c0_5)
  have H0_5 : ∀ g : Grown W1, g.w.frozen? ⟨w.heap.size, 5, none⟩ = false := fun g => (g.frozen Y0).trans ((Below.frozen hL1 (p := ⟨w.heap.size, 5, none⟩) s0).trans d0_5)
  clear Y0 s0 c0_0 d0_0 c0_1 d0_1 c0_2 d0_2 c0_3 d0_3 c0_4 d0_4 c0_5 d0_5
  have Y1 : b1x0 < W1.heap.size := by rw [← e1]; simp only [st2_size]; exact q0
  have S1 : ∀ g : Grown W1, b1x0 < g.w.heap.size := fun g => Nat.lt_of_lt_of_le Y1 g.h.size
  have F1_0 : ∀ g : Grown W1, g.w.cell? ⟨b1x0, 0, none⟩ = some (.int .i64 a) := fun g => (g.cell Y1).trans (by rw [← e1]; rw [st2_old n01]; exact st2_0 (u := .int .i64 0) (by exact u00))
  have H1_0 : ∀ g : Grown W1, g.w.frozen? ⟨b1x0, 0, none⟩ = false := fun g => (g.frozen Y1).trans (by rw [← e1]; simp only [st2_frozen]; exact v00)
  have F1_1 : ∀ g : Grown W1, g.w.cell? ⟨b1x0, 1, none⟩ = some (.int .i64 b) := fun g => (g.cell Y1).trans (by rw [← e1]; rw [st2_old n01]; exact st2_1 (u := .int .i64 0) (by exact u01))
  have H1_1 : ∀ g : Grown W1, g.w.frozen? ⟨b1x0, 1, none⟩ = false := fun g => (g.frozen Y1).trans (by rw [← e1]; simp only [st2_frozen]; exact v01)
  clear Y1
  have Y2 : b1x1 < W1.heap.size := by rw [← e1]; simp only [st2_size]; exact q1
  have S2 : ∀ g : Grown W1, b1x1 < g.w.heap.size := fun g => Nat.lt_of_lt_of_le Y2 g.h.size
  have F2_0 : ∀ g : Grown W1, g.w.cell? ⟨b1x1, 0, none⟩ = some (.int .i64 c) := fun g => (g.cell Y2).trans (by rw [← e1]; exact st2_0 (u := .int .i64 0) (by rw [st2_old (Ne.symm n01)]; exact u10))
  have H2_0 : ∀ g : Grown W1, g.w.frozen? ⟨b1x1, 0, none⟩ = false := fun g => (g.frozen Y2).trans (by rw [← e1]; simp only [st2_frozen]; exact v10)
  have F2_1 : ∀ g : Grown W1, g.w.cell? ⟨b1x1, 1, none⟩ = some (.int .i64 d) := fun g => (g.cell Y2).trans (by rw [← e1]; exact st2_1 (u := .int .i64 0) (by rw [st2_old (Ne.symm n01)]; exact u11))
  have H2_1 : ∀ g : Grown W1, g.w.frozen? ⟨b1x1, 1, none⟩ = false := fun g => (g.frozen Y2).trans (by rw [← e1]; simp only [st2_frozen]; exact v11)
  clear Y2
  clear e1 hL1 hT0 hBh u00 u01 v00 v01 p0 q0 u10 u11 v10 v11 p1 q1 n01
  obtain ⟨h1, hg1⟩ : ∃ g : Grown W1, W1 = g.w := ⟨⟨W1, Below.refl _ _⟩, rfl⟩
  rw [hg1]
  clear hg1 g1
  go_wp2_with (fail)
  refine (he1.out _).mono ?_
  rintro e2 w2 ⟨rfl, hB2⟩
  obtain ⟨g2, rfl⟩ := grow h1 hB2
  clear hB2
  go_wp2_with (fail)
  refine (he2.out _).mono ?_
  rintro e3 w3 ⟨rfl, hB3⟩
  obtain ⟨g3, rfl⟩ := grow g2 hB3
  clear hB3
  go_wp2_with (fail)
  refine region_quiet' g3 (by kernel_rfl) (by kernel_rfl) ?_
  repeat (go_big_quiet_step (first | exact qc (hp1_.out _) | exact qc (hp2_.out _)))
  refine wpQuiet_nil ?_
  rintro _ ⟨g4, rfl⟩
  go_wp2_with (fail)
  refine (hra.out _).mono ?_
  rintro e5 w5 ⟨rfl, hB5⟩
  obtain ⟨g5, rfl⟩ := grow g4 hB5
  clear hB5
  go_wp2_with (fail)
  refine (ha1_.out _).mono ?_
  rintro e6 w6 ⟨rfl, hB6⟩
  obtain ⟨g6, rfl⟩ := grow g5 hB6
  clear hB6
  rename_i K hK
  refine hK _ _ ?_
  clear hK K
  refine list_quiet g6 ?_
  repeat (go_big_quiet_step (first | exact qc (hb1_.out _) | exact qc (hn1_.out _) | exact qc (hm1_.out _) | exact qc (hs1_.out _) | exact qc (hr1_.out _) | exact qc (ha2_.out _) | exact qc (hb2_.out _) | exact qc (hn2_.out _) | exact qc (hm2_.out _) | exact qc (hs2_.out _) | exact qc (hr2_.out _)))
  refine wpQuiet_nil ?_
  rintro _ ⟨g7, rfl⟩
  go_wp2_with (fail)
  refine (hsr.out _).mono ?_
  rintro e8 w8 ⟨rfl, hB8⟩
  obtain ⟨g8, rfl⟩ := grow g7 hB8
  clear hB8
  go_wp2_with (fail)
  generalize hW2 : World.alloc g8.w _ = W2
  have hL2 : Below g8.w.heap.size g8.w W2 := by subst hW2; exact ((Below.refl _ _).alloc (by first | omega | (simp <;> omega)) _)
  have hT2 : Below w.heap.size w W2 := below_then (below_then hT1 g8.h) hL2
  obtain ⟨nb2, hnb2⟩ : ∃ nb, nb = g8.w.heap.size := ⟨_, rfl⟩
  have s0 := S0 g8
  have Y0 : w.heap.size < W2.heap.size := Nat.lt_of_lt_of_le s0 hL2.size
  have c0_0 := F0_0 g8
  have d0_0 := H0_0 g8
  have c0_1 := F0_1 g8
  have d0_1 := H0_1 g8
  have c0_2 := F0_2 g8
  have d0_2 := H0_2 g8
  have c0_3 := F0_3 g8
  have d0_3 := H0_3 g8
  have c0_4 := F0_4 g8
  have d0_4 := H0_4 g8
  have c0_5 := F0_5 g8
  have d0_5 := H0_5 g8
  clear S0 F0_0 H0_0 F0_1 H0_1 F0_2 H0_2 F0_3 H0_3 F0_4 H0_4 F0_5 H0_5
  have S0 : ∀ g : Grown W2, w.heap.size < g.w.heap.size := fun g => Nat.lt_of_lt_of_le Y0 g.h.size
  have F0_0 : ∀ g : Grown W2, g.w.cell? ⟨w.heap.size, 0, none⟩ = some (.int .i64 x0) := fun g => (g.cell Y0).trans ((Below.cell hL2 (p := ⟨w.heap.size, 0, none⟩) s0).trans c0_0)
  have H0_0 : ∀ g : Grown W2, g.w.frozen? ⟨w.heap.size, 0, none⟩ = false := fun g => (g.frozen Y0).trans ((Below.frozen hL2 (p := ⟨w.heap.size, 0, none⟩) s0).trans d0_0)
  have F0_1 : ∀ g : Grown W2, g.w.cell? ⟨w.heap.size, 1, none⟩ = some (.int .i64 x1) := fun g => (g.cell Y0).trans ((Below.cell hL2 (p := ⟨w.heap.size, 1, none⟩) s0).trans c0_1)
  have H0_1 : ∀ g : Grown W2, g.w.frozen? ⟨w.heap.size, 1, none⟩ = false := fun g => (g.frozen Y0).trans ((Below.frozen hL2 (p := ⟨w.heap.size, 1, none⟩) s0).trans d0_1)
  have F0_2 : ∀ g : Grown W2, g.w.cell? ⟨w.heap.size, 2, none⟩ = some (.int .i64 x2) := fun g => (g.cell Y0).trans ((Below.cell hL2 (p := ⟨w.heap.size, 2, none⟩) s0).trans c0_2)
  have H0_2 : ∀ g : Grown W2, g.w.frozen? ⟨w.heap.size, 2, none⟩ = false := fun g => (g.frozen Y0).trans ((Below.frozen hL2 (p := ⟨w.heap.size, 2, none⟩) s0).trans d0_2)
  have F0_3 : ∀ g : Grown W2, g.w.cell? ⟨w.heap.size, 3, none⟩ = some (.int .i64 x3) := fun g => (g.cell Y0).trans ((Below.cell hL2 (p := ⟨w.heap.size, 3, none⟩) s0).trans c0_3)
  have H0_3 : ∀ g : Grown W2, g.w.frozen? ⟨w.heap.size, 3, none⟩ = false := fun g => (g.frozen Y0).trans ((Below.frozen hL2 (p := ⟨w.heap.size, 3, none⟩) s0).trans d0_3)
  have F0_4 : ∀ g : Grown W2, g.w.cell? ⟨w.heap.size, 4, none⟩ = some (.int .i32 x4) := fun g => (g.cell Y0).trans ((Below.cell hL2 (p := ⟨w.heap.size, 4, none⟩) s0).trans c0_4)
  have H0_4 : ∀ g : Grown W2, g.w.frozen? ⟨w.heap.size, 4, none⟩ = false := fun g => (g.frozen Y0).trans ((Below.frozen hL2 (p := ⟨w.heap.size, 4, none⟩) s0).trans d0_4)
  have F0_5 : ∀ g : Grown W2, g.w.cell? ⟨w.heap.size, 5, none⟩ = some (.int .u16 x5) := fun g => (g.cell Y0).trans ((Below.cell hL2 (p := ⟨w.heap.size, 5, none⟩) s0).trans c0_5)
  have H0_5 : ∀ g : Grown W2, g.w.frozen? ⟨w.heap.size, 5, none⟩ = false := fun g => (g.frozen Y0).trans ((Below.frozen hL2 (p := ⟨w.heap.size, 5, none⟩) s0).trans d0_5)
  clear Y0 s0 c0_0 d0_0 c0_1 d0_1 c0_2 d0_2 c0_3 d0_3 c0_4 d0_4 c0_5 d0_5
  have s1 := S1 g8
  have Y1 : b1x0 < W2.heap.size := Nat.lt_of_lt_of_le s1 hL2.size
  have c1_0 := F1_0 g8
  have d1_0 := H1_0 g8
  have c1_1 := F1_1 g8
  have d1_1 := H1_1 g8
  clear S1 F1_0 H1_0 F1_1 H1_1
  have S1 : ∀ g : Grown W2, b1x0 < g.w.heap.size := fun g => Nat.lt_of_lt_of_le Y1 g.h.size
  have F1_0 : ∀ g : Grown W2, g.w.cell? ⟨b1x0, 0, none⟩ = some (.int .i64 a) := fun g => (g.cell Y1).trans ((Below.cell hL2 (p := ⟨b1x0, 0, none⟩) s1).trans c1_0)
  have H1_0 : ∀ g : Grown W2, g.w.frozen? ⟨b1x0, 0, none⟩ = false := fun g => (g.frozen Y1).trans ((Below.frozen hL2 (p := ⟨b1x0, 0, none⟩) s1).trans d1_0)
  have F1_1 : ∀ g : Grown W2, g.w.cell? ⟨b1x0, 1, none⟩ = some (.int .i64 b) := fun g => (g.cell Y1).trans ((Below.cell hL2 (p := ⟨b1x0, 1, none⟩) s1).trans c1_1)
  have H1_1 : ∀ g : Grown W2, g.w.frozen? ⟨b1x0, 1, none⟩ = false := fun g => (g.frozen Y1).trans ((Below.frozen hL2 (p := ⟨b1x0, 1, none⟩) s1).trans d1_1)
  clear Y1 s1 c1_0 d1_0 c1_1 d1_1
  have s2 := S2 g8
  have Y2 : b1x1 < W2.heap.size := Nat.lt_of_lt_of_le s2 hL2.size
  have c2_0 := F2_0 g8
  have d2_0 := H2_0 g8
  have c2_1 := F2_1 g8
  have d2_1 := H2_1 g8
  clear S2 F2_0 H2_0 F2_1 H2_1
  have S2 : ∀ g : Grown W2, b1x1 < g.w.heap.size := fun g => Nat.lt_of_lt_of_le Y2 g.h.size
  have F2_0 : ∀ g : Grown W2, g.w.cell? ⟨b1x1, 0, none⟩ = some (.int .i64 c) := fun g => (g.cell Y2).trans ((Below.cell hL2 (p := ⟨b1x1, 0, none⟩) s2).trans c2_0)
  have H2_0 : ∀ g : Grown W2, g.w.frozen? ⟨b1x1, 0, none⟩ = false := fun g => (g.frozen Y2).trans ((Below.frozen hL2 (p := ⟨b1x1, 0, none⟩) s2).trans d2_0)
  have F2_1 : ∀ g : Grown W2, g.w.cell? ⟨b1x1, 1, none⟩ = some (.int .i64 d) := fun g => (g.cell Y2).trans ((Below.cell hL2 (p := ⟨b1x1, 1, none⟩) s2).trans c2_1)
  have H2_1 : ∀ g : Grown W2, g.w.frozen? ⟨b1x1, 1, none⟩ = false := fun g => (g.frozen Y2).trans ((Below.frozen hL2 (p := ⟨b1x1, 1, none⟩) s2).trans d2_1)
  clear Y2 s2 c2_0 d2_0 c2_1 d2_1
  have Y3 : nb2 < W2.heap.size := by subst hW2; subst hnb2; simp <;> omega
  have S3 : ∀ g : Grown W2, nb2 < g.w.heap.size := fun g => Nat.lt_of_lt_of_le Y3 g.h.size
  have F3_0 : ∀ g : Grown W2, g.w.cell? ⟨nb2, 0, none⟩ = some (.int .i64 r1) := fun g => (g.cell Y3).trans (by subst hW2; subst hnb2; simp [go_sem])
  have H3_0 : ∀ g : Grown W2, g.w.frozen? ⟨nb2, 0, none⟩ = false := fun g => (g.frozen Y3).trans (by subst hW2; subst hnb2; simp [go_sem])
  have F3_1 : ∀ g : Grown W2, g.w.cell? ⟨nb2, 1, none⟩ = some (.int .i64 r2) := fun g => (g.cell Y3).trans (by subst hW2; subst hnb2; simp [go_sem])
  have H3_1 : ∀ g : Grown W2, g.w.frozen? ⟨nb2, 1, none⟩ = false := fun g => (g.frozen Y3).trans (by subst hW2; subst hnb2; simp [go_sem])
  clear Y3
  rw [← hnb2]
  clear hnb2 hW2 hT1 hL2
  obtain ⟨h2, hg2⟩ : ∃ g : Grown W2, W2 = g.w := ⟨⟨W2, Below.refl _ _⟩, rfl⟩
  rw [hg2]
  clear hg2 g8
  have hB : Below w.heap.size w h2.w := below_then hT2 h2.h
  go_ret
  refine ⟨rfl, ?_⟩
  go_grown
end Go.Proofs.Ytgkhkclpgkohbaa
