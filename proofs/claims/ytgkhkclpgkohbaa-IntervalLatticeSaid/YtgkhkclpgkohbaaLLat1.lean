/-
  The law of the lattice: its walk.
-/
import Derived.Test.YtgkhkclpgkohbaaSanity
import Derived.Test.YtgkhkclpgkohbaaR1
import Derived.Test.YtgkhkclpgkohbaaHead
import Derived.Deep.DrawnRows
import Derived.Deep.CutRange
namespace Go.Proofs.Ytgkhkclpgkohbaa
open Go.ChangeShapes Go.WideShapes Go.ChangeAt Go.RowKit
set_option linter.unusedVariables false
set_option linter.unusedSimpArgs false

open Go.BigFrame
attribute [local irreducible] Calls

set_option maxRecDepth 100000 in
set_option maxHeartbeats 8000000 in
theorem lat_walk (x0 x1 x2 x3 x4 x5 y0 y1 a b c d i j l1 l2 m1 m2 at_ : Int) (is r1 r2 r3 v1 v2 v3 : Bool) (w : World) (z1 : is = true → v3 = (v1 && v2)) (z2 : is = false → (v1 && v2) = false) (z3 : r3 = true → is = true ∧ m1 = a ∧ m2 = b) (u1 : ∀ w, Calls Try.prog 16 #[.agg #[.int .i64 x0, .int .i64 x1]] w fun e w' => e = .returned (.agg #[.int .i64 a, .int .i64 b]) ∧ Below w.heap.size w w') (u2 : ∀ w, Calls Try.prog 16 #[.agg #[.int .i64 x2, .int .i64 x3]] w fun e w' => e = .returned (.agg #[.int .i64 c, .int .i64 d]) ∧ Below w.heap.size w w') (u3 : ∀ w, Calls Try.prog 16 #[.agg #[.int .i64 y0, .int .i64 y1]] w fun e w' => e = .returned (.agg #[.int .i64 i, .int .i64 j]) ∧ Below w.heap.size w w') (hu : ∀ w, Calls Try.prog 25 #[.agg #[.int .i64 a, .int .i64 b], .agg #[.int .i64 c, .int .i64 d]] w fun e w' => e = .returned (.agg #[.int .i64 l1, .int .i64 l2]) ∧ Below w.heap.size w w') (me : ∀ w, Calls Try.prog 20 #[.agg #[.int .i64 a, .int .i64 b], .agg #[.int .i64 c, .int .i64 d]] w fun e w' => e = .returned (.tuple #[.agg #[.int .i64 m1, .int .i64 m2], .bool is]) ∧ Below w.heap.size w w') (t1 : ∀ w, Calls Try.prog 27 #[.agg #[.int .i64 a, .int .i64 b], .agg #[.int .i64 l1, .int .i64 l2]] w fun e w' => e = .returned (.bool true) ∧ Below w.heap.size w w') (t2 : ∀ w, Calls Try.prog 27 #[.agg #[.int .i64 c, .int .i64 d], .agg #[.int .i64 l1, .int .i64 l2]] w fun e w' => e = .returned (.bool true) ∧ Below w.heap.size w w') (t3 : ∀ w, Calls Try.prog 27 #[.agg #[.int .i64 a, .int .i64 b], .agg #[.int .i64 i, .int .i64 j]] w fun e w' => e = .returned (.bool r1) ∧ Below w.heap.size w w') (t4 : ∀ w, Calls Try.prog 27 #[.agg #[.int .i64 c, .int .i64 d], .agg #[.int .i64 i, .int .i64 j]] w fun e w' => e = .returned (.bool r2) ∧ Below w.heap.size w w') (t6 : ∀ w, Calls Try.prog 25 #[.agg #[.int .i64 c, .int .i64 d], .agg #[.int .i64 a, .int .i64 b]] w fun e w' => e = .returned (.agg #[.int .i64 l1, .int .i64 l2]) ∧ Below w.heap.size w w') (t7 : ∀ w, Calls Try.prog 25 #[.agg #[.int .i64 a, .int .i64 b], .agg #[.int .i64 a, .int .i64 b]] w fun e w' => e = .returned (.agg #[.int .i64 a, .int .i64 b]) ∧ Below w.heap.size w w') (t8 : ∀ w, Calls Try.prog 12 #[.agg #[.int .i64 l1, .int .i64 l2]] w fun e w' => e = .returned (.bool true) ∧ Below w.heap.size w w') (k1 : ∀ w, Calls Try.prog 14 #[.agg #[.int .i64 a, .int .i64 b], .int .i64 (at_.tmod 4294967296)] w fun e w' => e = .returned (.bool v1) ∧ Below w.heap.size w w') (k2 : ∀ w, Calls Try.prog 14 #[.agg #[.int .i64 c, .int .i64 d], .int .i64 (at_.tmod 4294967296)] w fun e w' => e = .returned (.bool v2) ∧ Below w.heap.size w w') (k3 : ∀ w, Calls Try.prog 14 #[.agg #[.int .i64 m1, .int .i64 m2], .int .i64 (at_.tmod 4294967296)] w fun e w' => e = .returned (.bool v3) ∧ Below w.heap.size w w') (n1 : ∀ w, Calls Try.prog 20 #[.agg #[.int .i64 c, .int .i64 d], .agg #[.int .i64 a, .int .i64 b]] w fun e w' => e = .returned (.tuple #[.agg #[.int .i64 m1, .int .i64 m2], .bool is]) ∧ Below w.heap.size w w') (n2 : ∀ w, Calls Try.prog 20 #[.agg #[.int .i64 a, .int .i64 b], .agg #[.int .i64 a, .int .i64 b]] w fun e w' => e = .returned (.tuple #[.agg #[.int .i64 a, .int .i64 b], .bool true]) ∧ Below w.heap.size w w') (n3 : ∀ w, Calls Try.prog 27 #[.agg #[.int .i64 a, .int .i64 b], .agg #[.int .i64 c, .int .i64 d]] w fun e w' => e = .returned (.bool r3) ∧ Below w.heap.size w w') (t5 : r1 = true → r2 = true → ∀ w, Calls Try.prog 27 #[.agg #[.int .i64 l1, .int .i64 l2], .agg #[.int .i64 i, .int .i64 j]] w fun e w' => e = .returned (.bool true) ∧ Below w.heap.size w w') (k4 : is = true → ∀ w, Calls Try.prog 27 #[.agg #[.int .i64 m1, .int .i64 m2], .agg #[.int .i64 a, .int .i64 b]] w fun e w' => e = .returned (.bool true) ∧ Below w.heap.size w w') (k5 : is = true → ∀ w, Calls Try.prog 27 #[.agg #[.int .i64 m1, .int .i64 m2], .agg #[.int .i64 c, .int .i64 d]] w fun e w' => e = .returned (.bool true) ∧ Below w.heap.size w w') (k6 : is = true → ∀ w, Calls Try.prog 12 #[.agg #[.int .i64 m1, .int .i64 m2]] w fun e w' => e = .returned (.bool true) ∧ Below w.heap.size w w') :
    Calls Try.prog 9 #[.agg #[.int .i64 x0, .int .i64 x1, .int .i64 x2, .int .i64 x3, .int .i32 x4, .int .u16 x5], .agg #[.int .i64 y0, .int .i64 y1], .int .i64 at_] w fun e w' => e = .returned (.bool true) ∧ Below w.heap.size w w' := by
  have hu1 := Lib.hid u1
  clear u1
  have hu2 := Lib.hid u2
  clear u2
  have hu3 := Lib.hid u3
  clear u3
  have hhu := Lib.hid hu
  clear hu
  have hme := Lib.hid me
  clear me
  have ht1 := Lib.hid t1
  clear t1
  have ht2 := Lib.hid t2
  clear t2
  have ht3 := Lib.hid t3
  clear t3
  have ht4 := Lib.hid t4
  clear t4
  have ht6 := Lib.hid t6
  clear t6
  have ht7 := Lib.hid t7
  clear t7
  have ht8 := Lib.hid t8
  clear t8
  have hk1 := Lib.hid k1
  clear k1
  have hk2 := Lib.hid k2
  clear k2
  have hk3 := Lib.hid k3
  clear k3
  have hn1 := Lib.hid n1
  clear n1
  have hn2 := Lib.hid n2
  clear n2
  have hn3 := Lib.hid n3
  clear n3
  have ht5 := Lib.hid t5
  clear t5
  have hk4 := Lib.hid k4
  clear k4
  have hk5 := Lib.hid k5
  clear k5
  have hk6 := Lib.hid k6
  clear k6
  have hz1 := Lib.hid z1
  clear z1
  have hz2 := Lib.hid z2
  clear z2
  have hz3 := Lib.hid z3
  clear z3
  go_enter Try.func9, Try.ntmps9
  go_wp2_with (fail)
  generalize hW0 : World.alloc (World.alloc w _) _ = W0
  have hT0 : Below w.heap.size w W0 := by subst hW0; exact (((Below.refl w.heap.size w).alloc (by go_size) _).alloc (by go_size) _)
  have Y0 : w.heap.size < W0.heap.size := by subst hW0; simp <;> omega
  have S0 : ∀ g : Grown W0, w.heap.size < g.w.heap.size := fun g => Nat.lt_of_lt_of_le Y0 g.h.size
  have F0_0 : ∀ g : Grown W0, g.w.cell? ⟨w.heap.size, 0, none⟩ = some (.int .i64 x0) := fun g => (g.cell Y0).trans (by subst hW0; simp [go_sem])
  have H0_0 : ∀ g : Grown W0, g.w.frozen? ⟨w.heap.size, 0, none⟩ = false := fun g => (g.frozen Y0).trans (by subst hW0; simp [go_sem])
  have F0_1 : ∀ g : Grown W0, g.w.cell? ⟨w.heap.size, 1, none⟩ = some (.int .i64 x1) := fun g => (g.cell Y0).trans (by subst hW0; simp [go_sem])
  have H0_1 : ∀ g : Grown W0, g.w.frozen? ⟨w.heap.size, 1, none⟩ = false := fun g => (g.frozen Y0).trans (by subst hW0; simp [go_sem])
  have F0_2 : ∀ g : Grown W0, g.w.cell? ⟨w.heap.size, 2, none⟩ = some (.int .i64 x2) := fun g => (g.cell Y0).trans (by subst hW0; simp [go_sem])
  have H0_2 : ∀ g : Grown W0, g.w.frozen? ⟨w.heap.size, 2, none⟩ = false := fun g => (g.frozen Y0).trans (by subst hW0; simp [go_sem])
  have F0_3 : ∀ g : Grown W0, g.w.cell? ⟨w.heap.size, 3, none⟩ = some (.int .i64 x3) := fun g => (g.cell Y0).trans (by subst hW0; simp [go_sem])
  have H0_3 : ∀ g : Grown W0, g.w.frozen? ⟨w.heap.size, 3, none⟩ = false := fun g => (g.frozen Y0).trans (by subst hW0; simp [go_sem])
  have F0_4 : ∀ g : Grown W0, g.w.cell? ⟨w.heap.size, 4, none⟩ = some (.int .i32 x4) := fun g => (g.cell Y0).trans (by subst hW0; simp [go_sem])
  have H0_4 : ∀ g : Grown W0, g.w.frozen? ⟨w.heap.size, 4, none⟩ = false := fun g => (g.frozen Y0).trans (by subst hW0; simp [go_sem])
  have F0_5 : ∀ g : Grown W0, g.w.cell? ⟨w.heap.size, 5, none⟩ = some (.int .u16 x5) := fun g => (g.cell Y0).trans (by subst hW0; simp [go_sem])
  have H0_5 : ∀ g : Grown W0, g.w.frozen? ⟨w.heap.size, 5, none⟩ = false := fun g => (g.frozen Y0).trans (by subst hW0; simp [go_sem])
  clear Y0
  have Y1 : w.heap.size + 1 < W0.heap.size := by subst hW0; simp <;> omega
  have S1 : ∀ g : Grown W0, w.heap.size + 1 < g.w.heap.size := fun g => Nat.lt_of_lt_of_le Y1 g.h.size
  have F1_0 : ∀ g : Grown W0, g.w.cell? ⟨w.heap.size + 1, 0, none⟩ = some (.int .i64 y0) := fun g => (g.cell Y1).trans (by subst hW0; simp [go_sem])
  have H1_0 : ∀ g : Grown W0, g.w.frozen? ⟨w.heap.size + 1, 0, none⟩ = false := fun g => (g.frozen Y1).trans (by subst hW0; simp [go_sem])
  have F1_1 : ∀ g : Grown W0, g.w.cell? ⟨w.heap.size + 1, 1, none⟩ = some (.int .i64 y1) := fun g => (g.cell Y1).trans (by subst hW0; simp [go_sem])
  have H1_1 : ∀ g : Grown W0, g.w.frozen? ⟨w.heap.size + 1, 1, none⟩ = false := fun g => (g.frozen Y1).trans (by subst hW0; simp [go_sem])
  clear Y1
  clear hW0
  obtain ⟨g0, hg0⟩ : ∃ g : Grown W0, W0 = g.w := ⟨⟨W0, Below.refl _ _⟩, rfl⟩
  rw [hg0]
  clear hg0
  refine (sanity2 _).mono ?_
  rintro e1 w1 ⟨rfl, hB1⟩
  obtain ⟨g1, rfl⟩ := grow g0 hB1
  clear hB1
  go_wp2_with (fail)
  refine region_data 11 23 _ (by kernel_rfl) new_iv (by kernel_rfl) ?_
  refine data_op (.pointer (some ⟨w.heap.size, 0, none⟩)) rfl (RQ_pure (fun w => by simp [go_sem])) ?_
  simp only [Act.put, List.setIfInBounds_toArray, List.set_cons_succ, List.set_cons_zero]
  refine data_op _ rfl (RQ_load rfl rfl (load_iv_at (S0 _) (F0_0 _) (F0_1 _))) ?_
  simp only [Act.put, List.setIfInBounds_toArray, List.set_cons_succ, List.set_cons_zero]
  refine data_op _ rfl (RQ_call hu1.out (fun _ => by simp [go_sem])) ?_
  simp only [Act.put, List.setIfInBounds_toArray, List.set_cons_succ, List.set_cons_zero]
  refine data_op (.pointer (some ⟨w.heap.size, 2, none⟩)) rfl (RQ_pure (fun w => by simp [go_sem])) ?_
  simp only [Act.put, List.setIfInBounds_toArray, List.set_cons_succ, List.set_cons_zero]
  refine data_op _ rfl (RQ_load rfl rfl (load_iv_at (S0 _) (F0_2 _) (F0_3 _))) ?_
  simp only [Act.put, List.setIfInBounds_toArray, List.set_cons_succ, List.set_cons_zero]
  refine data_op _ rfl (RQ_call hu2.out (fun _ => by simp [go_sem])) ?_
  simp only [Act.put, List.setIfInBounds_toArray, List.set_cons_succ, List.set_cons_zero]
  refine data_op _ rfl (RQ_load rfl rfl (load_iv_at (S1 _) (F1_0 _) (F1_1 _))) ?_
  simp only [Act.put, List.setIfInBounds_toArray, List.set_cons_succ, List.set_cons_zero]
  refine data_op _ rfl (RQ_call hu3.out (fun _ => by simp [go_sem])) ?_
  simp only [Act.put, List.setIfInBounds_toArray, List.set_cons_succ, List.set_cons_zero]
  refine data_al rfl ?_
  simp only [Act.put, List.setIfInBounds_toArray, List.set_cons_succ, List.set_cons_zero]
  refine data_al rfl ?_
  simp only [Act.put, List.setIfInBounds_toArray, List.set_cons_succ, List.set_cons_zero]
  refine data_al rfl ?_
  simp only [Act.put, List.setIfInBounds_toArray, List.set_cons_succ, List.set_cons_zero]
  refine data_end ?_
  intro wh hBh
  simp only [Act.put, List.drop_succ_cons, List.drop_zero, List.take_succ_cons, List.take_zero, alDsts, List.filterMap_cons, List.filterMap_nil, isAl, Bool.false_eq_true, if_false, if_true, finK]
  intro b0 p0 q0 r0 o0
  intro b1 p1 q1 r1 o1
  intro b2 p2 q2 r2 o2
  obtain ⟨u00, u01, v00, v01⟩ := new_cell o0
  obtain ⟨u10, u11, v10, v11⟩ := new_cell o1
  have n01 : b0 ≠ b1 := r1 b0 (by simp)
  obtain ⟨u20, u21, v20, v21⟩ := new_cell o2
  have n02 : b0 ≠ b2 := r2 b0 (by simp)
  have n12 : b1 ≠ b2 := r2 b1 (by simp)
  clear r0 o0 r1 o1 r2 o2
  simp only [List.setIfInBounds_toArray, List.set_cons_succ, List.set_cons_zero]
  refine list_store rfl rfl rfl rfl rfl (by exact u00) (by exact u01) (by exact v00) (by exact v01) ?_
  refine list_store rfl rfl rfl rfl rfl (by rw [st2_old (Ne.symm n01)]; exact u10) (by rw [st2_old (Ne.symm n01)]; exact u11) (by simp only [st2_frozen]; exact v10) (by simp only [st2_frozen]; exact v11) ?_
  refine list_store rfl rfl rfl rfl rfl (by rw [st2_old (Ne.symm n12)]; rw [st2_old (Ne.symm n02)]; exact u20) (by rw [st2_old (Ne.symm n12)]; rw [st2_old (Ne.symm n02)]; exact u21) (by simp only [st2_frozen]; exact v20) (by simp only [st2_frozen]; exact v21) ?_
  refine wpList_nil ?_
  generalize e1 : (st2 (st2 (st2 wh b0 (.int .i64 a) (.int .i64 b)) b1 (.int .i64 c) (.int .i64 d)) b2 (.int .i64 i) (.int .i64 j)) = W1
  have hL1 : Below g1.w.heap.size g1.w W1 := by rw [← e1]; exact (st2_below (st2_below (st2_below hBh p0) p1) p2)
  have hT1 : Below w.heap.size w W1 := below_then (below_then hT0 g1.h) hL1
  have s0 := S0 g1
  have Y0 : w.heap.size < W1.heap.size := Nat.lt_of_lt_of_le s0 hL1.size
  have c0_0 := F0_0 g1
  have d0_0 := H0_0 g1
  have c0_1 := F0_1 g1
  have d0_1 := H0_1 g1
  have c0_2 := F0_2 g1
  have d0_2 := H0_2 g1
  have c0_3 := F0_3 g1
  have d0_3 := H0_3 g1
  have c0_4 := F0_4 g1
  have d0_4 := H0_4 g1
  have c0_5 := F0_5 g1
  have d0_5 := H0_5 g1
  clear S0 F0_0 H0_0 F0_1 H0_1 F0_2 H0_2 F0_3 H0_3 F0_4 H0_4 F0_5 H0_5
  have S0 : ∀ g : Grown W1, w.heap.size < g.w.heap.size := fun g => Nat.lt_of_lt_of_le Y0 g.h.size
  have F0_0 : ∀ g : Grown W1, g.w.cell? ⟨w.heap.size, 0, none⟩ = some (.int .i64 x0) := fun g => (g.cell Y0).trans ((Below.cell hL1 (p := ⟨w.heap.size, 0, none⟩) s0).trans c0_0)
  have H0_0 : ∀ g : Grown W1, g.w.frozen? ⟨w.heap.size, 0, none⟩ = false := fun g => (g.frozen Y0).trans ((Below.frozen hL1 (p := ⟨w.heap.size, 0, none⟩) s0).trans d0_0)
  have F0_1 : ∀ g : Grown W1, g.w.cell? ⟨w.heap.size, 1, none⟩ = some (.int .i64 x1) := fun g => (g.cell Y0).trans ((Below.cell hL1 (p := ⟨w.heap.size, 1, none⟩) s0).trans c0_1)
  have H0_1 : ∀ g : Grown W1, g.w.frozen? ⟨w.heap.size, 1, none⟩ = false := fun g => (g.frozen Y0).trans ((Below.frozen hL1 (p := ⟨w.heap.size, 1, none⟩) s0).trans d0_1)
  have F0_2 : ∀ g : Grown W1, g.w.cell? ⟨w.heap.size, 2, none⟩ = some (.int .i64 x2) := fun g => (g.cell Y0).trans ((Below.cell hL1 (p := ⟨w.heap.size, 2, none⟩) s0).trans c0_2)
  have H0_2 : ∀ g : Grown W1, g.w.frozen? ⟨w.heap.size, 2, none⟩ = false := fun g => (g.frozen Y0).trans ((Below.frozen hL1 (p := ⟨w.heap.size, 2, none⟩) s0).trans d0_2)
  have F0_3 : ∀ g : Grown W1, g.w.cell? ⟨w.heap.size, 3, none⟩ = some (.int .i64 x3) := fun g => (g.cell Y0).trans ((Below.cell hL1 (p := ⟨w.heap.size, 3, none⟩) s0).trans c0_3)
  have H0_3 : ∀ g : Grown W1, g.w.frozen? ⟨w.heap.size, 3, none⟩ = false := fun g => (g.frozen Y0).trans ((Below.frozen hL1 (p := ⟨w.heap.size, 3, none⟩) s0).trans d0_3)
  have F0_4 : ∀ g : Grown W1, g.w.cell? ⟨w.heap.size, 4, none⟩ = some (.int .i32 x4) := fun g => (g.cell Y0).trans ((Below.cell hL1 (p := ⟨w.heap.size, 4, none⟩) s0).trans c0_4)
  have H0_4 : ∀ g : Grown W1, g.w.frozen? ⟨w.heap.size, 4, none⟩ = false := fun g => (g.frozen Y0).trans ((Below.frozen hL1 (p := ⟨w.heap.size, 4, none⟩) s0).trans d0_4)
  have F0_5 : ∀ g : Grown W1, g.w.cell? ⟨w.heap.size, 5, none⟩ = some (.int .u16 x5) := fun g => (g.cell Y0).trans ((Below.cell hL1 (p := ⟨w.heap.size, 5, none⟩) s0).trans c0_5)
  have H0_5 : ∀ g : Grown W1, g.w.frozen? ⟨w.heap.size, 5, none⟩ = false := fun g => (g.frozen Y0).trans ((Below.frozen hL1 (p := ⟨w.heap.size, 5, none⟩) s0).trans d0_5)
  clear Y0 s0 c0_0 d0_0 c0_1 d0_1 c0_2 d0_2 c0_3 d0_3 c0_4 d0_4 c0_5 d0_5
  have s1 := S1 g1
  have Y1 : w.heap.size + 1 < W1.heap.size := Nat.lt_of_lt_of_le s1 hL1.size
  have c1_0 := F1_0 g1
  have d1_0 := H1_0 g1
  have c1_1 := F1_1 g1
  have d1_1 := H1_1 g1
  clear S1 F1_0 H1_0 F1_1 H1_1
  have S1 : ∀ g : Grown W1, w.heap.size + 1 < g.w.heap.size := fun g => Nat.lt_of_lt_of_le Y1 g.h.size
  have F1_0 : ∀ g : Grown W1, g.w.cell? ⟨w.heap.size + 1, 0, none⟩ = some (.int .i64 y0) := fun g => (g.cell Y1).trans ((Below.cell hL1 (p := ⟨w.heap.size + 1, 0, none⟩) s1).trans c1_0)
  have H1_0 : ∀ g : Grown W1, g.w.frozen? ⟨w.heap.size + 1, 0, none⟩ = false := fun g => (g.frozen Y1).trans ((Below.frozen hL1 (p := ⟨w.heap.size + 1, 0, none⟩) s1).trans d1_0)
  have F1_1 : ∀ g : Grown W1, g.w.cell? ⟨w.heap.size + 1, 1, none⟩ = some (.int .i64 y1) := fun g => (g.cell Y1).trans ((Below.cell hL1 (p := ⟨w.heap.size + 1, 1, none⟩) s1).trans c1_1)
  have H1_1 : ∀ g : Grown W1, g.w.frozen? ⟨w.heap.size + 1, 1, none⟩ = false := fun g => (g.frozen Y1).trans ((Below.frozen hL1 (p := ⟨w.heap.size + 1, 1, none⟩) s1).trans d1_1)
  clear Y1 s1 c1_0 d1_0 c1_1 d1_1
  have Y2 : b0 < W1.heap.size := by rw [← e1]; simp only [st2_size]; exact q0
  have S2 : ∀ g : Grown W1, b0 < g.w.heap.size := fun g => Nat.lt_of_lt_of_le Y2 g.h.size
  have F2_0 : ∀ g : Grown W1, g.w.cell? ⟨b0, 0, none⟩ = some (.int .i64 a) := fun g => (g.cell Y2).trans (by rw [← e1]; rw [st2_old n02]; rw [st2_old n01]; exact st2_0 (u := .int .i64 0) (by exact u00))
  have H2_0 : ∀ g : Grown W1, g.w.frozen? ⟨b0, 0, none⟩ = false := fun g => (g.frozen Y2).trans (by rw [← e1]; simp only [st2_frozen]; exact v00)
  have F2_1 : ∀ g : Grown W1, g.w.cell? ⟨b0, 1, none⟩ = some (.int .i64 b) := fun g => (g.cell Y2).trans (by rw [← e1]; rw [st2_old n02]; rw [st2_old n01]; exact st2_1 (u := .int .i64 0) (by exact u01))
  have H2_1 : ∀ g : Grown W1, g.w.frozen? ⟨b0, 1, none⟩ = false := fun g => (g.frozen Y2).trans (by rw [← e1]; simp only [st2_frozen]; exact v01)
  clear Y2
  have Y3 : b1 < W1.heap.size := by rw [← e1]; simp only [st2_size]; exact q1
  have S3 : ∀ g : Grown W1, b1 < g.w.heap.size := fun g => Nat.lt_of_lt_of_le Y3 g.h.size
  have F3_0 : ∀ g : Grown W1, g.w.cell? ⟨b1, 0, none⟩ = some (.int .i64 c) := fun g => (g.cell Y3).trans (by rw [← e1]; rw [st2_old n12]; exact st2_0 (u := .int .i64 0) (by rw [st2_old (Ne.symm n01)]; exact u10))
  have H3_0 : ∀ g : Grown W1, g.w.frozen? ⟨b1, 0, none⟩ = false := fun g => (g.frozen Y3).trans (by rw [← e1]; simp only [st2_frozen]; exact v10)
  have F3_1 : ∀ g : Grown W1, g.w.cell? ⟨b1, 1, none⟩ = some (.int .i64 d) := fun g => (g.cell Y3).trans (by rw [← e1]; rw [st2_old n12]; exact st2_1 (u := .int .i64 0) (by rw [st2_old (Ne.symm n01)]; exact u11))
  have H3_1 : ∀ g : Grown W1, g.w.frozen? ⟨b1, 1, none⟩ = false := fun g => (g.frozen Y3).trans (by rw [← e1]; simp only [st2_frozen]; exact v11)
  clear Y3
  have Y4 : b2 < W1.heap.size := by rw [← e1]; simp only [st2_size]; exact q2
  have S4 : ∀ g : Grown W1, b2 < g.w.heap.size := fun g => Nat.lt_of_lt_of_le Y4 g.h.size
  have F4_0 : ∀ g : Grown W1, g.w.cell? ⟨b2, 0, none⟩ = some (.int .i64 i) := fun g => (g.cell Y4).trans (by rw [← e1]; exact st2_0 (u := .int .i64 0) (by rw [st2_old (Ne.symm n12)]; rw [st2_old (Ne.symm n02)]; exact u20))
  have H4_0 : ∀ g : Grown W1, g.w.frozen? ⟨b2, 0, none⟩ = false := fun g => (g.frozen Y4).trans (by rw [← e1]; simp only [st2_frozen]; exact v20)
  have F4_1 : ∀ g : Grown W1, g.w.cell? ⟨b2, 1, none⟩ = some (.int .i64 j) := fun g => (g.cell Y4).trans (by rw [← e1]; exact st2_1 (u := .int .i64 0) (by rw [st2_old (Ne.symm n12)]; rw [st2_old (Ne.symm n02)]; exact u21))
  have H4_1 : ∀ g : Grown W1, g.w.frozen? ⟨b2, 1, none⟩ = false := fun g => (g.frozen Y4).trans (by rw [← e1]; simp only [st2_frozen]; exact v21)
  clear Y4
  clear e1 hL1 hT0 hBh u00 u01 v00 v01 p0 q0 u10 u11 v10 v11 p1 q1 u20 u21 v20 v21 p2 q2 n01 n02 n12
  obtain ⟨h1, hg1⟩ : ∃ g : Grown W1, W1 = g.w := ⟨⟨W1, Below.refl _ _⟩, rfl⟩
  rw [hg1]
  clear hg1 g1
  go_wp2_with (fail)
  refine (hhu.out _).mono ?_
  rintro e2 w2 ⟨rfl, hB2⟩
  obtain ⟨g2, rfl⟩ := grow h1 hB2
  clear hB2
  go_wp2_with (fail)
  generalize hW2 : World.alloc g2.w _ = W2
  have hL2 : Below g2.w.heap.size g2.w W2 := by subst hW2; exact ((Below.refl _ _).alloc (by first | omega | (simp <;> omega)) _)
  have hT2 : Below w.heap.size w W2 := below_then (below_then hT1 g2.h) hL2
  obtain ⟨nb2, hnb2⟩ : ∃ nb, nb = g2.w.heap.size := ⟨_, rfl⟩
  have s0 := S0 g2
  have Y0 : w.heap.size < W2.heap.size := Nat.lt_of_lt_of_le s0 hL2.size
  have c0_0 := F0_0 g2
  have d0_0 := H0_0 g2
  have c0_1 := F0_1 g2
  have d0_1 := H0_1 g2
  have c0_2 := F0_2 g2
  have d0_2 := H0_2 g2
  have c0_3 := F0_3 g2
  have d0_3 := H0_3 g2
  have c0_4 := F0_4 g2
  have d0_4 := H0_4 g2
  have c0_5 := F0_5 g2
  have d0_5 := H0_5 g2
  clear S0 F0_0 H0_0 F0_1 H0_1 F0_2 H0_2 F0_3 H0_3 F0_4 H0_4 F0_5 H0_5
  have S0 : ∀ g : Grown W2, w.heap.size < g.w.heap.size := fun g => Nat.lt_of_lt_of_le Y0 g.h.size
  have F0_0 : ∀ g : Grown W2, g.w.cell? ⟨w.heap.size, 0, none⟩ = some (.int .i64 x0) := fun g => (g.cell Y0).trans ((Below.cell hL2 (p := ⟨w.heap.size, 0, none⟩) s0).trans c0_0)
  have H0_0 : ∀ g : Grown W2, g.w.frozen? ⟨w.heap.size, 0, none⟩ = false := fun g => (g.frozen Y0).trans ((Below.frozen hL2 (p := ⟨w.heap.size, 0, none⟩) s0).trans d0_0)
  have F0_1 : ∀ g : Grown W2, g.w.cell? ⟨w.heap.size, 1, none⟩ = some (.int .i64 x1) := fun g => (g.cell Y0).trans ((Below.cell hL2 (p := ⟨w.heap.size, 1, none⟩) s0).trans c0_1)
  have H0_1 : ∀ g : Grown W2, g.w.frozen? ⟨w.heap.size, 1, none⟩ = false := fun g => (g.frozen Y0).trans ((Below.frozen hL2 (p := ⟨w.heap.size, 1, none⟩) s0).trans d0_1)
  have F0_2 : ∀ g : Grown W2, g.w.cell? ⟨w.heap.size, 2, none⟩ = some (.int .i64 x2) := fun g => (g.cell Y0).trans ((Below.cell hL2 (p := ⟨w.heap.size, 2, none⟩) s0).trans c0_2)
  have H0_2 : ∀ g : Grown W2, g.w.frozen? ⟨w.heap.size, 2, none⟩ = false := fun g => (g.frozen Y0).trans ((Below.frozen hL2 (p := ⟨w.heap.size, 2, none⟩) s0).trans d0_2)
  have F0_3 : ∀ g : Grown W2, g.w.cell? ⟨w.heap.size, 3, none⟩ = some (.int .i64 x3) := fun g => (g.cell Y0).trans ((Below.cell hL2 (p := ⟨w.heap.size, 3, none⟩) s0).trans c0_3)
  have H0_3 : ∀ g : Grown W2, g.w.frozen? ⟨w.heap.size, 3, none⟩ = false := fun g => (g.frozen Y0).trans ((Below.frozen hL2 (p := ⟨w.heap.size, 3, none⟩) s0).trans d0_3)
  have F0_4 : ∀ g : Grown W2, g.w.cell? ⟨w.heap.size, 4, none⟩ = some (.int .i32 x4) := fun g => (g.cell Y0).trans ((Below.cell hL2 (p := ⟨w.heap.size, 4, none⟩) s0).trans c0_4)
  have H0_4 : ∀ g : Grown W2, g.w.frozen? ⟨w.heap.size, 4, none⟩ = false := fun g => (g.frozen Y0).trans ((Below.frozen hL2 (p := ⟨w.heap.size, 4, none⟩) s0).trans d0_4)
  have F0_5 : ∀ g : Grown W2, g.w.cell? ⟨w.heap.size, 5, none⟩ = some (.int .u16 x5) := fun g => (g.cell Y0).trans ((Below.cell hL2 (p := ⟨w.heap.size, 5, none⟩) s0).trans c0_5)
  have H0_5 : ∀ g : Grown W2, g.w.frozen? ⟨w.heap.size, 5, none⟩ = false := fun g => (g.frozen Y0).trans ((Below.frozen hL2 (p := ⟨w.heap.size, 5, none⟩) s0).trans d0_5)
  clear Y0 s0 c0_0 d0_0 c0_1 d0_1 c0_2 d0_2 c0_3 d0_3 c0_4 d0_4 c0_5 d0_5
  have s1 := S1 g2
  have Y1 : w.heap.size + 1 < W2.heap.size := Nat.lt_of_lt_of_le s1 hL2.size
  have c1_0 := F1_0 g2
  have d1_0 := H1_0 g2
  have c1_1 := F1_1 g2
  have d1_1 := H1_1 g2
  clear S1 F1_0 H1_0 F1_1 H1_1
  have S1 : ∀ g : Grown W2, w.heap.size + 1 < g.w.heap.size := fun g => Nat.lt_of_lt_of_le Y1 g.h.size
  have F1_0 : ∀ g : Grown W2, g.w.cell? ⟨w.heap.size + 1, 0, none⟩ = some (.int .i64 y0) := fun g => (g.cell Y1).trans ((Below.cell hL2 (p := ⟨w.heap.size + 1, 0, none⟩) s1).trans c1_0)
  have H1_0 : ∀ g : Grown W2, g.w.frozen? ⟨w.heap.size + 1, 0, none⟩ = false := fun g => (g.frozen Y1).trans ((Below.frozen hL2 (p := ⟨w.heap.size + 1, 0, none⟩) s1).trans d1_0)
  have F1_1 : ∀ g : Grown W2, g.w.cell? ⟨w.heap.size + 1, 1, none⟩ = some (.int .i64 y1) := fun g => (g.cell Y1).trans ((Below.cell hL2 (p := ⟨w.heap.size + 1, 1, none⟩) s1).trans c1_1)
  have H1_1 : ∀ g : Grown W2, g.w.frozen? ⟨w.heap.size + 1, 1, none⟩ = false := fun g => (g.frozen Y1).trans ((Below.frozen hL2 (p := ⟨w.heap.size + 1, 1, none⟩) s1).trans d1_1)
  clear Y1 s1 c1_0 d1_0 c1_1 d1_1
  have s2 := S2 g2
  have Y2 : b0 < W2.heap.size := Nat.lt_of_lt_of_le s2 hL2.size
  have c2_0 := F2_0 g2
  have d2_0 := H2_0 g2
  have c2_1 := F2_1 g2
  have d2_1 := H2_1 g2
  clear S2 F2_0 H2_0 F2_1 H2_1
  have S2 : ∀ g : Grown W2, b0 < g.w.heap.size := fun g => Nat.lt_of_lt_of_le Y2 g.h.size
  have F2_0 : ∀ g : Grown W2, g.w.cell? ⟨b0, 0, none⟩ = some (.int .i64 a) := fun g => (g.cell Y2).trans ((Below.cell hL2 (p := ⟨b0, 0, none⟩) s2).trans c2_0)
  have H2_0 : ∀ g : Grown W2, g.w.frozen? ⟨b0, 0, none⟩ = false := fun g => (g.frozen Y2).trans ((Below.frozen hL2 (p := ⟨b0, 0, none⟩) s2).trans d2_0)
  have F2_1 : ∀ g : Grown W2, g.w.cell? ⟨b0, 1, none⟩ = some (.int .i64 b) := fun g => (g.cell Y2).trans ((Below.cell hL2 (p := ⟨b0, 1, none⟩) s2).trans c2_1)
  have H2_1 : ∀ g : Grown W2, g.w.frozen? ⟨b0, 1, none⟩ = false := fun g => (g.frozen Y2).trans ((Below.frozen hL2 (p := ⟨b0, 1, none⟩) s2).trans d2_1)
  clear Y2 s2 c2_0 d2_0 c2_1 d2_1
  have s3 := S3 g2
  have Y3 : b1 < W2.heap.size := Nat.lt_of_lt_of_le s3 hL2.size
  have c3_0 := F3_0 g2
  have d3_0 := H3_0 g2
  have c3_1 := F3_1 g2
  have d3_1 := H3_1 g2
  clear S3 F3_0 H3_0 F3_1 H3_1
  have S3 : ∀ g : Grown W2, b1 < g.w.heap.size := fun g => Nat.lt_of_lt_of_le Y3 g.h.size
  have F3_0 : ∀ g : Grown W2, g.w.cell? ⟨b1, 0, none⟩ = some (.int .i64 c) := fun g => (g.cell Y3).trans ((Below.cell hL2 (p := ⟨b1, 0, none⟩) s3).trans c3_0)
  have H3_0 : ∀ g : Grown W2, g.w.frozen? ⟨b1, 0, none⟩ = false := fun g => (g.frozen Y3).trans ((Below.frozen hL2 (p := ⟨b1, 0, none⟩) s3).trans d3_0)
  have F3_1 : ∀ g : Grown W2, g.w.cell? ⟨b1, 1, none⟩ = some (.int .i64 d) := fun g => (g.cell Y3).trans ((Below.cell hL2 (p := ⟨b1, 1, none⟩) s3).trans c3_1)
  have H3_1 : ∀ g : Grown W2, g.w.frozen? ⟨b1, 1, none⟩ = false := fun g => (g.frozen Y3).trans ((Below.frozen hL2 (p := ⟨b1, 1, none⟩) s3).trans d3_1)
  clear Y3 s3 c3_0 d3_0 c3_1 d3_1
  have s4 := S4 g2
  have Y4 : b2 < W2.heap.size := Nat.lt_of_lt_of_le s4 hL2.size
  have c4_0 := F4_0 g2
  have d4_0 := H4_0 g2
  have c4_1 := F4_1 g2
  have d4_1 := H4_1 g2
  clear S4 F4_0 H4_0 F4_1 H4_1
  have S4 : ∀ g : Grown W2, b2 < g.w.heap.size := fun g => Nat.lt_of_lt_of_le Y4 g.h.size
  have F4_0 : ∀ g : Grown W2, g.w.cell? ⟨b2, 0, none⟩ = some (.int .i64 i) := fun g => (g.cell Y4).trans ((Below.cell hL2 (p := ⟨b2, 0, none⟩) s4).trans c4_0)
  have H4_0 : ∀ g : Grown W2, g.w.frozen? ⟨b2, 0, none⟩ = false := fun g => (g.frozen Y4).trans ((Below.frozen hL2 (p := ⟨b2, 0, none⟩) s4).trans d4_0)
  have F4_1 : ∀ g : Grown W2, g.w.cell? ⟨b2, 1, none⟩ = some (.int .i64 j) := fun g => (g.cell Y4).trans ((Below.cell hL2 (p := ⟨b2, 1, none⟩) s4).trans c4_1)
  have H4_1 : ∀ g : Grown W2, g.w.frozen? ⟨b2, 1, none⟩ = false := fun g => (g.frozen Y4).trans ((Below.frozen hL2 (p := ⟨b2, 1, none⟩) s4).trans d4_1)
  clear Y4 s4 c4_0 d4_0 c4_1 d4_1
  have Y5 : nb2 < W2.heap.size := by subst hW2; subst hnb2; simp <;> omega
  have S5 : ∀ g : Grown W2, nb2 < g.w.heap.size := fun g => Nat.lt_of_lt_of_le Y5 g.h.size
  have F5_0 : ∀ g : Grown W2, g.w.cell? ⟨nb2, 0, none⟩ = some (.int .i64 l1) := fun g => (g.cell Y5).trans (by subst hW2; subst hnb2; simp [go_sem])
  have H5_0 : ∀ g : Grown W2, g.w.frozen? ⟨nb2, 0, none⟩ = false := fun g => (g.frozen Y5).trans (by subst hW2; subst hnb2; simp [go_sem])
  have F5_1 : ∀ g : Grown W2, g.w.cell? ⟨nb2, 1, none⟩ = some (.int .i64 l2) := fun g => (g.cell Y5).trans (by subst hW2; subst hnb2; simp [go_sem])
  have H5_1 : ∀ g : Grown W2, g.w.frozen? ⟨nb2, 1, none⟩ = false := fun g => (g.frozen Y5).trans (by subst hW2; subst hnb2; simp [go_sem])
  clear Y5
  rw [← hnb2]
  clear hnb2 hW2 hT1 hL2
  obtain ⟨h2, hg2⟩ : ∃ g : Grown W2, W2 = g.w := ⟨⟨W2, Below.refl _ _⟩, rfl⟩
  rw [hg2]
  clear hg2 g2
  refine (hme.out _).mono ?_
  rintro e3 w3 ⟨rfl, hB3⟩
  obtain ⟨g3, rfl⟩ := grow h2 hB3
  clear hB3
  go_wp2_with (fail)
  generalize hW3 : World.alloc g3.w _ = W3
  have hL3 : Below g3.w.heap.size g3.w W3 := by subst hW3; exact ((Below.refl _ _).alloc (by first | omega | (simp <;> omega)) _)
  have hT3 : Below w.heap.size w W3 := below_then (below_then hT2 g3.h) hL3
  obtain ⟨nb3, hnb3⟩ : ∃ nb, nb = g3.w.heap.size := ⟨_, rfl⟩
  have s0 := S0 g3
  have Y0 : w.heap.size < W3.heap.size := Nat.lt_of_lt_of_le s0 hL3.size
  have c0_0 := F0_0 g3
  have d0_0 := H0_0 g3
  have c0_1 := F0_1 g3
  have d0_1 := H0_1 g3
  have c0_2 := F0_2 g3
  have d0_2 := H0_2 g3
  have c0_3 := F0_3 g3
  have d0_3 := H0_3 g3
  have c0_4 := F0_4 g3
  have d0_4 := H0_4 g3
  have c0_5 := F0_5 g3
  have d0_5 := H0_5 g3
  clear S0 F0_0 H0_0 F0_1 H0_1 F0_2 H0_2 F0_3 H0_3 F0_4 H0_4 F0_5 H0_5
  have S0 : ∀ g : Grown W3, w.heap.size < g.w.heap.size := fun g => Nat.lt_of_lt_of_le Y0 g.h.size
  have F0_0 : ∀ g : Grown W3, g.w.cell? ⟨w.heap.size, 0, none⟩ = some (.int .i64 x0) := fun g => (g.cell Y0).trans ((Below.cell hL3 (p := ⟨w.heap.size, 0, none⟩) s0).trans c0_0)
  have H0_0 : ∀ g : Grown W3, g.w.frozen? ⟨w.heap.size, 0, none⟩ = false := fun g => (g.frozen Y0).trans ((Below.frozen hL3 (p := ⟨w.heap.size, 0, none⟩) s0).trans d0_0)
  have F0_1 : ∀ g : Grown W3, g.w.cell? ⟨w.heap.size, 1, none⟩ = some (.int .i64 x1) := fun g => (g.cell Y0).trans ((Below.cell hL3 (p := ⟨w.heap.size, 1, none⟩) s0).trans c0_1)
  have H0_1 : ∀ g : Grown W3, g.w.frozen? ⟨w.heap.size, 1, none⟩ = false := fun g => (g.frozen Y0).trans ((Below.frozen hL3 (p := ⟨w.heap.size, 1, none⟩) s0).trans d0_1)
  have F0_2 : ∀ g : Grown W3, g.w.cell? ⟨w.heap.size, 2, none⟩ = some (.int .i64 x2) := fun g => (g.cell Y0).trans ((Below.cell hL3 (p := ⟨w.heap.size, 2, none⟩) s0).trans c0_2)
  have H0_2 : ∀ g : Grown W3, g.w.frozen? ⟨w.heap.size, 2, none⟩ = false := fun g => (g.frozen Y0).trans ((Below.frozen hL3 (p := ⟨w.heap.size, 2, none⟩) s0).trans d0_2)
  have F0_3 : ∀ g : Grown W3, g.w.cell? ⟨w.heap.size, 3, none⟩ = some (.int .i64 x3) := fun g => (g.cell Y0).trans ((Below.cell hL3 (p := ⟨w.heap.size, 3, none⟩) s0).trans c0_3)
  have H0_3 : ∀ g : Grown W3, g.w.frozen? ⟨w.heap.size, 3, none⟩ = false := fun g => (g.frozen Y0).trans ((Below.frozen hL3 (p := ⟨w.heap.size, 3, none⟩) s0).trans d0_3)
  have F0_4 : ∀ g : Grown W3, g.w.cell? ⟨w.heap.size, 4, none⟩ = some (.int .i32 x4) := fun g => (g.cell Y0).trans ((Below.cell hL3 (p := ⟨w.heap.size, 4, none⟩) s0).trans c0_4)
  have H0_4 : ∀ g : Grown W3, g.w.frozen? ⟨w.heap.size, 4, none⟩ = false := fun g => (g.frozen Y0).trans ((Below.frozen hL3 (p := ⟨w.heap.size, 4, none⟩) s0).trans d0_4)
  have F0_5 : ∀ g : Grown W3, g.w.cell? ⟨w.heap.size, 5, none⟩ = some (.int .u16 x5) := fun g => (g.cell Y0).trans ((Below.cell hL3 (p := ⟨w.heap.size, 5, none⟩) s0).trans c0_5)
  have H0_5 : ∀ g : Grown W3, g.w.frozen? ⟨w.heap.size, 5, none⟩ = false := fun g => (g.frozen Y0).trans ((Below.frozen hL3 (p := ⟨w.heap.size, 5, none⟩) s0).trans d0_5)
  clear Y0 s0 c0_0 d0_0 c0_1 d0_1 c0_2 d0_2 c0_3 d0_3 c0_4 d0_4 c0_5 d0_5
  have s1 := S1 g3
  have Y1 : w.heap.size + 1 < W3.heap.size := Nat.lt_of_lt_of_le s1 hL3.size
  have c1_0 := F1_0 g3
  have d1_0 := H1_0 g3
  have c1_1 := F1_1 g3
  have d1_1 := H1_1 g3
  clear S1 F1_0 H1_0 F1_1 H1_1
  have S1 : ∀ g : Grown W3, w.heap.size + 1 < g.w.heap.size := fun g => Nat.lt_of_lt_of_le Y1 g.h.size
  have F1_0 : ∀ g : Grown W3, g.w.cell? ⟨w.heap.size + 1, 0, none⟩ = some (.int .i64 y0) := fun g => (g.cell Y1).trans ((Below.cell hL3 (p := ⟨w.heap.size + 1, 0, none⟩) s1).trans c1_0)
  have H1_0 : ∀ g : Grown W3, g.w.frozen? ⟨w.heap.size + 1, 0, none⟩ = false := fun g => (g.frozen Y1).trans ((Below.frozen hL3 (p := ⟨w.heap.size + 1, 0, none⟩) s1).trans d1_0)
  have F1_1 : ∀ g : Grown W3, g.w.cell? ⟨w.heap.size + 1, 1, none⟩ = some (.int .i64 y1) := fun g => (g.cell Y1).trans ((Below.cell hL3 (p := ⟨w.heap.size + 1, 1, none⟩) s1).trans c1_1)
  have H1_1 : ∀ g : Grown W3, g.w.frozen? ⟨w.heap.size + 1, 1, none⟩ = false := fun g => (g.frozen Y1).trans ((Below.frozen hL3 (p := ⟨w.heap.size + 1, 1, none⟩) s1).trans d1_1)
  clear Y1 s1 c1_0 d1_0 c1_1 d1_1
  have s2 := S2 g3
  have Y2 : b0 < W3.heap.size := Nat.lt_of_lt_of_le s2 hL3.size
  have c2_0 := F2_0 g3
  have d2_0 := H2_0 g3
  have c2_1 := F2_1 g3
  have d2_1 := H2_1 g3
  clear S2 F2_0 H2_0 F2_1 H2_1
  have S2 : ∀ g : Grown W3, b0 < g.w.heap.size := fun g => Nat.lt_of_lt_of_le Y2 g.h.size
  have F2_0 : ∀ g : Grown W3, g.w.cell? ⟨b0, 0, none⟩ = some (.int .i64 a) := fun g => (g.cell Y2).trans ((Below.cell hL3 (p := ⟨b0, 0, none⟩) s2).trans c2_0)
  have H2_0 : ∀ g : Grown W3, g.w.frozen? ⟨b0, 0, none⟩ = false := fun g => (g.frozen Y2).trans ((Below.frozen hL3 (p := ⟨b0, 0, none⟩) s2).trans d2_0)
  have F2_1 : ∀ g : Grown W3, g.w.cell? ⟨b0, 1, none⟩ = some (.int .i64 b) := fun g => (g.cell Y2).trans ((Below.cell hL3 (p := ⟨b0, 1, none⟩) s2).trans c2_1)
  have H2_1 : ∀ g : Grown W3, g.w.frozen? ⟨b0, 1, none⟩ = false := fun g => (g.frozen Y2).trans ((Below.frozen hL3 (p := ⟨b0, 1, none⟩) s2).trans d2_1)
  clear Y2 s2 c2_0 d2_0 c2_1 d2_1
  have s3 := S3 g3
  have Y3 : b1 < W3.heap.size := Nat.lt_of_lt_of_le s3 hL3.size
  have c3_0 := F3_0 g3
  have d3_0 := H3_0 g3
  have c3_1 := F3_1 g3
  have d3_1 := H3_1 g3
  clear S3 F3_0 H3_0 F3_1 H3_1
  have S3 : ∀ g : Grown W3, b1 < g.w.heap.size := fun g => Nat.lt_of_lt_of_le Y3 g.h.size
  have F3_0 : ∀ g : Grown W3, g.w.cell? ⟨b1, 0, none⟩ = some (.int .i64 c) := fun g => (g.cell Y3).trans ((Below.cell hL3 (p := ⟨b1, 0, none⟩) s3).trans c3_0)
  have H3_0 : ∀ g : Grown W3, g.w.frozen? ⟨b1, 0, none⟩ = false := fun g => (g.frozen Y3).trans ((Below.frozen hL3 (p := ⟨b1, 0, none⟩) s3).trans d3_0)
  have F3_1 : ∀ g : Grown W3, g.w.cell? ⟨b1, 1, none⟩ = some (.int .i64 d) := fun g => (g.cell Y3).trans ((Below.cell hL3 (p := ⟨b1, 1, none⟩) s3).trans c3_1)
  have H3_1 : ∀ g : Grown W3, g.w.frozen? ⟨b1, 1, none⟩ = false := fun g => (g.frozen Y3).trans ((Below.frozen hL3 (p := ⟨b1, 1, none⟩) s3).trans d3_1)
  clear Y3 s3 c3_0 d3_0 c3_1 d3_1
  have s4 := S4 g3
  have Y4 : b2 < W3.heap.size := Nat.lt_of_lt_of_le s4 hL3.size
  have c4_0 := F4_0 g3
  have d4_0 := H4_0 g3
  have c4_1 := F4_1 g3
  have d4_1 := H4_1 g3
  clear S4 F4_0 H4_0 F4_1 H4_1
  have S4 : ∀ g : Grown W3, b2 < g.w.heap.size := fun g => Nat.lt_of_lt_of_le Y4 g.h.size
  have F4_0 : ∀ g : Grown W3, g.w.cell? ⟨b2, 0, none⟩ = some (.int .i64 i) := fun g => (g.cell Y4).trans ((Below.cell hL3 (p := ⟨b2, 0, none⟩) s4).trans c4_0)
  have H4_0 : ∀ g : Grown W3, g.w.frozen? ⟨b2, 0, none⟩ = false := fun g => (g.frozen Y4).trans ((Below.frozen hL3 (p := ⟨b2, 0, none⟩) s4).trans d4_0)
  have F4_1 : ∀ g : Grown W3, g.w.cell? ⟨b2, 1, none⟩ = some (.int .i64 j) := fun g => (g.cell Y4).trans ((Below.cell hL3 (p := ⟨b2, 1, none⟩) s4).trans c4_1)
  have H4_1 : ∀ g : Grown W3, g.w.frozen? ⟨b2, 1, none⟩ = false := fun g => (g.frozen Y4).trans ((Below.frozen hL3 (p := ⟨b2, 1, none⟩) s4).trans d4_1)
  clear Y4 s4 c4_0 d4_0 c4_1 d4_1
  have s5 := S5 g3
  have Y5 : nb2 < W3.heap.size := Nat.lt_of_lt_of_le s5 hL3.size
  have c5_0 := F5_0 g3
  have d5_0 := H5_0 g3
  have c5_1 := F5_1 g3
  have d5_1 := H5_1 g3
  clear S5 F5_0 H5_0 F5_1 H5_1
  have S5 : ∀ g : Grown W3, nb2 < g.w.heap.size := fun g => Nat.lt_of_lt_of_le Y5 g.h.size
  have F5_0 : ∀ g : Grown W3, g.w.cell? ⟨nb2, 0, none⟩ = some (.int .i64 l1) := fun g => (g.cell Y5).trans ((Below.cell hL3 (p := ⟨nb2, 0, none⟩) s5).trans c5_0)
  have H5_0 : ∀ g : Grown W3, g.w.frozen? ⟨nb2, 0, none⟩ = false := fun g => (g.frozen Y5).trans ((Below.frozen hL3 (p := ⟨nb2, 0, none⟩) s5).trans d5_0)
  have F5_1 : ∀ g : Grown W3, g.w.cell? ⟨nb2, 1, none⟩ = some (.int .i64 l2) := fun g => (g.cell Y5).trans ((Below.cell hL3 (p := ⟨nb2, 1, none⟩) s5).trans c5_1)
  have H5_1 : ∀ g : Grown W3, g.w.frozen? ⟨nb2, 1, none⟩ = false := fun g => (g.frozen Y5).trans ((Below.frozen hL3 (p := ⟨nb2, 1, none⟩) s5).trans d5_1)
  clear Y5 s5 c5_0 d5_0 c5_1 d5_1
  have Y6 : nb3 < W3.heap.size := by subst hW3; subst hnb3; simp <;> omega
  have S6 : ∀ g : Grown W3, nb3 < g.w.heap.size := fun g => Nat.lt_of_lt_of_le Y6 g.h.size
  have F6_0 : ∀ g : Grown W3, g.w.cell? ⟨nb3, 0, none⟩ = some (.int .i64 m1) := fun g => (g.cell Y6).trans (by subst hW3; subst hnb3; simp [go_sem])
  have H6_0 : ∀ g : Grown W3, g.w.frozen? ⟨nb3, 0, none⟩ = false := fun g => (g.frozen Y6).trans (by subst hW3; subst hnb3; simp [go_sem])
  have F6_1 : ∀ g : Grown W3, g.w.cell? ⟨nb3, 1, none⟩ = some (.int .i64 m2) := fun g => (g.cell Y6).trans (by subst hW3; subst hnb3; simp [go_sem])
  have H6_1 : ∀ g : Grown W3, g.w.frozen? ⟨nb3, 1, none⟩ = false := fun g => (g.frozen Y6).trans (by subst hW3; subst hnb3; simp [go_sem])
  clear Y6
  rw [← hnb3]
  clear hnb3 hW3 hT2 hL3
  obtain ⟨h3, hg3⟩ : ∃ g : Grown W3, W3 = g.w := ⟨⟨W3, Below.refl _ _⟩, rfl⟩
  rw [hg3]
  clear hg3 g3
  go_wp2_with (fail)
  go_cut [85] from 39 to 84 (fun s w' => s = .bool false ∧ ∃ g : Grown W3, w' = g.w)
  case first =>
    cases r1 with
    | false =>
      refine region_quiet' h3 (by kernel_rfl) (by kernel_rfl) ?_
      repeat (go_big_quiet_step (first | (go_at_call 22; exact qc (same_yes _ _ _)) | exact qc (ht1.out _) | exact qc (ht2.out _) | exact qc (ht3.out _) | exact qc (ht4.out _) | exact qc (ht6.out _) | exact qc (ht7.out _) | exact qc (ht8.out _)))
      refine wpQuiet_nil ?_
      rintro _ ⟨gx, rfl⟩
      go_wp2_with (fail)
      go_meet
      exact ⟨rfl, gx, rfl⟩
    | true =>
      cases r2 with
      | false =>
        refine region_quiet' h3 (by kernel_rfl) (by kernel_rfl) ?_
        repeat (go_big_quiet_step (first | (go_at_call 22; exact qc (same_yes _ _ _)) | exact qc (ht1.out _) | exact qc (ht2.out _) | exact qc (ht3.out _) | exact qc (ht4.out _) | exact qc (ht6.out _) | exact qc (ht7.out _) | exact qc (ht8.out _)))
        refine wpQuiet_nil ?_
        rintro _ ⟨gx, rfl⟩
        go_wp2_with (fail)
        go_meet
        exact ⟨rfl, gx, rfl⟩
      | true =>
        have ht5' := Lib.hid (ht5.out rfl rfl)
        refine region_quiet' h3 (by kernel_rfl) (by kernel_rfl) ?_
        repeat (go_big_quiet_step (first | (go_at_call 22; exact qc (same_yes _ _ _)) | exact qc (ht1.out _) | exact qc (ht2.out _) | exact qc (ht3.out _) | exact qc (ht4.out _) | exact qc (ht6.out _) | exact qc (ht7.out _) | exact qc (ht8.out _) | exact qc (ht5'.out _)))
        refine wpQuiet_nil ?_
        rintro _ ⟨gx, rfl⟩
        go_wp2_with (fail)
        go_meet
        exact ⟨rfl, gx, rfl⟩
  case rest =>
  obtain ⟨rfl, g60, rfl⟩ := hcut
  go_upto_region 8 with (fail)
  go_cut [120] from 86 to 119 (fun s w' => s = .bool false ∧ ∃ g : Grown W3, w' = g.w)
  case first =>
    cases is with
    | false =>
      have z := hz2.out rfl
      cases v1 with
      | false =>
        clear z
        refine wp_region_lit ?_
        refine list_quiet g60 ?_
        repeat (go_big_quiet_step (first | (go_at_call 22; exact qc (same_yes _ _ _)) | exact qc (hk1.out _) | exact qc (hk2.out _) | exact qc (hk3.out _)))
        refine wpQuiet_nil ?_
        rintro _ ⟨gx, rfl⟩
        go_wp2_with (fail)
        go_meet
        exact ⟨rfl, gx, rfl⟩
      | true =>
        obtain rfl : v2 = false := by simpa using z
        clear z
        refine wp_region_lit ?_
        refine list_quiet g60 ?_
        repeat (go_big_quiet_step (first | (go_at_call 22; exact qc (same_yes _ _ _)) | exact qc (hk1.out _) | exact qc (hk2.out _) | exact qc (hk3.out _)))
        refine wpQuiet_nil ?_
        rintro _ ⟨gx, rfl⟩
        go_wp2_with (fail)
        go_meet
        exact ⟨rfl, gx, rfl⟩
    | true =>
      have z := hz1.out rfl
      have hk4' := Lib.hid (hk4.out rfl)
      have hk5' := Lib.hid (hk5.out rfl)
      have hk6' := Lib.hid (hk6.out rfl)
      cases v1 with
      | false =>
        obtain rfl : v3 = false := by simpa using z
        clear z
        refine wp_region_lit ?_
        refine list_quiet g60 ?_
        repeat (go_big_quiet_step (first | (go_at_call 22; exact qc (same_yes _ _ _)) | exact qc (hk1.out _) | exact qc (hk2.out _) | exact qc (hk3.out _) | exact qc (hk4'.out _) | exact qc (hk5'.out _) | exact qc (hk6'.out _)))
        refine wpQuiet_nil ?_
        rintro _ ⟨gx, rfl⟩
        go_wp2_with (fail)
        go_meet
        exact ⟨rfl, gx, rfl⟩
      | true =>
        cases v2 with
        | false =>
          obtain rfl : v3 = false := by simpa using z
          clear z
          refine wp_region_lit ?_
          refine list_quiet g60 ?_
          repeat (go_big_quiet_step (first | (go_at_call 22; exact qc (same_yes _ _ _)) | exact qc (hk1.out _) | exact qc (hk2.out _) | exact qc (hk3.out _) | exact qc (hk4'.out _) | exact qc (hk5'.out _) | exact qc (hk6'.out _)))
          refine wpQuiet_nil ?_
          rintro _ ⟨gx, rfl⟩
          go_wp2_with (fail)
          go_meet
          exact ⟨rfl, gx, rfl⟩
        | true =>
          obtain rfl : v3 = true := by simpa using z
          clear z
          refine wp_region_lit ?_
          refine list_quiet g60 ?_
          repeat (go_big_quiet_step (first | (go_at_call 22; exact qc (same_yes _ _ _)) | exact qc (hk1.out _) | exact qc (hk2.out _) | exact qc (hk3.out _) | exact qc (hk4'.out _) | exact qc (hk5'.out _) | exact qc (hk6'.out _)))
          refine wpQuiet_nil ?_
          rintro _ ⟨gx, rfl⟩
          go_wp2_with (fail)
          go_meet
          exact ⟨rfl, gx, rfl⟩
  case rest =>
  obtain ⟨rfl, g80, rfl⟩ := hcut
  go_wp2_with (fail)
  refine (hn1.out _).mono ?_
  rintro e4 w4 ⟨rfl, hB4⟩
  obtain ⟨g4, rfl⟩ := grow g80 hB4
  clear hB4
  go_wp2_with (fail)
  generalize hW4 : World.alloc g4.w _ = W4
  have hL4 : Below g4.w.heap.size g4.w W4 := by subst hW4; exact ((Below.refl _ _).alloc (by first | omega | (simp <;> omega)) _)
  have hT4 : Below w.heap.size w W4 := below_then (below_then hT3 g4.h) hL4
  obtain ⟨nb4, hnb4⟩ : ∃ nb, nb = g4.w.heap.size := ⟨_, rfl⟩
  have s0 := S0 g4
  have Y0 : w.heap.size < W4.heap.size := Nat.lt_of_lt_of_le s0 hL4.size
  have c0_0 := F0_0 g4
  have d0_0 := H0_0 g4
  have c0_1 := F0_1 g4
  have d0_1 := H0_1 g4
  have c0_2 := F0_2 g4
  have d0_2 := H0_2 g4
  have c0_3 := F0_3 g4
  have d0_3 := H0_3 g4
  have c0_4 := F0_4 g4
  have d0_4 := H0_4 g4
  have c0_5 := F0_5 g4
  have d0_5 := H0_5 g4
  clear S0 F0_0 H0_0 F0_1 H0_1 F0_2 H0_2 F0_3 H0_3 F0_4 H0_4 F0_5 H0_5
  have S0 : ∀ g : Grown W4, w.heap.size < g.w.heap.size := fun g => Nat.lt_of_lt_of_le Y0 g.h.size
  have F0_0 : ∀ g : Grown W4, g.w.cell? ⟨w.heap.size, 0, none⟩ = some (.int .i64 x0) := fun g => (g.cell Y0).trans ((Below.cell hL4 (p := ⟨w.heap.size, 0, none⟩) s0).trans c0_0)
  have H0_0 : ∀ g : Grown W4, g.w.frozen? ⟨w.heap.size, 0, none⟩ = false := fun g => (g.frozen Y0).trans ((Below.frozen hL4 (p := ⟨w.heap.size, 0, none⟩) s0).trans d0_0)
  have F0_1 : ∀ g : Grown W4, g.w.cell? ⟨w.heap.size, 1, none⟩ = some (.int .i64 x1) := fun g => (g.cell Y0).trans ((Below.cell hL4 (p := ⟨w.heap.size, 1, none⟩) s0).trans c0_1)
  have H0_1 : ∀ g : Grown W4, g.w.frozen? ⟨w.heap.size, 1, none⟩ = false := fun g => (g.frozen Y0).trans ((Below.frozen hL4 (p := ⟨w.heap.size, 1, none⟩) s0).trans d0_1)
  have F0_2 : ∀ g : Grown W4, g.w.cell? ⟨w.heap.size, 2, none⟩ = some (.int .i64 x2) := fun g => (g.cell Y0).trans ((Below.cell hL4 (p := ⟨w.heap.size, 2, none⟩) s0).trans c0_2)
  have H0_2 : ∀ g : Grown W4, g.w.frozen? ⟨w.heap.size, 2, none⟩ = false := fun g => (g.frozen Y0).trans ((Below.frozen hL4 (p := ⟨w.heap.size, 2, none⟩) s0).trans d0_2)
  have F0_3 : ∀ g : Grown W4, g.w.cell? ⟨w.heap.size, 3, none⟩ = some (.int .i64 x3) := fun g => (g.cell Y0).trans ((Below.cell hL4 (p := ⟨w.heap.size, 3, none⟩) s0).trans c0_3)
  have H0_3 : ∀ g : Grown W4, g.w.frozen? ⟨w.heap.size, 3, none⟩ = false := fun g => (g.frozen Y0).trans ((Below.frozen hL4 (p := ⟨w.heap.size, 3, none⟩) s0).trans d0_3)
  have F0_4 : ∀ g : Grown W4, g.w.cell? ⟨w.heap.size, 4, none⟩ = some (.int .i32 x4) := fun g => (g.cell Y0).trans ((Below.cell hL4 (p := ⟨w.heap.size, 4, none⟩) s0).trans c0_4)
  have H0_4 : ∀ g : Grown W4, g.w.frozen? ⟨w.heap.size, 4, none⟩ = false := fun g => (g.frozen Y0).trans ((Below.frozen hL4 (p := ⟨w.heap.size, 4, none⟩) s0).trans d0_4)
  have F0_5 : ∀ g : Grown W4, g.w.cell? ⟨w.heap.size, 5, none⟩ = some (.int .u16 x5) := fun g => (g.cell Y0).trans ((Below.cell hL4 (p := ⟨w.heap.size, 5, none⟩) s0).trans c0_5)
  have H0_5 : ∀ g : Grown W4, g.w.frozen? ⟨w.heap.size, 5, none⟩ = false := fun g => (g.frozen Y0).trans ((Below.frozen hL4 (p := ⟨w.heap.size, 5, none⟩) s0).trans d0_5)
  clear Y0 s0 c0_0 d0_0 c0_1 d0_1 c0_2 d0_2 c0_3 d0_3 c0_4 d0_4 c0_5 d0_5
  have s1 := S1 g4
  have Y1 : w.heap.size + 1 < W4.heap.size := Nat.lt_of_lt_of_le s1 hL4.size
  have c1_0 := F1_0 g4
  have d1_0 := H1_0 g4
  have c1_1 := F1_1 g4
  have d1_1 := H1_1 g4
  clear S1 F1_0 H1_0 F1_1 H1_1
  have S1 : ∀ g : Grown W4, w.heap.size + 1 < g.w.heap.size := fun g => Nat.lt_of_lt_of_le Y1 g.h.size
  have F1_0 : ∀ g : Grown W4, g.w.cell? ⟨w.heap.size + 1, 0, none⟩ = some (.int .i64 y0) := fun g => (g.cell Y1).trans ((Below.cell hL4 (p := ⟨w.heap.size + 1, 0, none⟩) s1).trans c1_0)
  have H1_0 : ∀ g : Grown W4, g.w.frozen? ⟨w.heap.size + 1, 0, none⟩ = false := fun g => (g.frozen Y1).trans ((Below.frozen hL4 (p := ⟨w.heap.size + 1, 0, none⟩) s1).trans d1_0)
  have F1_1 : ∀ g : Grown W4, g.w.cell? ⟨w.heap.size + 1, 1, none⟩ = some (.int .i64 y1) := fun g => (g.cell Y1).trans ((Below.cell hL4 (p := ⟨w.heap.size + 1, 1, none⟩) s1).trans c1_1)
  have H1_1 : ∀ g : Grown W4, g.w.frozen? ⟨w.heap.size + 1, 1, none⟩ = false := fun g => (g.frozen Y1).trans ((Below.frozen hL4 (p := ⟨w.heap.size + 1, 1, none⟩) s1).trans d1_1)
  clear Y1 s1 c1_0 d1_0 c1_1 d1_1
  have s2 := S2 g4
  have Y2 : b0 < W4.heap.size := Nat.lt_of_lt_of_le s2 hL4.size
  have c2_0 := F2_0 g4
  have d2_0 := H2_0 g4
  have c2_1 := F2_1 g4
  have d2_1 := H2_1 g4
  clear S2 F2_0 H2_0 F2_1 H2_1
  have S2 : ∀ g : Grown W4, b0 < g.w.heap.size := fun g => Nat.lt_of_lt_of_le Y2 g.h.size
  have F2_0 : ∀ g : Grown W4, g.w.cell? ⟨b0, 0, none⟩ = some (.int .i64 a) := fun g => (g.cell Y2).trans ((Below.cell hL4 (p := ⟨b0, 0, none⟩) s2).trans c2_0)
  have H2_0 : ∀ g : Grown W4, g.w.frozen? ⟨b0, 0, none⟩ = false := fun g => (g.frozen Y2).trans ((Below.frozen hL4 (p := ⟨b0, 0, none⟩) s2).trans d2_0)
  have F2_1 : ∀ g : Grown W4, g.w.cell? ⟨b0, 1, none⟩ = some (.int .i64 b) := fun g => (g.cell Y2).trans ((Below.cell hL4 (p := ⟨b0, 1, none⟩) s2).trans c2_1)
  have H2_1 : ∀ g : Grown W4, g.w.frozen? ⟨b0, 1, none⟩ = false := fun g => (g.frozen Y2).trans ((Below.frozen hL4 (p := ⟨b0, 1, none⟩) s2).trans d2_1)
  clear Y2 s2 c2_0 d2_0 c2_1 d2_1
  have s3 := S3 g4
  have Y3 : b1 < W4.heap.size := Nat.lt_of_lt_of_le s3 hL4.size
  have c3_0 := F3_0 g4
  have d3_0 := H3_0 g4
  have c3_1 := F3_1 g4
  have d3_1 := H3_1 g4
  clear S3 F3_0 H3_0 F3_1 H3_1
  have S3 : ∀ g : Grown W4, b1 < g.w.heap.size := fun g => Nat.lt_of_lt_of_le Y3 g.h.size
  have F3_0 : ∀ g : Grown W4, g.w.cell? ⟨b1, 0, none⟩ = some (.int .i64 c) := fun g => (g.cell Y3).trans ((Below.cell hL4 (p := ⟨b1, 0, none⟩) s3).trans c3_0)
  have H3_0 : ∀ g : Grown W4, g.w.frozen? ⟨b1, 0, none⟩ = false := fun g => (g.frozen Y3).trans ((Below.frozen hL4 (p := ⟨b1, 0, none⟩) s3).trans d3_0)
  have F3_1 : ∀ g : Grown W4, g.w.cell? ⟨b1, 1, none⟩ = some (.int .i64 d) := fun g => (g.cell Y3).trans ((Below.cell hL4 (p := ⟨b1, 1, none⟩) s3).trans c3_1)
  have H3_1 : ∀ g : Grown W4, g.w.frozen? ⟨b1, 1, none⟩ = false := fun g => (g.frozen Y3).trans ((Below.frozen hL4 (p := ⟨b1, 1, none⟩) s3).trans d3_1)
  clear Y3 s3 c3_0 d3_0 c3_1 d3_1
  have s4 := S4 g4
  have Y4 : b2 < W4.heap.size := Nat.lt_of_lt_of_le s4 hL4.size
  have c4_0 := F4_0 g4
  have d4_0 := H4_0 g4
  have c4_1 := F4_1 g4
  have d4_1 := H4_1 g4
  clear S4 F4_0 H4_0 F4_1 H4_1
  have S4 : ∀ g : Grown W4, b2 < g.w.heap.size := fun g => Nat.lt_of_lt_of_le Y4 g.h.size
  have F4_0 : ∀ g : Grown W4, g.w.cell? ⟨b2, 0, none⟩ = some (.int .i64 i) := fun g => (g.cell Y4).trans ((Below.cell hL4 (p := ⟨b2, 0, none⟩) s4).trans c4_0)
  have H4_0 : ∀ g : Grown W4, g.w.frozen? ⟨b2, 0, none⟩ = false := fun g => (g.frozen Y4).trans ((Below.frozen hL4 (p := ⟨b2, 0, none⟩) s4).trans d4_0)
  have F4_1 : ∀ g : Grown W4, g.w.cell? ⟨b2, 1, none⟩ = some (.int .i64 j) := fun g => (g.cell Y4).trans ((Below.cell hL4 (p := ⟨b2, 1, none⟩) s4).trans c4_1)
  have H4_1 : ∀ g : Grown W4, g.w.frozen? ⟨b2, 1, none⟩ = false := fun g => (g.frozen Y4).trans ((Below.frozen hL4 (p := ⟨b2, 1, none⟩) s4).trans d4_1)
  clear Y4 s4 c4_0 d4_0 c4_1 d4_1
  have s5 := S5 g4
  have Y5 : nb2 < W4.heap.size := Nat.lt_of_lt_of_le s5 hL4.size
  have c5_0 := F5_0 g4
  have d5_0 := H5_0 g4
  have c5_1 := F5_1 g4
  have d5_1 := H5_1 g4
  clear S5 F5_0 H5_0 F5_1 H5_1
  have S5 : ∀ g : Grown W4, nb2 < g.w.heap.size := fun g => Nat.lt_of_lt_of_le Y5 g.h.size
  have F5_0 : ∀ g : Grown W4, g.w.cell? ⟨nb2, 0, none⟩ = some (.int .i64 l1) := fun g => (g.cell Y5).trans ((Below.cell hL4 (p := ⟨nb2, 0, none⟩) s5).trans c5_0)
  have H5_0 : ∀ g : Grown W4, g.w.frozen? ⟨nb2, 0, none⟩ = false := fun g => (g.frozen Y5).trans ((Below.frozen hL4 (p := ⟨nb2, 0, none⟩) s5).trans d5_0)
  have F5_1 : ∀ g : Grown W4, g.w.cell? ⟨nb2, 1, none⟩ = some (.int .i64 l2) := fun g => (g.cell Y5).trans ((Below.cell hL4 (p := ⟨nb2, 1, none⟩) s5).trans c5_1)
  have H5_1 : ∀ g : Grown W4, g.w.frozen? ⟨nb2, 1, none⟩ = false := fun g => (g.frozen Y5).trans ((Below.frozen hL4 (p := ⟨nb2, 1, none⟩) s5).trans d5_1)
  clear Y5 s5 c5_0 d5_0 c5_1 d5_1
  have s6 := S6 g4
  have Y6 : nb3 < W4.heap.size := Nat.lt_of_lt_of_le s6 hL4.size
  have c6_0 := F6_0 g4
  have d6_0 := H6_0 g4
  have c6_1 := F6_1 g4
  have d6_1 := H6_1 g4
  clear S6 F6_0 H6_0 F6_1 H6_1
  have S6 : ∀ g : Grown W4, nb3 < g.w.heap.size := fun g => Nat.lt_of_lt_of_le Y6 g.h.size
  have F6_0 : ∀ g : Grown W4, g.w.cell? ⟨nb3, 0, none⟩ = some (.int .i64 m1) := fun g => (g.cell Y6).trans ((Below.cell hL4 (p := ⟨nb3, 0, none⟩) s6).trans c6_0)
  have H6_0 : ∀ g : Grown W4, g.w.frozen? ⟨nb3, 0, none⟩ = false := fun g => (g.frozen Y6).trans ((Below.frozen hL4 (p := ⟨nb3, 0, none⟩) s6).trans d6_0)
  have F6_1 : ∀ g : Grown W4, g.w.cell? ⟨nb3, 1, none⟩ = some (.int .i64 m2) := fun g => (g.cell Y6).trans ((Below.cell hL4 (p := ⟨nb3, 1, none⟩) s6).trans c6_1)
  have H6_1 : ∀ g : Grown W4, g.w.frozen? ⟨nb3, 1, none⟩ = false := fun g => (g.frozen Y6).trans ((Below.frozen hL4 (p := ⟨nb3, 1, none⟩) s6).trans d6_1)
  clear Y6 s6 c6_0 d6_0 c6_1 d6_1
  have Y7 : nb4 < W4.heap.size := by subst hW4; subst hnb4; simp <;> omega
  have S7 : ∀ g : Grown W4, nb4 < g.w.heap.size := fun g => Nat.lt_of_lt_of_le Y7 g.h.size
  have F7_0 : ∀ g : Grown W4, g.w.cell? ⟨nb4, 0, none⟩ = some (.int .i64 m1) := fun g => (g.cell Y7).trans (by subst hW4; subst hnb4; simp [go_sem])
  have H7_0 : ∀ g : Grown W4, g.w.frozen? ⟨nb4, 0, none⟩ = false := fun g => (g.frozen Y7).trans (by subst hW4; subst hnb4; simp [go_sem])
  have F7_1 : ∀ g : Grown W4, g.w.cell? ⟨nb4, 1, none⟩ = some (.int .i64 m2) := fun g => (g.cell Y7).trans (by subst hW4; subst hnb4; simp [go_sem])
  have H7_1 : ∀ g : Grown W4, g.w.frozen? ⟨nb4, 1, none⟩ = false := fun g => (g.frozen Y7).trans (by subst hW4; subst hnb4; simp [go_sem])
  clear Y7
  rw [← hnb4]
  clear hnb4 hW4 hT3 hL4
  obtain ⟨h4, hg4⟩ : ∃ g : Grown W4, W4 = g.w := ⟨⟨W4, Below.refl _ _⟩, rfl⟩
  rw [hg4]
  clear hg4 g4
  refine (hn2.out _).mono ?_
  rintro e5 w5 ⟨rfl, hB5⟩
  obtain ⟨g5, rfl⟩ := grow h4 hB5
  clear hB5
  go_wp2_with (fail)
  generalize hW5 : World.alloc g5.w _ = W5
  have hL5 : Below g5.w.heap.size g5.w W5 := by subst hW5; exact ((Below.refl _ _).alloc (by first | omega | (simp <;> omega)) _)
  have hT5 : Below w.heap.size w W5 := below_then (below_then hT4 g5.h) hL5
  obtain ⟨nb5, hnb5⟩ : ∃ nb, nb = g5.w.heap.size := ⟨_, rfl⟩
  have s0 := S0 g5
  have Y0 : w.heap.size < W5.heap.size := Nat.lt_of_lt_of_le s0 hL5.size
  have c0_0 := F0_0 g5
  have d0_0 := H0_0 g5
  have c0_1 := F0_1 g5
  have d0_1 := H0_1 g5
  have c0_2 := F0_2 g5
  have d0_2 := H0_2 g5
  have c0_3 := F0_3 g5
  have d0_3 := H0_3 g5
  have c0_4 := F0_4 g5
  have d0_4 := H0_4 g5
  have c0_5 := F0_5 g5
  have d0_5 := H0_5 g5
  clear S0 F0_0 H0_0 F0_1 H0_1 F0_2 H0_2 F0_3 H0_3 F0_4 H0_4 F0_5 H0_5
  have S0 : ∀ g : Grown W5, w.heap.size < g.w.heap.size := fun g => Nat.lt_of_lt_of_le Y0 g.h.size
  have F0_0 : ∀ g : Grown W5, g.w.cell? ⟨w.heap.size, 0, none⟩ = some (.int .i64 x0) := fun g => (g.cell Y0).trans ((Below.cell hL5 (p := ⟨w.heap.size, 0, none⟩) s0).trans c0_0)
  have H0_0 : ∀ g : Grown W5, g.w.frozen? ⟨w.heap.size, 0, none⟩ = false := fun g => (g.frozen Y0).trans ((Below.frozen hL5 (p := ⟨w.heap.size, 0, none⟩) s0).trans d0_0)
  have F0_1 : ∀ g : Grown W5, g.w.cell? ⟨w.heap.size, 1, none⟩ = some (.int .i64 x1) := fun g => (g.cell Y0).trans ((Below.cell hL5 (p := ⟨w.heap.size, 1, none⟩) s0).trans c0_1)
  have H0_1 : ∀ g : Grown W5, g.w.frozen? ⟨w.heap.size, 1, none⟩ = false := fun g => (g.frozen Y0).trans ((Below.frozen hL5 (p := ⟨w.heap.size, 1, none⟩) s0).trans d0_1)
  have F0_2 : ∀ g : Grown W5, g.w.cell? ⟨w.heap.size, 2, none⟩ = some (.int .i64 x2) := fun g => (g.cell Y0).trans ((Below.cell hL5 (p := ⟨w.heap.size, 2, none⟩) s0).trans c0_2)
  have H0_2 : ∀ g : Grown W5, g.w.frozen? ⟨w.heap.size, 2, none⟩ = false := fun g => (g.frozen Y0).trans ((Below.frozen hL5 (p := ⟨w.heap.size, 2, none⟩) s0).trans d0_2)
  have F0_3 : ∀ g : Grown W5, g.w.cell? ⟨w.heap.size, 3, none⟩ = some (.int .i64 x3) := fun g => (g.cell Y0).trans ((Below.cell hL5 (p := ⟨w.heap.size, 3, none⟩) s0).trans c0_3)
  have H0_3 : ∀ g : Grown W5, g.w.frozen? ⟨w.heap.size, 3, none⟩ = false := fun g => (g.frozen Y0).trans ((Below.frozen hL5 (p := ⟨w.heap.size, 3, none⟩) s0).trans d0_3)
  have F0_4 : ∀ g : Grown W5, g.w.cell? ⟨w.heap.size, 4, none⟩ = some (.int .i32 x4) := fun g => (g.cell Y0).trans ((Below.cell hL5 (p := ⟨w.heap.size, 4, none⟩) s0).trans c0_4)
  have H0_4 : ∀ g : Grown W5, g.w.frozen? ⟨w.heap.size, 4, none⟩ = false := fun g => (g.frozen Y0).trans ((Below.frozen hL5 (p := ⟨w.heap.size, 4, none⟩) s0).trans d0_4)
  have F0_5 : ∀ g : Grown W5, g.w.cell? ⟨w.heap.size, 5, none⟩ = some (.int .u16 x5) := fun g => (g.cell Y0).trans ((Below.cell hL5 (p := ⟨w.heap.size, 5, none⟩) s0).trans c0_5)
  have H0_5 : ∀ g : Grown W5, g.w.frozen? ⟨w.heap.size, 5, none⟩ = false := fun g => (g.frozen Y0).trans ((Below.frozen hL5 (p := ⟨w.heap.size, 5, none⟩) s0).trans d0_5)
  clear Y0 s0 c0_0 d0_0 c0_1 d0_1 c0_2 d0_2 c0_3 d0_3 c0_4 d0_4 c0_5 d0_5
  have s1 := S1 g5
  have Y1 : w.heap.size + 1 < W5.heap.size := Nat.lt_of_lt_of_le s1 hL5.size
  have c1_0 := F1_0 g5
  have d1_0 := H1_0 g5
  have c1_1 := F1_1 g5
  have d1_1 := H1_1 g5
  clear S1 F1_0 H1_0 F1_1 H1_1
  have S1 : ∀ g : Grown W5, w.heap.size + 1 < g.w.heap.size := fun g => Nat.lt_of_lt_of_le Y1 g.h.size
  have F1_0 : ∀ g : Grown W5, g.w.cell? ⟨w.heap.size + 1, 0, none⟩ = some (.int .i64 y0) := fun g => (g.cell Y1).trans ((Below.cell hL5 (p := ⟨w.heap.size + 1, 0, none⟩) s1).trans c1_0)
  have H1_0 : ∀ g : Grown W5, g.w.frozen? ⟨w.heap.size + 1, 0, none⟩ = false := fun g => (g.frozen Y1).trans ((Below.frozen hL5 (p := ⟨w.heap.size + 1, 0, none⟩) s1).trans d1_0)
  have F1_1 : ∀ g : Grown W5, g.w.cell? ⟨w.heap.size + 1, 1, none⟩ = some (.int .i64 y1) := fun g => (g.cell Y1).trans ((Below.cell hL5 (p := ⟨w.heap.size + 1, 1, none⟩) s1).trans c1_1)
  have H1_1 : ∀ g : Grown W5, g.w.frozen? ⟨w.heap.size + 1, 1, none⟩ = false := fun g => (g.frozen Y1).trans ((Below.frozen hL5 (p := ⟨w.heap.size + 1, 1, none⟩) s1).trans d1_1)
  clear Y1 s1 c1_0 d1_0 c1_1 d1_1
  have s2 := S2 g5
  have Y2 : b0 < W5.heap.size := Nat.lt_of_lt_of_le s2 hL5.size
  have c2_0 := F2_0 g5
  have d2_0 := H2_0 g5
  have c2_1 := F2_1 g5
  have d2_1 := H2_1 g5
  clear S2 F2_0 H2_0 F2_1 H2_1
  have S2 : ∀ g : Grown W5, b0 < g.w.heap.size := fun g => Nat.lt_of_lt_of_le Y2 g.h.size
  have F2_0 : ∀ g : Grown W5, g.w.cell? ⟨b0, 0, none⟩ = some (.int .i64 a) := fun g => (g.cell Y2).trans ((Below.cell hL5 (p := ⟨b0, 0, none⟩) s2).trans c2_0)
  have H2_0 : ∀ g : Grown W5, g.w.frozen? ⟨b0, 0, none⟩ = false := fun g => (g.frozen Y2).trans ((Below.frozen hL5 (p := ⟨b0, 0, none⟩) s2).trans d2_0)
  have F2_1 : ∀ g : Grown W5, g.w.cell? ⟨b0, 1, none⟩ = some (.int .i64 b) := fun g => (g.cell Y2).trans ((Below.cell hL5 (p := ⟨b0, 1, none⟩) s2).trans c2_1)
  have H2_1 : ∀ g : Grown W5, g.w.frozen? ⟨b0, 1, none⟩ = false := fun g => (g.frozen Y2).trans ((Below.frozen hL5 (p := ⟨b0, 1, none⟩) s2).trans d2_1)
  clear Y2 s2 c2_0 d2_0 c2_1 d2_1
  have s3 := S3 g5
  have Y3 : b1 < W5.heap.size := Nat.lt_of_lt_of_le s3 hL5.size
  have c3_0 := F3_0 g5
  have d3_0 := H3_0 g5
  have c3_1 := F3_1 g5
  have d3_1 := H3_1 g5
  clear S3 F3_0 H3_0 F3_1 H3_1
  have S3 : ∀ g : Grown W5, b1 < g.w.heap.size := fun g => Nat.lt_of_lt_of_le Y3 g.h.size
  have F3_0 : ∀ g : Grown W5, g.w.cell? ⟨b1, 0, none⟩ = some (.int .i64 c) := fun g => (g.cell Y3).trans ((Below.cell hL5 (p := ⟨b1, 0, none⟩) s3).trans c3_0)
  have H3_0 : ∀ g : Grown W5, g.w.frozen? ⟨b1, 0, none⟩ = false := fun g => (g.frozen Y3).trans ((Below.frozen hL5 (p := ⟨b1, 0, none⟩) s3).trans d3_0)
  have F3_1 : ∀ g : Grown W5, g.w.cell? ⟨b1, 1, none⟩ = some (.int .i64 d) := fun g => (g.cell Y3).trans ((Below.cell hL5 (p := ⟨b1, 1, none⟩) s3).trans c3_1)
  have H3_1 : ∀ g : Grown W5, g.w.frozen? ⟨b1, 1, none⟩ = false := fun g => (g.frozen Y3).trans ((Below.frozen hL5 (p := ⟨b1, 1, none⟩) s3).trans d3_1)
  clear Y3 s3 c3_0 d3_0 c3_1 d3_1
  have s4 := S4 g5
  have Y4 : b2 < W5.heap.size := Nat.lt_of_lt_of_le s4 hL5.size
  have c4_0 := F4_0 g5
  have d4_0 := H4_0 g5
  have c4_1 := F4_1 g5
  have d4_1 := H4_1 g5
  clear S4 F4_0 H4_0 F4_1 H4_1
  have S4 : ∀ g : Grown W5, b2 < g.w.heap.size := fun g => Nat.lt_of_lt_of_le Y4 g.h.size
  have F4_0 : ∀ g : Grown W5, g.w.cell? ⟨b2, 0, none⟩ = some (.int .i64 i) := fun g => (g.cell Y4).trans ((Below.cell hL5 (p := ⟨b2, 0, none⟩) s4).trans c4_0)
  have H4_0 : ∀ g : Grown W5, g.w.frozen? ⟨b2, 0, none⟩ = false := fun g => (g.frozen Y4).trans ((Below.frozen hL5 (p := ⟨b2, 0, none⟩) s4).trans d4_0)
  have F4_1 : ∀ g : Grown W5, g.w.cell? ⟨b2, 1, none⟩ = some (.int .i64 j) := fun g => (g.cell Y4).trans ((Below.cell hL5 (p := ⟨b2, 1, none⟩) s4).trans c4_1)
  have H4_1 : ∀ g : Grown W5, g.w.frozen? ⟨b2, 1, none⟩ = false := fun g => (g.frozen Y4).trans ((Below.frozen hL5 (p := ⟨b2, 1, none⟩) s4).trans d4_1)
  clear Y4 s4 c4_0 d4_0 c4_1 d4_1
  have s5 := S5 g5
  have Y5 : nb2 < W5.heap.size := Nat.lt_of_lt_of_le s5 hL5.size
  have c5_0 := F5_0 g5
  have d5_0 := H5_0 g5
  have c5_1 := F5_1 g5
  have d5_1 := H5_1 g5
  clear S5 F5_0 H5_0 F5_1 H5_1
  have S5 : ∀ g : Grown W5, nb2 < g.w.heap.size := fun g => Nat.lt_of_lt_of_le Y5 g.h.size
  have F5_0 : ∀ g : Grown W5, g.w.cell? ⟨nb2, 0, none⟩ = some (.int .i64 l1) := fun g => (g.cell Y5).trans ((Below.cell hL5 (p := ⟨nb2, 0, none⟩) s5).trans c5_0)
  have H5_0 : ∀ g : Grown W5, g.w.frozen? ⟨nb2, 0, none⟩ = false := fun g => (g.frozen Y5).trans ((Below.frozen hL5 (p := ⟨nb2, 0, none⟩) s5).trans d5_0)
  have F5_1 : ∀ g : Grown W5, g.w.cell? ⟨nb2, 1, none⟩ = some (.int .i64 l2) := fun g => (g.cell Y5).trans ((Below.cell hL5 (p := ⟨nb2, 1, none⟩) s5).trans c5_1)
  have H5_1 : ∀ g : Grown W5, g.w.frozen? ⟨nb2, 1, none⟩ = false := fun g => (g.frozen Y5).trans ((Below.frozen hL5 (p := ⟨nb2, 1, none⟩) s5).trans d5_1)
  clear Y5 s5 c5_0 d5_0 c5_1 d5_1
  have s6 := S6 g5
  have Y6 : nb3 < W5.heap.size := Nat.lt_of_lt_of_le s6 hL5.size
  have c6_0 := F6_0 g5
  have d6_0 := H6_0 g5
  have c6_1 := F6_1 g5
  have d6_1 := H6_1 g5
  clear S6 F6_0 H6_0 F6_1 H6_1
  have S6 : ∀ g : Grown W5, nb3 < g.w.heap.size := fun g => Nat.lt_of_lt_of_le Y6 g.h.size
  have F6_0 : ∀ g : Grown W5, g.w.cell? ⟨nb3, 0, none⟩ = some (.int .i64 m1) := fun g => (g.cell Y6).trans ((Below.cell hL5 (p := ⟨nb3, 0, none⟩) s6).trans c6_0)
  have H6_0 : ∀ g : Grown W5, g.w.frozen? ⟨nb3, 0, none⟩ = false := fun g => (g.frozen Y6).trans ((Below.frozen hL5 (p := ⟨nb3, 0, none⟩) s6).trans d6_0)
  have F6_1 : ∀ g : Grown W5, g.w.cell? ⟨nb3, 1, none⟩ = some (.int .i64 m2) := fun g => (g.cell Y6).trans ((Below.cell hL5 (p := ⟨nb3, 1, none⟩) s6).trans c6_1)
  have H6_1 : ∀ g : Grown W5, g.w.frozen? ⟨nb3, 1, none⟩ = false := fun g => (g.frozen Y6).trans ((Below.frozen hL5 (p := ⟨nb3, 1, none⟩) s6).trans d6_1)
  clear Y6 s6 c6_0 d6_0 c6_1 d6_1
  have s7 := S7 g5
  have Y7 : nb4 < W5.heap.size := Nat.lt_of_lt_of_le s7 hL5.size
  have c7_0 := F7_0 g5
  have d7_0 := H7_0 g5
  have c7_1 := F7_1 g5
  have d7_1 := H7_1 g5
  clear S7 F7_0 H7_0 F7_1 H7_1
  have S7 : ∀ g : Grown W5, nb4 < g.w.heap.size := fun g => Nat.lt_of_lt_of_le Y7 g.h.size
  have F7_0 : ∀ g : Grown W5, g.w.cell? ⟨nb4, 0, none⟩ = some (.int .i64 m1) := fun g => (g.cell Y7).trans ((Below.cell hL5 (p := ⟨nb4, 0, none⟩) s7).trans c7_0)
  have H7_0 : ∀ g : Grown W5, g.w.frozen? ⟨nb4, 0, none⟩ = false := fun g => (g.frozen Y7).trans ((Below.frozen hL5 (p := ⟨nb4, 0, none⟩) s7).trans d7_0)
  have F7_1 : ∀ g : Grown W5, g.w.cell? ⟨nb4, 1, none⟩ = some (.int .i64 m2) := fun g => (g.cell Y7).trans ((Below.cell hL5 (p := ⟨nb4, 1, none⟩) s7).trans c7_1)
  have H7_1 : ∀ g : Grown W5, g.w.frozen? ⟨nb4, 1, none⟩ = false := fun g => (g.frozen Y7).trans ((Below.frozen hL5 (p := ⟨nb4, 1, none⟩) s7).trans d7_1)
  clear Y7 s7 c7_0 d7_0 c7_1 d7_1
  have Y8 : nb5 < W5.heap.size := by subst hW5; subst hnb5; simp <;> omega
  have S8 : ∀ g : Grown W5, nb5 < g.w.heap.size := fun g => Nat.lt_of_lt_of_le Y8 g.h.size
  have F8_0 : ∀ g : Grown W5, g.w.cell? ⟨nb5, 0, none⟩ = some (.int .i64 a) := fun g => (g.cell Y8).trans (by subst hW5; subst hnb5; simp [go_sem])
  have H8_0 : ∀ g : Grown W5, g.w.frozen? ⟨nb5, 0, none⟩ = false := fun g => (g.frozen Y8).trans (by subst hW5; subst hnb5; simp [go_sem])
  have F8_1 : ∀ g : Grown W5, g.w.cell? ⟨nb5, 1, none⟩ = some (.int .i64 b) := fun g => (g.cell Y8).trans (by subst hW5; subst hnb5; simp [go_sem])
  have H8_1 : ∀ g : Grown W5, g.w.frozen? ⟨nb5, 1, none⟩ = false := fun g => (g.frozen Y8).trans (by subst hW5; subst hnb5; simp [go_sem])
  clear Y8
  rw [← hnb5]
  clear hnb5 hW5 hT4 hL5
  obtain ⟨h5, hg5⟩ : ∃ g : Grown W5, W5 = g.w := ⟨⟨W5, Below.refl _ _⟩, rfl⟩
  rw [hg5]
  clear hg5 g5
  cases r3 with
  | false =>
    refine (same_yes _ _ _).mono ?_
    rintro e6 w6 ⟨rfl, hB6⟩
    obtain ⟨g6, rfl⟩ := grow h5 hB6
    clear hB6
    go_wp2_with (fail)
    refine (same_yes _ _ _).mono ?_
    rintro e7 w7 ⟨rfl, hB7⟩
    obtain ⟨g7, rfl⟩ := grow g6 hB7
    clear hB7
    go_wp2_with (fail)
    refine (hn3.out _).mono ?_
    rintro e8 w8 ⟨rfl, hB8⟩
    obtain ⟨g8, rfl⟩ := grow g7 hB8
    clear hB8
    go_wp2_with (fail)
    have hB : Below w.heap.size w g8.w := below_then hT5 g8.h
    go_ret
    refine ⟨rfl, ?_⟩
    go_grown
  | true =>
    obtain ⟨rfl, rfl, rfl⟩ := hz3.out rfl
    refine (same_yes _ _ _).mono ?_
    rintro e6 w6 ⟨rfl, hB6⟩
    obtain ⟨g6, rfl⟩ := grow h5 hB6
    clear hB6
    go_wp2_with (fail)
    refine (same_yes _ _ _).mono ?_
    rintro e7 w7 ⟨rfl, hB7⟩
    obtain ⟨g7, rfl⟩ := grow g6 hB7
    clear hB7
    go_wp2_with (fail)
    refine (hn3.out _).mono ?_
    rintro e8 w8 ⟨rfl, hB8⟩
    obtain ⟨g8, rfl⟩ := grow g7 hB8
    clear hB8
    go_wp2_with (fail)
    refine (same_yes _ _ _).mono ?_
    rintro e9 w9 ⟨rfl, hB9⟩
    obtain ⟨g9, rfl⟩ := grow g8 hB9
    clear hB9
    go_wp2_with (fail)
    have hB : Below w.heap.size w g9.w := below_then hT5 g9.h
    go_ret
    refine ⟨rfl, ?_⟩
    go_grown
end Go.Proofs.Ytgkhkclpgkohbaa
