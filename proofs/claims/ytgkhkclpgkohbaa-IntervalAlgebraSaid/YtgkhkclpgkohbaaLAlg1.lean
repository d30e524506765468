/-
  The law of the algebra: its walk.
-/
import Derived.Test.YtgkhkclpgkohbaaSanity
import Derived.Test.YtgkhkclpgkohbaaR1
import Derived.Test.YtgkhkclpgkohbaaHead
import Derived.Deep.DrawnRows
namespace Go.Proofs.Ytgkhkclpgkohbaa
open Go.ChangeShapes Go.WideShapes Go.ChangeAt Go.RowKit
set_option linter.unusedVariables false
set_option linter.unusedSimpArgs false

open Go.BigFrame
attribute [local irreducible] Calls
set_option maxRecDepth 100000 in
set_option maxHeartbeats 8000000 in
theorem alg_walk (x0 x1 x2 x3 x4 x5 a b c d n m p1 p2 s1 s2 u1 u2 q1 q2 r1 r2 t1 t2 y1 y2 : Int) (w : World) (hn1 : -1073741824 ≤ n) (hn2 : n ≤ 1073741824) (c1 : ∀ w, Calls Try.prog 16 #[.agg #[.int .i64 x0, .int .i64 x1]] w fun e w' => e = .returned (.agg #[.int .i64 a, .int .i64 b]) ∧ Below w.heap.size w w') (c2 : ∀ w, Calls Try.prog 16 #[.agg #[.int .i64 x2, .int .i64 x3]] w fun e w' => e = .returned (.agg #[.int .i64 c, .int .i64 d]) ∧ Below w.heap.size w w') (c3 : ∀ w, Calls Try.prog 17 #[.agg #[.int .i64 x0, .int .i64 x1, .int .i64 x2, .int .i64 x3, .int .i32 x4, .int .u16 x5]] w fun e w' => e = .returned (.tuple #[.int .i64 n, .int .i64 m]) ∧ Below w.heap.size w w') (c4 : ∀ w, Calls Try.prog 51 #[.agg #[.int .i64 a, .int .i64 b], .agg #[.int .i64 c, .int .i64 d]] w fun e w' => e = .returned (.agg #[.int .i64 p1, .int .i64 p2]) ∧ Below w.heap.size w w') (c5 : ∀ w, Calls Try.prog 45 #[.agg #[.int .i64 a, .int .i64 b], .agg #[.int .i64 c, .int .i64 d]] w fun e w' => e = .returned (.agg #[.int .i64 s1, .int .i64 s2]) ∧ Below w.heap.size w w') (c6 : ∀ w, Calls Try.prog 45 #[.agg #[.int .i64 c, .int .i64 d], .agg #[.int .i64 a, .int .i64 b]] w fun e w' => e = .returned (.agg #[.int .i64 s1, .int .i64 s2]) ∧ Below w.heap.size w w') (c7 : ∀ w, Calls Try.prog 51 #[.agg #[.int .i64 c, .int .i64 d], .agg #[.int .i64 a, .int .i64 b]] w fun e w' => e = .returned (.agg #[.int .i64 p1, .int .i64 p2]) ∧ Below w.heap.size w w') (c8 : ∀ w, Calls Try.prog 47 #[.agg #[.int .i64 a, .int .i64 b], .agg #[.int .i64 c, .int .i64 d]] w fun e w' => e = .returned (.agg #[.int .i64 u1, .int .i64 u2]) ∧ Below w.heap.size w w') (c9 : ∀ w, Calls Try.prog 49 #[.agg #[.int .i64 c, .int .i64 d]] w fun e w' => e = .returned (.agg #[.int .i64 (-d), .int .i64 (-c)]) ∧ Below w.heap.size w w') (c10 : ∀ w, Calls Try.prog 45 #[.agg #[.int .i64 a, .int .i64 b], .agg #[.int .i64 (-d), .int .i64 (-c)]] w fun e w' => e = .returned (.agg #[.int .i64 u1, .int .i64 u2]) ∧ Below w.heap.size w w') (c11 : ∀ w, Calls Try.prog 49 #[.agg #[.int .i64 a, .int .i64 b]] w fun e w' => e = .returned (.agg #[.int .i64 (-b), .int .i64 (-a)]) ∧ Below w.heap.size w w') (c12 : ∀ w, Calls Try.prog 49 #[.agg #[.int .i64 (-b), .int .i64 (-a)]] w fun e w' => e = .returned (.agg #[.int .i64 a, .int .i64 b]) ∧ Below w.heap.size w w') (c13 : ∀ w, Calls Try.prog 51 #[.agg #[.int .i64 (-b), .int .i64 (-a)], .agg #[.int .i64 c, .int .i64 d]] w fun e w' => e = .returned (.agg #[.int .i64 (-p2), .int .i64 (-p1)]) ∧ Below w.heap.size w w') (c14 : ∀ w, Calls Try.prog 49 #[.agg #[.int .i64 p1, .int .i64 p2]] w fun e w' => e = .returned (.agg #[.int .i64 (-p2), .int .i64 (-p1)]) ∧ Below w.heap.size w w') (c15 : ∀ w, Calls Try.prog 53 #[.agg #[.int .i64 (-b), .int .i64 (-a)]] w fun e w' => e = .returned (.agg #[.int .i64 q1, .int .i64 q2]) ∧ Below w.heap.size w w') (c16 : ∀ w, Calls Try.prog 53 #[.agg #[.int .i64 a, .int .i64 b]] w fun e w' => e = .returned (.agg #[.int .i64 q1, .int .i64 q2]) ∧ Below w.heap.size w w') (c17 : ∀ w, Calls Try.prog 55 #[.agg #[.int .i64 a, .int .i64 b], .agg #[.int .i64 c, .int .i64 d]] w fun e w' => e = .returned (.agg #[.int .i64 r1, .int .i64 r2]) ∧ Below w.heap.size w w') (c18 : ∀ w, Calls Try.prog 55 #[.agg #[.int .i64 (-b), .int .i64 (-a)], .agg #[.int .i64 c, .int .i64 d]] w fun e w' => e = .returned (.agg #[.int .i64 (-r2), .int .i64 (-r1)]) ∧ Below w.heap.size w w') (c19 : ∀ w, Calls Try.prog 49 #[.agg #[.int .i64 r1, .int .i64 r2]] w fun e w' => e = .returned (.agg #[.int .i64 (-r2), .int .i64 (-r1)]) ∧ Below w.heap.size w w') (c20 : ∀ w, Calls Try.prog 55 #[.agg #[.int .i64 a, .int .i64 b], .agg #[.int .i64 (-d), .int .i64 (-c)]] w fun e w' => e = .returned (.agg #[.int .i64 (-r2), .int .i64 (-r1)]) ∧ Below w.heap.size w w') (c21 : ∀ w, Calls Try.prog 23 #[.agg #[.int .i64 a, .int .i64 b], .int .i64 (-n), .int .i64 m] w fun e w' => e = .returned (.agg #[.int .i64 (-t2), .int .i64 (-t1)]) ∧ Below w.heap.size w w') (c22 : ∀ w, Calls Try.prog 23 #[.agg #[.int .i64 a, .int .i64 b], .int .i64 n, .int .i64 m] w fun e w' => e = .returned (.agg #[.int .i64 t1, .int .i64 t2]) ∧ Below w.heap.size w w') (c23 : ∀ w, Calls Try.prog 49 #[.agg #[.int .i64 t1, .int .i64 t2]] w fun e w' => e = .returned (.agg #[.int .i64 (-t2), .int .i64 (-t1)]) ∧ Below w.heap.size w w') (c24 : ∀ w, Calls Try.prog 41 #[.int .i64 65536] w fun e w' => e = .returned (.agg #[.int .i64 65536, .int .i64 65536]) ∧ Below w.heap.size w w') (c25 : ∀ w, Calls Try.prog 51 #[.agg #[.int .i64 a, .int .i64 b], .agg #[.int .i64 65536, .int .i64 65536]] w fun e w' => e = .returned (.agg #[.int .i64 a, .int .i64 b]) ∧ Below w.heap.size w w') (c26 : ∀ w, Calls Try.prog 41 #[.int .i64 0] w fun e w' => e = .returned (.agg #[.int .i64 0, .int .i64 0]) ∧ Below w.heap.size w w') (c27 : ∀ w, Calls Try.prog 45 #[.agg #[.int .i64 a, .int .i64 b], .agg #[.int .i64 0, .int .i64 0]] w fun e w' => e = .returned (.agg #[.int .i64 a, .int .i64 b]) ∧ Below w.heap.size w w') (c28 : ∀ w, Calls Try.prog 23 #[.agg #[.int .i64 a, .int .i64 b], .int .i64 m, .int .i64 m] w fun e w' => e = .returned (.agg #[.int .i64 a, .int .i64 b]) ∧ Below w.heap.size w w') (c29 : ∀ w, Calls Try.prog 51 #[.agg #[.int .i64 a, .int .i64 b], .agg #[.int .i64 a, .int .i64 b]] w fun e w' => e = .returned (.agg #[.int .i64 y1, .int .i64 y2]) ∧ Below w.heap.size w w') (cs1 : ∀ w, Calls Try.prog 27 #[.agg #[.int .i64 q1, .int .i64 q2], .agg #[.int .i64 y1, .int .i64 y2]] w fun e w' => e = .returned (.bool true) ∧ Below w.heap.size w w') (cs2 : ∀ w, Calls Try.prog 12 #[.agg #[.int .i64 p1, .int .i64 p2]] w fun e w' => e = .returned (.bool true) ∧ Below w.heap.size w w') (cs3 : ∀ w, Calls Try.prog 12 #[.agg #[.int .i64 r1, .int .i64 r2]] w fun e w' => e = .returned (.bool true) ∧ Below w.heap.size w w') :
    Calls Try.prog 7 #[.agg #[.int .i64 x0, .int .i64 x1, .int .i64 x2, .int .i64 x3, .int .i32 x4, .int .u16 x5]] w fun e w' => e = .returned (.bool true) ∧ Below w.heap.size w w' := by
  have hc1 := Lib.hid c1
  clear c1
  have hc2 := Lib.hid c2
  clear c2
  have hc3 := Lib.hid c3
  clear c3
  have hc4 := Lib.hid c4
  clear c4
  have hc5 := Lib.hid c5
  clear c5
  have hc6 := Lib.hid c6
  clear c6
  have hc7 := Lib.hid c7
  clear c7
  have hc8 := Lib.hid c8
  clear c8
  have hc9 := Lib.hid c9
  clear c9
  have hc10 := Lib.hid c10
  clear c10
  have hc11 := Lib.hid c11
  clear c11
  have hc12 := Lib.hid c12
  clear c12
  have hc13 := Lib.hid c13
  clear c13
  have hc14 := Lib.hid c14
  clear c14
  have hc15 := Lib.hid c15
  clear c15
  have hc16 := Lib.hid c16
  clear c16
  have hc17 := Lib.hid c17
  clear c17
  have hc18 := Lib.hid c18
  clear c18
  have hc19 := Lib.hid c19
  clear c19
  have hc20 := Lib.hid c20
  clear c20
  have hc21 := Lib.hid c21
  clear c21
  have hc22 := Lib.hid c22
  clear c22
  have hc23 := Lib.hid c23
  clear c23
  have hc24 := Lib.hid c24
  clear c24
  have hc25 := Lib.hid c25
  clear c25
  have hc26 := Lib.hid c26
  clear c26
  have hc27 := Lib.hid c27
  clear c27
  have hc28 := Lib.hid c28
  clear c28
  have hc29 := Lib.hid c29
  clear c29
  have hcs1 := Lib.hid cs1
  clear cs1
  have hcs2 := Lib.hid cs2
  clear cs2
  have hcs3 := Lib.hid cs3
  clear cs3
  go_enter Try.func7, Try.ntmps7
  go_wp2_with (fail)
  generalize hW0 : World.alloc w _ = W0
  have hT0 : Below w.heap.size w W0 := by subst hW0; exact ((Below.refl w.heap.size w).alloc (by go_size) _)
  have Y0 : w.heap.size < W0.heap.size := by subst hW0; simp <;> omega
  have S0 : ∀ g : Grown W0, w.heap.size < g.w.heap.size := fun g => Nat.lt_of_lt_of_le Y0 g.h.size
  have F0_0 : ∀ g : Grown W0, g.w.cell? ⟨w.heap.size, 0, none⟩ = some (.int .i64 x0) := fun g => (g.cell Y0).trans (by subst hW0; simp [go_sem])
  have H0_0 : ∀ g : Grown W0, g.w.frozen? ⟨w.heap.size, 0, none⟩ = false := fun g => (g.frozen Y0).trans (by subst hW0; simp [go_sem])
  have F0_1 : ∀ g : Grown W0, g.w.cell? ⟨w.heap.size, 1, none⟩ = some (.int .i64 x1) := fun g => (g.cell Y0).trans (by subst hW0; simp [go_sem])
  have H0_1 : ∀ g : Grown W0, g.w.frozen? ⟨w.heap.size, 1, none⟩ = false := fun g => (g.frozen Y0).trans (by subst hW0; simp [go_sem])
  have F0_2 : ∀ g : Grown W0, g.w.cell? ⟨w.heap.size, 2, none⟩ = some (.int .i64 x2) := fun g => (g.cell Y0).trans (by subst hW0; simp [go_sem])
  have H0_2 : ∀ g : Grown W0, g.w.frozen? ⟨w.heap.size, 2, none⟩ = false := fun g => (g.frozen Y0).trans (by subst hW0; simp [go_sem])
  have F0_3 : ∀ g : Grown W0, g.w.cell? ⟨w.heap.size, 3, none⟩ = some (.int .i64 x3) := fun g => (g.cell Y0).trans (by subst hW0; simp [go_sem])
  have H0_3 : ∀ g : Grown W0, g.w.frozen? ⟨w.heap.size, 3, none⟩ = false := fun g => (g.frozen Y0).trans (by subst hW0; simp [go_sem])
  have F0_4 : ∀ g : Grown W0, g.w.cell? ⟨w.heap.size, 4, none⟩ = some (.int .i32 x4) := fun g => (g.cell Y0).trans (by subst hW0; simp [go_sem])
  have H0_4 : ∀ g : Grown W0, g.w.frozen? ⟨w.heap.size, 4, none⟩ = false := fun g => (g.frozen Y0).trans (by subst hW0; simp [go_sem])
  have F0_5 : ∀ g : Grown W0, g.w.cell? ⟨w.heap.size, 5, none⟩ = some (.int .u16 x5) := fun g => (g.cell Y0).trans (by subst hW0; simp [go_sem])
  have H0_5 : ∀ g : Grown W0, g.w.frozen? ⟨w.heap.size, 5, none⟩ = false := fun g => (g.frozen Y0).trans (by subst hW0; simp [go_sem])
  clear Y0
  clear hW0
  obtain ⟨g0, hg0⟩ : ∃ g : Grown W0, W0 = g.w := ⟨⟨W0, Below.refl _ _⟩, rfl⟩
  rw [hg0]
  clear hg0
  refine (sanity2 _).mono ?_
  rintro e1 w1 ⟨rfl, hB1⟩
  obtain ⟨g1, rfl⟩ := grow g0 hB1
  clear hB1
  go_wp2_with (fail)
  refine region_data 8 23 _ (by kernel_rfl) new_iv (by kernel_rfl) ?_
  refine data_op (.pointer (some ⟨w.heap.size, 0, none⟩)) rfl (RQ_pure (fun w => by simp [go_sem])) ?_
  simp only [Act.put, List.setIfInBounds_toArray, List.set_cons_succ, List.set_cons_zero]
  refine data_op _ rfl (RQ_load rfl rfl (load_iv_at (S0 _) (F0_0 _) (F0_1 _))) ?_
  simp only [Act.put, List.setIfInBounds_toArray, List.set_cons_succ, List.set_cons_zero]
  refine data_op _ rfl (RQ_call hc1.out (fun _ => by simp [go_sem])) ?_
  simp only [Act.put, List.setIfInBounds_toArray, List.set_cons_succ, List.set_cons_zero]
  refine data_op (.pointer (some ⟨w.heap.size, 2, none⟩)) rfl (RQ_pure (fun w => by simp [go_sem])) ?_
  simp only [Act.put, List.setIfInBounds_toArray, List.set_cons_succ, List.set_cons_zero]
  refine data_op _ rfl (RQ_load rfl rfl (load_iv_at (S0 _) (F0_2 _) (F0_3 _))) ?_
  simp only [Act.put, List.setIfInBounds_toArray, List.set_cons_succ, List.set_cons_zero]
  refine data_op _ rfl (RQ_call hc2.out (fun _ => by simp [go_sem])) ?_
  simp only [Act.put, List.setIfInBounds_toArray, List.set_cons_succ, List.set_cons_zero]
  refine data_al rfl ?_
  simp only [Act.put, List.setIfInBounds_toArray, List.set_cons_succ, List.set_cons_zero]
  refine data_al rfl ?_
  simp only [Act.put, List.setIfInBounds_toArray, List.set_cons_succ, List.set_cons_zero]
  refine data_end ?_
  intro wh hBh
  simp only [Act.put, List.drop_succ_cons, List.drop_zero, List.take_succ_cons, List.take_zero, alDsts, List.filterMap_cons, List.filterMap_nil, isAl, Bool.false_eq_true, if_false, if_true, finK]
  intro b0 p0 q0 r0 o0
  intro b1 p1 q1 r1 o1
  obtain ⟨u00, u01, v00, v01⟩ := new_cell o0
  obtain ⟨u10, u11, v10, v11⟩ := new_cell o1
  have n01 : b0 ≠ b1 := r1 b0 (by simp)
  clear r0 o0 r1 o1
  simp only [List.setIfInBounds_toArray, List.set_cons_succ, List.set_cons_zero]
  refine list_store rfl rfl rfl rfl rfl (by exact u00) (by exact u01) (by exact v00) (by exact v01) ?_
  refine list_store rfl rfl rfl rfl rfl (by rw [st2_old (Ne.symm n01)]; exact u10) (by rw [st2_old (Ne.symm n01)]; exact u11) (by simp only [st2_frozen]; exact v10) (by simp only [st2_frozen]; exact v11) ?_
  refine wpList_nil ?_
  generalize e1 : (st2 (st2 wh b0 (.int .i64 a) (.int .i64 b)) b1 (.int .i64 c) (.int .i64 d)) = W1
  have hL1 : Below g1.w.heap.size g1.w W1 := by rw [← e1]; exact (st2_below (st2_below hBh p0) p1)
  have hT1 : Below w.heap.size w W1 := below_then (below_then hT0 g1.h) hL1
  have s0 := S0 g1
  have Y0 : w.heap.size < W1.heap.size := Nat.lt_of_lt_of_le s0 hL1.size
  have c0_0 := F0_0 g1
  have d0_0 := H0_0 g1
  have c0_1 := F0_1 g1
  have d0_1 := H0_1 g1
  have c0_2 := F0_2 g1
  have d0_2 := H0_2 g1
  have c0_3 := F0_3 g1
  have d0_3 := H0_3 g1
  have c0_4 := F0_4 g1
  have d0_4 := H0_4 g1
  have c0_5 := F0_5 g1
  have d0_5 := H0_5 g1
  clear S0 F0_0 H0_0 F0_1 H0_1 F0_2 H0_2 F0_3 H0_3 F0_4 H0_4 F0_5 H0_5
  have S0 : ∀ g : Grown W1, w.heap.size < g.w.heap.size := fun g => Nat.lt_of_lt_of_le Y0 g.h.size
  have F0_0 : ∀ g : Grown W1, g.w.cell? ⟨w.heap.size, 0, none⟩ = some (.int .i64 x0) := fun g => (g.cell Y0).trans ((Below.cell hL1 (p := ⟨w.heap.size, 0, none⟩) s0).trans c0_0)
  have H0_0 : ∀ g : Grown W1, g.w.frozen? ⟨w.heap.size, 0, none⟩ = false := fun g => (g.frozen Y0).trans ((Below.frozen hL1 (p := ⟨w.heap.size, 0, none⟩) s0).trans d0_0)
  have F0_1 : ∀ g : Grown W1, g.w.cell? ⟨w.heap.size, 1, none⟩ = some (.int .i64 x1) := fun g => (g.cell Y0).trans ((Below.cell hL1 (p := ⟨w.heap.size, 1, none⟩) s0).trans c0_1)
  have H0_1 : ∀ g : Grown W1, g.w.frozen? ⟨w.heap.size, 1, none⟩ = false := fun g => (g.frozen Y0).trans ((Below.frozen hL1 (p := ⟨w.heap.size, 1, none⟩) s0).trans d0_1)
  have F0_2 : ∀ g : Grown W1, g.w.cell? ⟨w.heap.size, 2, none⟩ = some (.int .i64 x2) := fun g => (g.cell Y0).trans ((Below.cell hL1 (p := ⟨w.heap.size, 2, none⟩) s0).trans c0_2)
  have H0_2 : ∀ g : Grown W1, g.w.frozen? ⟨w.heap.size, 2, none⟩ = false := fun g => (g.frozen Y0).trans ((Below.frozen hL1 (p := ⟨w.heap.size, 2, none⟩) s0).trans d0_2)
  have F0_3 : ∀ g : Grown W1, g.w.cell? ⟨w.heap.size, 3, none⟩ = some (.int .i64 x3) := fun g => (g.cell Y0).trans ((Below.cell hL1 (p := ⟨w.heap.size, 3, none⟩) s0).trans c0_3)
  have H0_3 : ∀ g : Grown W1, g.w.frozen? ⟨w.heap.size, 3, none⟩ = false := fun g => (g.frozen Y0).trans ((Below.frozen hL1 (p := ⟨w.heap.size, 3, none⟩) s0).trans d0_3)
  have F0_4 : ∀ g : Grown W1, g.w.cell? ⟨w.heap.size, 4, none⟩ = some (.int .i32 x4) := fun g => (g.cell Y0).trans ((Below.cell hL1 (p := ⟨w.heap.size, 4, none⟩) s0).trans c0_4)
  have H0_4 : ∀ g : Grown W1, g.w.frozen? ⟨w.heap.size, 4, none⟩ = false := fun g => (g.frozen Y0).trans ((Below.frozen hL1 (p := ⟨w.heap.size, 4, none⟩) s0).trans d0_4)
  have F0_5 : ∀ g : Grown W1, g.w.cell? ⟨w.heap.size, 5, none⟩ = some (.int .u16 x5) := fun g => (g.cell Y0).trans ((Below.cell hL1 (p := ⟨w.heap.size, 5, none⟩) s0).trans c0_5)
  have H0_5 : ∀ g : Grown W1, g.w.frozen? ⟨w.heap.size, 5, none⟩ = false := fun g => (g.frozen Y0).trans ((Below.frozen hL1 (p := ⟨w.heap.size, 5, none⟩) s0).trans d0_5)
  clear Y0 s0 c0_0 d0_0 c0_1 d0_1 c0_2 d0_2 c0_3 d0_3 c0_4 d0_4 c0_5 d0_5
  have Y1 : b0 < W1.heap.size := by rw [← e1]; simp only [st2_size]; exact q0
  have S1 : ∀ g : Grown W1, b0 < g.w.heap.size := fun g => Nat.lt_of_lt_of_le Y1 g.h.size
  have F1_0 : ∀ g : Grown W1, g.w.cell? ⟨b0, 0, none⟩ = some (.int .i64 a) := fun g => (g.cell Y1).trans (by rw [← e1]; rw [st2_old n01]; exact st2_0 (u := .int .i64 0) (by exact u00))
  have H1_0 : ∀ g : Grown W1, g.w.frozen? ⟨b0, 0, none⟩ = false := fun g => (g.frozen Y1).trans (by rw [← e1]; simp only [st2_frozen]; exact v00)
  have F1_1 : ∀ g : Grown W1, g.w.cell? ⟨b0, 1, none⟩ = some (.int .i64 b) := fun g => (g.cell Y1).trans (by rw [← e1]; rw [st2_old n01]; exact st2_1 (u := .int .i64 0) (by exact u01))
  have H1_1 : ∀ g : Grown W1, g.w.frozen? ⟨b0, 1, none⟩ = false := fun g => (g.frozen Y1).trans (by rw [← e1]; simp only [st2_frozen]; exact v01)
  clear Y1
  have Y2 : b1 < W1.heap.size := by rw [← e1]; simp only [st2_size]; exact q1
  have S2 : ∀ g : Grown W1, b1 < g.w.heap.size := fun g => Nat.lt_of_lt_of_le Y2 g.h.size
  have F2_0 : ∀ g : Grown W1, g.w.cell? ⟨b1, 0, none⟩ = some (.int .i64 c) := fun g => (g.cell Y2).trans (by rw [← e1]; exact st2_0 (u := .int .i64 0) (by rw [st2_old (Ne.symm n01)]; exact u10))
  have H2_0 : ∀ g : Grown W1, g.w.frozen? ⟨b1, 0, none⟩ = false := fun g => (g.frozen Y2).trans (by rw [← e1]; simp only [st2_frozen]; exact v10)
  have F2_1 : ∀ g : Grown W1, g.w.cell? ⟨b1, 1, none⟩ = some (.int .i64 d) := fun g => (g.cell Y2).trans (by rw [← e1]; exact st2_1 (u := .int .i64 0) (by rw [st2_old (Ne.symm n01)]; exact u11))
  have H2_1 : ∀ g : Grown W1, g.w.frozen? ⟨b1, 1, none⟩ = false := fun g => (g.frozen Y2).trans (by rw [← e1]; simp only [st2_frozen]; exact v11)
  clear Y2
  clear e1 hL1 hT0 hBh u00 u01 v00 v01 p0 q0 u10 u11 v10 v11 p1 q1 n01
  obtain ⟨h1, hg1⟩ : ∃ g : Grown W1, W1 = g.w := ⟨⟨W1, Below.refl _ _⟩, rfl⟩
  rw [hg1]
  clear hg1 g1
  go_wp2_with (fail)
  refine (hc3.out _).mono ?_
  rintro e2 w2 ⟨rfl, hB2⟩
  obtain ⟨g2, rfl⟩ := grow h1 hB2
  clear hB2
  go_wp2_with (fail)
  refine (hc4.out _).mono ?_
  rintro e3 w3 ⟨rfl, hB3⟩
  obtain ⟨g3, rfl⟩ := grow g2 hB3
  clear hB3
  go_wp2_with (fail)
  generalize hW2 : World.alloc g3.w _ = W2
  have hL2 : Below g3.w.heap.size g3.w W2 := by subst hW2; exact ((Below.refl _ _).alloc (by first | omega | (simp <;> omega)) _)
  have hT2 : Below w.heap.size w W2 := below_then (below_then hT1 g3.h) hL2
  obtain ⟨nb2, hnb2⟩ : ∃ nb, nb = g3.w.heap.size := ⟨_, rfl⟩
  have s0 := S0 g3
  have Y0 : w.heap.size < W2.heap.size := Nat.lt_of_lt_of_le s0 hL2.size
  have c0_0 := F0_0 g3
  have d0_0 := H0_0 g3
  have c0_1 := F0_1 g3
  have d0_1 := H0_1 g3
  have c0_2 := F0_2 g3
  have d0_2 := H0_2 g3
  have c0_3 := F0_3 g3
  have d0_3 := H0_3 g3
  have c0_4 := F0_4 g3
  have d0_4 := H0_4 g3
  have c0_5 := F0_5 g3
  have d0_5 := H0_5 g3
  clear S0 F0_0 H0_0 F0_1 H0_1 F0_2 H0_2 F0_3 H0_3 F0_4 H0_4 F0_5 H0_5
  have S0 : ∀ g : Grown W2, w.heap.size < g.w.heap.size := fun g => Nat.lt_of_lt_of_le Y0 g.h.size
  have F0_0 : ∀ g : Grown W2, g.w.cell? ⟨w.heap.size, 0, none⟩ = some (.int .i64 x0) := fun g => (g.cell Y0).trans ((Below.cell hL2 (p := ⟨w.heap.size, 0, none⟩) s0).trans c0_0)
  have H0_0 : ∀ g : Grown W2, g.w.frozen? ⟨w.heap.size, 0, none⟩ = false := fun g => (g.frozen Y0).trans ((Below.frozen hL2 (p := ⟨w.heap.size, 0, none⟩) s0).trans d0_0)
  have F0_1 : ∀ g : Grown W2, g.w.cell? ⟨w.heap.size, 1, none⟩ = some (.int .i64 x1) := fun g => (g.cell Y0).trans ((Below.cell hL2 (p := ⟨w.heap.size, 1, none⟩) s0).trans c0_1)
  have H0_1 : ∀ g : Grown W2, g.w.frozen? ⟨w.heap.size, 1, none⟩ = false := fun g => (g.frozen Y0).trans ((Below.frozen hL2 (p := ⟨w.heap.size, 1, none⟩) s0).trans d0_1)
  have F0_2 : ∀ g : Grown W2, g.w.cell? ⟨w.heap.size, 2, none⟩ = some (.int .i64 x2) := fun g => (g.cell Y0).trans ((Below.cell hL2 (p := ⟨w.heap.size, 2, none⟩) s0).trans c0_2)
  have H0_2 : ∀ g : Grown W2, g.w.frozen? ⟨w.heap.size, 2, none⟩ = false := fun g => (g.frozen Y0).trans ((Below.frozen hL2 (p := ⟨w.heap.size, 2, none⟩) s0).trans d0_2)
  have F0_3 : ∀ g : Grown W2, g.w.cell? ⟨w.heap.size, 3, none⟩ = some (.int .i64 x3) := fun g => (g.cell Y0).trans ((Below.cell hL2 (p := ⟨w.heap.size, 3, none⟩) s0).trans c0_3)
  have H0_3 : ∀ g : Grown W2, g.w.frozen? ⟨w.heap.size, 3, none⟩ = false := fun g => (g.frozen Y0).trans ((Below.frozen hL2 (p := ⟨w.heap.size, 3, none⟩) s0).trans d0_3)
  have F0_4 : ∀ g : Grown W2, g.w.cell? ⟨w.heap.size, 4, none⟩ = some (.int .i32 x4) := fun g => (g.cell Y0).trans ((Below.cell hL2 (p := ⟨w.heap.size, 4, none⟩) s0).trans c0_4)
  have H0_4 : ∀ g : Grown W2, g.w.frozen? ⟨w.heap.size, 4, none⟩ = false := fun g => (g.frozen Y0).trans ((Below.frozen hL2 (p := ⟨w.heap.size, 4, none⟩) s0).trans d0_4)
  have F0_5 : ∀ g : Grown W2, g.w.cell? ⟨w.heap.size, 5, none⟩ = some (.int .u16 x5) := fun g => (g.cell Y0).trans ((Below.cell hL2 (p := ⟨w.heap.size, 5, none⟩) s0).trans c0_5)
  have H0_5 : ∀ g : Grown W2, g.w.frozen? ⟨w.heap.size, 5, none⟩ = false := fun g => (g.frozen Y0).trans ((Below.frozen hL2 (p := ⟨w.heap.size, 5, none⟩) s0).trans d0_5)
  clear Y0 s0 c0_0 d0_0 c0_1 d0_1 c0_2 d0_2 c0_3 d0_3 c0_4 d0_4 c0_5 d0_5
  have s1 := S1 g3
  have Y1 : b0 < W2.heap.size := Nat.lt_of_lt_of_le s1 hL2.size
  have c1_0 := F1_0 g3
  have d1_0 := H1_0 g3
  have c1_1 := F1_1 g3
  have d1_1 := H1_1 g3
  clear S1 F1_0 H1_0 F1_1 H1_1
  have S1 : ∀ g : Grown W2, b0 < g.w.heap.size := fun g => Nat.lt_of_lt_of_le Y1 g.h.size
  have F1_0 : ∀ g : Grown W2, g.w.cell? ⟨b0, 0, none⟩ = some (.int .i64 a) := fun g => (g.cell Y1).trans ((Below.cell hL2 (p := ⟨b0, 0, none⟩) s1).trans c1_0)
  have H1_0 : ∀ g : Grown W2, g.w.frozen? ⟨b0, 0, none⟩ = false := fun g => (g.frozen Y1).trans ((Below.frozen hL2 (p := ⟨b0, 0, none⟩) s1).trans d1_0)
  have F1_1 : ∀ g : Grown W2, g.w.cell? ⟨b0, 1, none⟩ = some (.int .i64 b) := fun g => (g.cell Y1).trans ((Below.cell hL2 (p := ⟨b0, 1, none⟩) s1).trans c1_1)
  have H1_1 : ∀ g : Grown W2, g.w.frozen? ⟨b0, 1, none⟩ = false := fun g => (g.frozen Y1).trans ((Below.frozen hL2 (p := ⟨b0, 1, none⟩) s1).trans d1_1)
  clear Y1 s1 c1_0 d1_0 c1_1 d1_1
  have s2 := S2 g3
  have Y2 : b1 < W2.heap.size := Nat.lt_of_lt_of_le s2 hL2.size
  have c2_0 := F2_0 g3
  have d2_0 := H2_0 g3
  have c2_1 := F2_1 g3
  have d2_1 := H2_1 g3
  clear S2 F2_0 H2_0 F2_1 H2_1
  have S2 : ∀ g : Grown W2, b1 < g.w.heap.size := fun g => Nat.lt_of_lt_of_le Y2 g.h.size
  have F2_0 : ∀ g : Grown W2, g.w.cell? ⟨b1, 0, none⟩ = some (.int .i64 c) := fun g => (g.cell Y2).trans ((Below.cell hL2 (p := ⟨b1, 0, none⟩) s2).trans c2_0)
  have H2_0 : ∀ g : Grown W2, g.w.frozen? ⟨b1, 0, none⟩ = false := fun g => (g.frozen Y2).trans ((Below.frozen hL2 (p := ⟨b1, 0, none⟩) s2).trans d2_0)
  have F2_1 : ∀ g : Grown W2, g.w.cell? ⟨b1, 1, none⟩ = some (.int .i64 d) := fun g => (g.cell Y2).trans ((Below.cell hL2 (p := ⟨b1, 1, none⟩) s2).trans c2_1)
  have H2_1 : ∀ g : Grown W2, g.w.frozen? ⟨b1, 1, none⟩ = false := fun g => (g.frozen Y2).trans ((Below.frozen hL2 (p := ⟨b1, 1, none⟩) s2).trans d2_1)
  clear Y2 s2 c2_0 d2_0 c2_1 d2_1
  have Y3 : nb2 < W2.heap.size := by subst hW2; subst hnb2; simp <;> omega
  have S3 : ∀ g : Grown W2, nb2 < g.w.heap.size := fun g => Nat.lt_of_lt_of_le Y3 g.h.size
  have F3_0 : ∀ g : Grown W2, g.w.cell? ⟨nb2, 0, none⟩ = some (.int .i64 p1) := fun g => (g.cell Y3).trans (by subst hW2; subst hnb2; simp [go_sem])
  have H3_0 : ∀ g : Grown W2, g.w.frozen? ⟨nb2, 0, none⟩ = false := fun g => (g.frozen Y3).trans (by subst hW2; subst hnb2; simp [go_sem])
  have F3_1 : ∀ g : Grown W2, g.w.cell? ⟨nb2, 1, none⟩ = some (.int .i64 p2) := fun g => (g.cell Y3).trans (by subst hW2; subst hnb2; simp [go_sem])
  have H3_1 : ∀ g : Grown W2, g.w.frozen? ⟨nb2, 1, none⟩ = false := fun g => (g.frozen Y3).trans (by subst hW2; subst hnb2; simp [go_sem])
  clear Y3
  rw [← hnb2]
  clear hnb2 hW2 hT1 hL2
  obtain ⟨h2, hg2⟩ : ∃ g : Grown W2, W2 = g.w := ⟨⟨W2, Below.refl _ _⟩, rfl⟩
  rw [hg2]
  clear hg2 g3
  refine region_quiet' h2 (by kernel_rfl) (by kernel_rfl) ?_
  repeat (go_big_quiet_step (first | (go_at_call 22; exact qc (same_yes _ _ _)) | exact qc (hc5.out _) | exact qc (hc6.out _) | exact qc (hc7.out _) | exact qc (hc8.out _) | exact qc (hc9.out _) | exact qc (hc10.out _) | exact qc (hc11.out _) | exact qc (hc12.out _) | exact qc (hc13.out _) | exact qc (hc14.out _) | exact qc (hc15.out _) | exact qc (hc16.out _)))
  refine wpQuiet_nil ?_
  rintro _ ⟨g4, rfl⟩
  go_wp2_with (fail)
  refine (hc17.out _).mono ?_
  rintro e5 w5 ⟨rfl, hB5⟩
  obtain ⟨g5, rfl⟩ := grow g4 hB5
  clear hB5
  go_wp2_with (fail)
  generalize hW3 : World.alloc g5.w _ = W3
  have hL3 : Below g5.w.heap.size g5.w W3 := by subst hW3; exact ((Below.refl _ _).alloc (by first | omega | (simp <;> omega)) _)
  have hT3 : Below w.heap.size w W3 := below_then (below_then hT2 g5.h) hL3
  obtain ⟨nb3, hnb3⟩ : ∃ nb, nb = g5.w.heap.size := ⟨_, rfl⟩
  have s0 := S0 g5
  have Y0 : w.heap.size < W3.heap.size := Nat.lt_of_lt_of_le s0 hL3.size
  have c0_0 := F0_0 g5
  have d0_0 := H0_0 g5
  have c0_1 := F0_1 g5
  have d0_1 := H0_1 g5
  have c0_2 := F0_2 g5
  have d0_2 := H0_2 g5
  have c0_3 := F0_3 g5
  have d0_3 := H0_3 g5
  have c0_4 := F0_4 g5
  have d0_4 := H0_4 g5
  have c0_5 := F0_5 g5
  have d0_5 := H0_5 g5
  clear S0 F0_0 H0_0 F0_1 H0_1 F0_2 H0_2 F0_3 H0_3 F0_4 H0_4 F0_5 H0_5
  have S0 : ∀ g : Grown W3, w.heap.size < g.w.heap.size := fun g => Nat.lt_of_lt_of_le Y0 g.h.size
  have F0_0 : ∀ g : Grown W3, g.w.cell? ⟨w.heap.size, 0, none⟩ = some (.int .i64 x0) := fun g => (g.cell Y0).trans ((Below.cell hL3 (p := ⟨w.heap.size, 0, none⟩) s0).trans c0_0)
  have H0_0 : ∀ g : Grown W3, g.w.frozen? ⟨w.heap.size, 0, none⟩ = false := fun g => (g.frozen Y0).trans ((Below.frozen hL3 (p := ⟨w.heap.size, 0, none⟩) s0).trans d0_0)
  have F0_1 : ∀ g : Grown W3, g.w.cell? ⟨w.heap.size, 1, none⟩ = some (.int .i64 x1) := fun g => (g.cell Y0).trans ((Below.cell hL3 (p := ⟨w.heap.size, 1, none⟩) s0).trans c0_1)
  have H0_1 : ∀ g : Grown W3, g.w.frozen? ⟨w.heap.size, 1, none⟩ = false := fun g => (g.frozen Y0).trans ((Below.frozen hL3 (p := ⟨w.heap.size, 1, none⟩) s0).trans d0_1)
  have F0_2 : ∀ g : Grown W3, g.w.cell? ⟨w.heap.size, 2, none⟩ = some (.int .i64 x2) := fun g => (g.cell Y0).trans ((Below.cell hL3 (p := ⟨w.heap.size, 2, none⟩) s0).trans c0_2)
  have H0_2 : ∀ g : Grown W3, g.w.frozen? ⟨w.heap.size, 2, none⟩ = false := fun g => (g.frozen Y0).trans ((Below.frozen hL3 (p := ⟨w.heap.size, 2, none⟩) s0).trans d0_2)
  have F0_3 : ∀ g : Grown W3, g.w.cell? ⟨w.heap.size, 3, none⟩ = some (.int .i64 x3) := fun g => (g.cell Y0).trans ((Below.cell hL3 (p := ⟨w.heap.size, 3, none⟩) s0).trans c0_3)
  have H0_3 : ∀ g : Grown W3, g.w.frozen? ⟨w.heap.size, 3, none⟩ = false := fun g => (g.frozen Y0).trans ((Below.frozen hL3 (p := ⟨w.heap.size, 3, none⟩) s0).trans d0_3)
  have F0_4 : ∀ g : Grown W3, g.w.cell? ⟨w.heap.size, 4, none⟩ = some (.int .i32 x4) := fun g => (g.cell Y0).trans ((Below.cell hL3 (p := ⟨w.heap.size, 4, none⟩) s0).trans c0_4)
  have H0_4 : ∀ g : Grown W3, g.w.frozen? ⟨w.heap.size, 4, none⟩ = false := fun g => (g.frozen Y0).trans ((Below.frozen hL3 (p := ⟨w.heap.size, 4, none⟩) s0).trans d0_4)
  have F0_5 : ∀ g : Grown W3, g.w.cell? ⟨w.heap.size, 5, none⟩ = some (.int .u16 x5) := fun g => (g.cell Y0).trans ((Below.cell hL3 (p := ⟨w.heap.size, 5, none⟩) s0).trans c0_5)
  have H0_5 : ∀ g : Grown W3, g.w.frozen? ⟨w.heap.size, 5, none⟩ = false := fun g => (g.frozen Y0).trans ((Below.frozen hL3 (p := ⟨w.heap.size, 5, none⟩) s0).trans d0_5)
  clear Y0 s0 c0_0 d0_0 c0_1 d0_1 c0_2 d0_2 c0_3 d0_3 c0_4 d0_4 c0_5 d0_5
  have s1 := S1 g5
  have Y1 : b0 < W3.heap.size := Nat.lt_of_lt_of_le s1 hL3.size
  have c1_0 := F1_0 g5
  have d1_0 := H1_0 g5
  have c1_1 := F1_1 g5
  have d1_1 := H1_1 g5
  clear S1 F1_0 H1_0 F1_1 H1_1
  have S1 : ∀ g : Grown W3, b0 < g.w.heap.size := fun g => Nat.lt_of_lt_of_le Y1 g.h.size
  have F1_0 : ∀ g : Grown W3, g.w.cell? ⟨b0, 0, none⟩ = some (.int .i64 a) := fun g => (g.cell Y1).trans ((Below.cell hL3 (p := ⟨b0, 0, none⟩) s1).trans c1_0)
  have H1_0 : ∀ g : Grown W3, g.w.frozen? ⟨b0, 0, none⟩ = false := fun g => (g.frozen Y1).trans ((Below.frozen hL3 (p := ⟨b0, 0, none⟩) s1).trans d1_0)
  have F1_1 : ∀ g : Grown W3, g.w.cell? ⟨b0, 1, none⟩ = some (.int .i64 b) := fun g => (g.cell Y1).trans ((Below.cell hL3 (p := ⟨b0, 1, none⟩) s1).trans c1_1)
  have H1_1 : ∀ g : Grown W3, g.w.frozen? ⟨b0, 1, none⟩ = false := fun g => (g.frozen Y1).trans ((Below.frozen hL3 (p := ⟨b0, 1, none⟩) s1).trans d1_1)
  clear Y1 s1 c1_0 d1_0 c1_1 d1_1
  have s2 := S2 g5
  have Y2 : b1 < W3.heap.size := Nat.lt_of_lt_of_le s2 hL3.size
  have c2_0 := F2_0 g5
  have d2_0 := H2_0 g5
  have c2_1 := F2_1 g5
  have d2_1 := H2_1 g5
  clear S2 F2_0 H2_0 F2_1 H2_1
  have S2 : ∀ g : Grown W3, b1 < g.w.heap.size := fun g => Nat.lt_of_lt_of_le Y2 g.h.size
  have F2_0 : ∀ g : Grown W3, g.w.cell? ⟨b1, 0, none⟩ = some (.int .i64 c) := fun g => (g.cell Y2).trans ((Below.cell hL3 (p := ⟨b1, 0, none⟩) s2).trans c2_0)
  have H2_0 : ∀ g : Grown W3, g.w.frozen? ⟨b1, 0, none⟩ = false := fun g => (g.frozen Y2).trans ((Below.frozen hL3 (p := ⟨b1, 0, none⟩) s2).trans d2_0)
  have F2_1 : ∀ g : Grown W3, g.w.cell? ⟨b1, 1, none⟩ = some (.int .i64 d) := fun g => (g.cell Y2).trans ((Below.cell hL3 (p := ⟨b1, 1, none⟩) s2).trans c2_1)
  have H2_1 : ∀ g : Grown W3, g.w.frozen? ⟨b1, 1, none⟩ = false := fun g => (g.frozen Y2).trans ((Below.frozen hL3 (p := ⟨b1, 1, none⟩) s2).trans d2_1)
  clear Y2 s2 c2_0 d2_0 c2_1 d2_1
  have s3 := S3 g5
  have Y3 : nb2 < W3.heap.size := Nat.lt_of_lt_of_le s3 hL3.size
  have c3_0 := F3_0 g5
  have d3_0 := H3_0 g5
  have c3_1 := F3_1 g5
  have d3_1 := H3_1 g5
  clear S3 F3_0 H3_0 F3_1 H3_1
  have S3 : ∀ g : Grown W3, nb2 < g.w.heap.size := fun g => Nat.lt_of_lt_of_le Y3 g.h.size
  have F3_0 : ∀ g : Grown W3, g.w.cell? ⟨nb2, 0, none⟩ = some (.int .i64 p1) := fun g => (g.cell Y3).trans ((Below.cell hL3 (p := ⟨nb2, 0, none⟩) s3).trans c3_0)
  have H3_0 : ∀ g : Grown W3, g.w.frozen? ⟨nb2, 0, none⟩ = false := fun g => (g.frozen Y3).trans ((Below.frozen hL3 (p := ⟨nb2, 0, none⟩) s3).trans d3_0)
  have F3_1 : ∀ g : Grown W3, g.w.cell? ⟨nb2, 1, none⟩ = some (.int .i64 p2) := fun g => (g.cell Y3).trans ((Below.cell hL3 (p := ⟨nb2, 1, none⟩) s3).trans c3_1)
  have H3_1 : ∀ g : Grown W3, g.w.frozen? ⟨nb2, 1, none⟩ = false := fun g => (g.frozen Y3).trans ((Below.frozen hL3 (p := ⟨nb2, 1, none⟩) s3).trans d3_1)
  clear Y3 s3 c3_0 d3_0 c3_1 d3_1
  have Y4 : nb3 < W3.heap.size := by subst hW3; subst hnb3; simp <;> omega
  have S4 : ∀ g : Grown W3, nb3 < g.w.heap.size := fun g => Nat.lt_of_lt_of_le Y4 g.h.size
  have F4_0 : ∀ g : Grown W3, g.w.cell? ⟨nb3, 0, none⟩ = some (.int .i64 r1) := fun g => (g.cell Y4).trans (by subst hW3; subst hnb3; simp [go_sem])
  have H4_0 : ∀ g : Grown W3, g.w.frozen? ⟨nb3, 0, none⟩ = false := fun g => (g.frozen Y4).trans (by subst hW3; subst hnb3; simp [go_sem])
  have F4_1 : ∀ g : Grown W3, g.w.cell? ⟨nb3, 1, none⟩ = some (.int .i64 r2) := fun g => (g.cell Y4).trans (by subst hW3; subst hnb3; simp [go_sem])
  have H4_1 : ∀ g : Grown W3, g.w.frozen? ⟨nb3, 1, none⟩ = false := fun g => (g.frozen Y4).trans (by subst hW3; subst hnb3; simp [go_sem])
  clear Y4
  rw [← hnb3]
  clear hnb3 hW3 hT2 hL3
  obtain ⟨h3, hg3⟩ : ∃ g : Grown W3, W3 = g.w := ⟨⟨W3, Below.refl _ _⟩, rfl⟩
  rw [hg3]
  clear hg3 g5
  refine region_quiet' h3 (by kernel_rfl) (by kernel_rfl) ?_
  repeat (go_big_quiet_step (first | (go_at_call 22; exact qc (same_yes _ _ _)) | exact qc (hc18.out _) | exact qc (hc19.out _) | exact qc (hc20.out _) | exact qc (hc21.out _) | exact qc (hc22.out _) | exact qc (hc23.out _) | exact qc (hc5.out _) | exact qc (hc6.out _) | exact qc (hc7.out _) | exact qc (hc8.out _) | exact qc (hc9.out _) | exact qc (hc10.out _) | exact qc (hc11.out _) | exact qc (hc12.out _) | exact qc (hc13.out _) | exact qc (hc14.out _) | exact qc (hc15.out _) | exact qc (hc16.out _)))
  refine wpQuiet_nil ?_
  rintro _ ⟨g6, rfl⟩
  go_wp2_with (fail)
  refine region_quiet' g6 (by kernel_rfl) (by kernel_rfl) ?_
  repeat (go_big_quiet_step (first | (go_at_call 22; exact qc (same_yes _ _ _)) | exact qc (hc24.out _) | exact qc (hc25.out _) | exact qc (hc26.out _) | exact qc (hc27.out _) | exact qc (hc28.out _) | exact qc (hc29.out _) | exact qc (hc5.out _) | exact qc (hc6.out _) | exact qc (hc7.out _) | exact qc (hc8.out _) | exact qc (hc9.out _) | exact qc (hc10.out _) | exact qc (hc11.out _) | exact qc (hc12.out _) | exact qc (hc13.out _) | exact qc (hc14.out _) | exact qc (hc15.out _) | exact qc (hc16.out _) | exact qc (hc18.out _) | exact qc (hc19.out _) | exact qc (hc20.out _) | exact qc (hc21.out _) | exact qc (hc22.out _) | exact qc (hc23.out _) | exact qc (hcs1.out _) | exact qc (hcs2.out _) | exact qc (hcs3.out _)))
  refine wpQuiet_nil ?_
  rintro _ ⟨g7, rfl⟩
  go_wp2_with (fail)
  have hB : Below w.heap.size w g7.w := below_then hT3 g7.h
  go_ret
  refine ⟨rfl, ?_⟩
  go_grown
end Go.Proofs.Ytgkhkclpgkohbaa
