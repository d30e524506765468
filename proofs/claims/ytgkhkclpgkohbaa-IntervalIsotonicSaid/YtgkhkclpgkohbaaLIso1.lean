/-
  The law of isotony: its walk.
-/
import Derived.Test.YtgkhkclpgkohbaaSanity
import Derived.Test.YtgkhkclpgkohbaaR1
import Derived.Test.YtgkhkclpgkohbaaWiden
import Derived.Deep.DrawnRows
namespace Go.Proofs.Ytgkhkclpgkohbaa
open Go.ChangeShapes Go.WideShapes Go.ChangeAt Go.RowKit
set_option linter.unusedVariables false
set_option linter.unusedSimpArgs false

open Go.BigFrame
attribute [local irreducible] Calls
set_option maxRecDepth 100000 in
set_option maxHeartbeats 8000000 in
theorem iso_walk (x0 x1 x2 x3 x4 x5 y0 y1 z0 z1 a b c d i j k l n m ad1 ad2 ad_1 ad_2 sb1 sb2 sb_1 sb_2 mu1 mu2 mu_1 mu_2 sq1 sq2 sq_1 sq_2 dv1 dv2 dv_1 dv_2 mr1 mr2 mr_1 mr_2 hu1 hu2 hu_1 hu_2 p1 p2 q1 q2 s1 s2 t1 t2 : Int) (is wide met still : Bool) (w : World) (z1h : is = true → wide = true) (z2h : met = true → still = true) (u1 : ∀ w, Calls Try.prog 16 #[.agg #[.int .i64 x0, .int .i64 x1]] w fun e w' => e = .returned (.agg #[.int .i64 a, .int .i64 b]) ∧ Below w.heap.size w w') (u2 : ∀ w, Calls Try.prog 16 #[.agg #[.int .i64 x2, .int .i64 x3]] w fun e w' => e = .returned (.agg #[.int .i64 c, .int .i64 d]) ∧ Below w.heap.size w w') (w1 : ∀ w, Calls Try.prog 61 #[.agg #[.int .i64 a, .int .i64 b], .int .u32 y0, .int .u32 z0] w fun e w' => e = .returned (.agg #[.int .i64 i, .int .i64 j]) ∧ Below w.heap.size w w') (w2 : ∀ w, Calls Try.prog 61 #[.agg #[.int .i64 c, .int .i64 d], .int .u32 y1, .int .u32 z1] w fun e w' => e = .returned (.agg #[.int .i64 k, .int .i64 l]) ∧ Below w.heap.size w w') (ra : ∀ w, Calls Try.prog 17 #[.agg #[.int .i64 x0, .int .i64 x1, .int .i64 x2, .int .i64 x3, .int .i32 x4, .int .u16 x5]] w fun e w' => e = .returned (.tuple #[.int .i64 n, .int .i64 m]) ∧ Below w.heap.size w w') (s0 : ∀ w, Calls Try.prog 27 #[.agg #[.int .i64 a, .int .i64 b], .agg #[.int .i64 i, .int .i64 j]] w fun e w' => e = .returned (.bool true) ∧ Below w.heap.size w w') (ada : ∀ w, Calls Try.prog 45 #[.agg #[.int .i64 a, .int .i64 b], .agg #[.int .i64 c, .int .i64 d]] w fun e w' => e = .returned (.agg #[.int .i64 ad1, .int .i64 ad2]) ∧ Below w.heap.size w w') (adb : ∀ w, Calls Try.prog 45 #[.agg #[.int .i64 i, .int .i64 j], .agg #[.int .i64 k, .int .i64 l]] w fun e w' => e = .returned (.agg #[.int .i64 ad_1, .int .i64 ad_2]) ∧ Below w.heap.size w w') (adc : ∀ w, Calls Try.prog 27 #[.agg #[.int .i64 ad1, .int .i64 ad2], .agg #[.int .i64 ad_1, .int .i64 ad_2]] w fun e w' => e = .returned (.bool true) ∧ Below w.heap.size w w') (sba : ∀ w, Calls Try.prog 47 #[.agg #[.int .i64 a, .int .i64 b], .agg #[.int .i64 c, .int .i64 d]] w fun e w' => e = .returned (.agg #[.int .i64 sb1, .int .i64 sb2]) ∧ Below w.heap.size w w') (sbb : ∀ w, Calls Try.prog 47 #[.agg #[.int .i64 i, .int .i64 j], .agg #[.int .i64 k, .int .i64 l]] w fun e w' => e = .returned (.agg #[.int .i64 sb_1, .int .i64 sb_2]) ∧ Below w.heap.size w w') (sbc : ∀ w, Calls Try.prog 27 #[.agg #[.int .i64 sb1, .int .i64 sb2], .agg #[.int .i64 sb_1, .int .i64 sb_2]] w fun e w' => e = .returned (.bool true) ∧ Below w.heap.size w w') (mua : ∀ w, Calls Try.prog 51 #[.agg #[.int .i64 a, .int .i64 b], .agg #[.int .i64 c, .int .i64 d]] w fun e w' => e = .returned (.agg #[.int .i64 mu1, .int .i64 mu2]) ∧ Below w.heap.size w w') (mub : ∀ w, Calls Try.prog 51 #[.agg #[.int .i64 i, .int .i64 j], .agg #[.int .i64 k, .int .i64 l]] w fun e w' => e = .returned (.agg #[.int .i64 mu_1, .int .i64 mu_2]) ∧ Below w.heap.size w w') (muc : ∀ w, Calls Try.prog 27 #[.agg #[.int .i64 mu1, .int .i64 mu2], .agg #[.int .i64 mu_1, .int .i64 mu_2]] w fun e w' => e = .returned (.bool true) ∧ Below w.heap.size w w') (sqa : ∀ w, Calls Try.prog 53 #[.agg #[.int .i64 a, .int .i64 b]] w fun e w' => e = .returned (.agg #[.int .i64 sq1, .int .i64 sq2]) ∧ Below w.heap.size w w') (sqb : ∀ w, Calls Try.prog 53 #[.agg #[.int .i64 i, .int .i64 j]] w fun e w' => e = .returned (.agg #[.int .i64 sq_1, .int .i64 sq_2]) ∧ Below w.heap.size w w') (sqc : ∀ w, Calls Try.prog 27 #[.agg #[.int .i64 sq1, .int .i64 sq2], .agg #[.int .i64 sq_1, .int .i64 sq_2]] w fun e w' => e = .returned (.bool true) ∧ Below w.heap.size w w') (dva : ∀ w, Calls Try.prog 55 #[.agg #[.int .i64 a, .int .i64 b], .agg #[.int .i64 c, .int .i64 d]] w fun e w' => e = .returned (.agg #[.int .i64 dv1, .int .i64 dv2]) ∧ Below w.heap.size w w') (dvb : ∀ w, Calls Try.prog 55 #[.agg #[.int .i64 i, .int .i64 j], .agg #[.int .i64 k, .int .i64 l]] w fun e w' => e = .returned (.agg #[.int .i64 dv_1, .int .i64 dv_2]) ∧ Below w.heap.size w w') (dvc : ∀ w, Calls Try.prog 27 #[.agg #[.int .i64 dv1, .int .i64 dv2], .agg #[.int .i64 dv_1, .int .i64 dv_2]] w fun e w' => e = .returned (.bool true) ∧ Below w.heap.size w w') (mra : ∀ w, Calls Try.prog 23 #[.agg #[.int .i64 a, .int .i64 b], .int .i64 n, .int .i64 m] w fun e w' => e = .returned (.agg #[.int .i64 mr1, .int .i64 mr2]) ∧ Below w.heap.size w w') (mrb : ∀ w, Calls Try.prog 23 #[.agg #[.int .i64 i, .int .i64 j], .int .i64 n, .int .i64 m] w fun e w' => e = .returned (.agg #[.int .i64 mr_1, .int .i64 mr_2]) ∧ Below w.heap.size w w') (mrc : ∀ w, Calls Try.prog 27 #[.agg #[.int .i64 mr1, .int .i64 mr2], .agg #[.int .i64 mr_1, .int .i64 mr_2]] w fun e w' => e = .returned (.bool true) ∧ Below w.heap.size w w') (hua : ∀ w, Calls Try.prog 25 #[.agg #[.int .i64 a, .int .i64 b], .agg #[.int .i64 c, .int .i64 d]] w fun e w' => e = .returned (.agg #[.int .i64 hu1, .int .i64 hu2]) ∧ Below w.heap.size w w') (hub : ∀ w, Calls Try.prog 25 #[.agg #[.int .i64 i, .int .i64 j], .agg #[.int .i64 k, .int .i64 l]] w fun e w' => e = .returned (.agg #[.int .i64 hu_1, .int .i64 hu_2]) ∧ Below w.heap.size w w') (huc : ∀ w, Calls Try.prog 27 #[.agg #[.int .i64 hu1, .int .i64 hu2], .agg #[.int .i64 hu_1, .int .i64 hu_2]] w fun e w' => e = .returned (.bool true) ∧ Below w.heap.size w w') (qa : ∀ w, Calls Try.prog 18 #[.agg #[.int .i64 a, .int .i64 b]] w fun e w' => e = .returned (.tuple #[.agg #[.int .i64 p1, .int .i64 p2], .bool is]) ∧ Below w.heap.size w w') (qb : ∀ w, Calls Try.prog 18 #[.agg #[.int .i64 i, .int .i64 j]] w fun e w' => e = .returned (.tuple #[.agg #[.int .i64 q1, .int .i64 q2], .bool wide]) ∧ Below w.heap.size w w') (ma : ∀ w, Calls Try.prog 20 #[.agg #[.int .i64 a, .int .i64 b], .agg #[.int .i64 c, .int .i64 d]] w fun e w' => e = .returned (.tuple #[.agg #[.int .i64 s1, .int .i64 s2], .bool met]) ∧ Below w.heap.size w w') (mb : ∀ w, Calls Try.prog 20 #[.agg #[.int .i64 i, .int .i64 j], .agg #[.int .i64 k, .int .i64 l]] w fun e w' => e = .returned (.tuple #[.agg #[.int .i64 t1, .int .i64 t2], .bool still]) ∧ Below w.heap.size w w') (qc_ : is = true → ∀ w, Calls Try.prog 27 #[.agg #[.int .i64 p1, .int .i64 p2], .agg #[.int .i64 q1, .int .i64 q2]] w fun e w' => e = .returned (.bool true) ∧ Below w.heap.size w w') (mc : met = true → ∀ w, Calls Try.prog 27 #[.agg #[.int .i64 s1, .int .i64 s2], .agg #[.int .i64 t1, .int .i64 t2]] w fun e w' => e = .returned (.bool true) ∧ Below w.heap.size w w') :
    Calls Try.prog 6 #[.agg #[.int .i64 x0, .int .i64 x1, .int .i64 x2, .int .i64 x3, .int .i32 x4, .int .u16 x5], .agg #[.int .u32 y0, .int .u32 y1], .agg #[.int .u32 z0, .int .u32 z1]] w fun e w' => e = .returned (.bool true) ∧ Below w.heap.size w w' := by
  have hu1 := Lib.hid u1
  clear u1
  have hu2 := Lib.hid u2
  clear u2
  have hw1 := Lib.hid w1
  clear w1
  have hw2 := Lib.hid w2
  clear w2
  have hra := Lib.hid ra
  clear ra
  have hs0 := Lib.hid s0
  clear s0
  have hada := Lib.hid ada
  clear ada
  have hadb := Lib.hid adb
  clear adb
  have hadc := Lib.hid adc
  clear adc
  have hsba := Lib.hid sba
  clear sba
  have hsbb := Lib.hid sbb
  clear sbb
  have hsbc := Lib.hid sbc
  clear sbc
  have hmua := Lib.hid mua
  clear mua
  have hmub := Lib.hid mub
  clear mub
  have hmuc := Lib.hid muc
  clear muc
  have hsqa := Lib.hid sqa
  clear sqa
  have hsqb := Lib.hid sqb
  clear sqb
  have hsqc := Lib.hid sqc
  clear sqc
  have hdva := Lib.hid dva
  clear dva
  have hdvb := Lib.hid dvb
  clear dvb
  have hdvc := Lib.hid dvc
  clear dvc
  have hmra := Lib.hid mra
  clear mra
  have hmrb := Lib.hid mrb
  clear mrb
  have hmrc := Lib.hid mrc
  clear mrc
  have hhua := Lib.hid hua
  clear hua
  have hhub := Lib.hid hub
  clear hub
  have hhuc := Lib.hid huc
  clear huc
  have hqa := Lib.hid qa
  clear qa
  have hqb := Lib.hid qb
  clear qb
  have hma := Lib.hid ma
  clear ma
  have hmb := Lib.hid mb
  clear mb
  have hqc_ := Lib.hid qc_
  clear qc_
  have hmc := Lib.hid mc
  clear mc
  have hz1 := Lib.hid z1h
  clear z1h
  have hz2 := Lib.hid z2h
  clear z2h
  go_enter Try.func6, Try.ntmps6
  go_wp2_with (fail)
  generalize hW0 : World.alloc (World.alloc (World.alloc w _) _) _ = W0
  have hT0 : Below w.heap.size w W0 := by subst hW0; exact ((((Below.refl w.heap.size w).alloc (by go_size) _).alloc (by go_size) _).alloc (by go_size) _)
  have Y0 : w.heap.size < W0.heap.size := by subst hW0; simp <;> omega
  have S0 : ∀ g : Grown W0, w.heap.size < g.w.heap.size := fun g => Nat.lt_of_lt_of_le Y0 g.h.size
  have F0_0 : ∀ g : Grown W0, g.w.cell? ⟨w.heap.size, 0, none⟩ = some (.int .i64 x0) := fun g => (g.cell Y0).trans (by subst hW0; simp [go_sem])
  have H0_0 : ∀ g : Grown W0, g.w.frozen? ⟨w.heap.size, 0, none⟩ = false := fun g => (g.frozen Y0).trans (by subst hW0; simp [go_sem])
  have F0_1 : ∀ g : Grown W0, g.w.cell? ⟨w.heap.size, 1, none⟩ = some (.int .i64 x1) := fun g => (g.cell Y0).trans (by subst hW0; simp [go_sem])
  have H0_1 : ∀ g : Grown W0, g.w.frozen? ⟨w.heap.size, 1, none⟩ = false := fun g => (g.frozen Y0).trans (by subst hW0; simp [go_sem])
  have F0_2 : ∀ g : Grown W0, g.w.cell? ⟨w.heap.size, 2, none⟩ = some (.int .i64 x2) := fun g => (g.cell Y0).trans (by subst hW0; simp [go_sem])
  have H0_2 : ∀ g : Grown W0, g.w.frozen? ⟨w.heap.size, 2, none⟩ = false := fun g => (g.frozen Y0).trans (by subst hW0; simp [go_sem])
  have F0_3 : ∀ g : Grown W0, g.w.cell? ⟨w.heap.size, 3, none⟩ = some (.int .i64 x3) := fun g => (g.cell Y0).trans (by subst hW0; simp [go_sem])
  have H0_3 : ∀ g : Grown W0, g.w.frozen? ⟨w.heap.size, 3, none⟩ = false := fun g => (g.frozen Y0).trans (by subst hW0; simp [go_sem])
  have F0_4 : ∀ g : Grown W0, g.w.cell? ⟨w.heap.size, 4, none⟩ = some (.int .i32 x4) := fun g => (g.cell Y0).trans (by subst hW0; simp [go_sem])
  have H0_4 : ∀ g : Grown W0, g.w.frozen? ⟨w.heap.size, 4, none⟩ = false := fun g => (g.frozen Y0).trans (by subst hW0; simp [go_sem])
  have F0_5 : ∀ g : Grown W0, g.w.cell? ⟨w.heap.size, 5, none⟩ = some (.int .u16 x5) := fun g => (g.cell Y0).trans (by subst hW0; simp [go_sem])
  have H0_5 : ∀ g : Grown W0, g.w.frozen? ⟨w.heap.size, 5, none⟩ = false := fun g => (g.frozen Y0).trans (by subst hW0; simp [go_sem])
  clear Y0
  have Y1 : w.heap.size + 1 < W0.heap.size := by subst hW0; simp <;> omega
  have S1 : ∀ g : Grown W0, w.heap.size + 1 < g.w.heap.size := fun g => Nat.lt_of_lt_of_le Y1 g.h.size
  have F1_0 : ∀ g : Grown W0, g.w.cell? ⟨w.heap.size + 1, 0, none⟩ = some (.int .u32 y0) := fun g => (g.cell Y1).trans (by subst hW0; simp [go_sem])
  have H1_0 : ∀ g : Grown W0, g.w.frozen? ⟨w.heap.size + 1, 0, none⟩ = false := fun g => (g.frozen Y1).trans (by subst hW0; simp [go_sem])
  have F1_1 : ∀ g : Grown W0, g.w.cell? ⟨w.heap.size + 1, 1, none⟩ = some (.int .u32 y1) := fun g => (g.cell Y1).trans (by subst hW0; simp [go_sem])
  have H1_1 : ∀ g : Grown W0, g.w.frozen? ⟨w.heap.size + 1, 1, none⟩ = false := fun g => (g.frozen Y1).trans (by subst hW0; simp [go_sem])
  clear Y1
  have Y2 : w.heap.size + 1 + 1 < W0.heap.size := by subst hW0; simp <;> omega
  have S2 : ∀ g : Grown W0, w.heap.size + 1 + 1 < g.w.heap.size := fun g => Nat.lt_of_lt_of_le Y2 g.h.size
  have F2_0 : ∀ g : Grown W0, g.w.cell? ⟨w.heap.size + 1 + 1, 0, none⟩ = some (.int .u32 z0) := fun g => (g.cell Y2).trans (by subst hW0; simp [go_sem])
  have H2_0 : ∀ g : Grown W0, g.w.frozen? ⟨w.heap.size + 1 + 1, 0, none⟩ = false := fun g => (g.frozen Y2).trans (by subst hW0; simp [go_sem])
  have F2_1 : ∀ g : Grown W0, g.w.cell? ⟨w.heap.size + 1 + 1, 1, none⟩ = some (.int .u32 z1) := fun g => (g.cell Y2).trans (by subst hW0; simp [go_sem])
  have H2_1 : ∀ g : Grown W0, g.w.frozen? ⟨w.heap.size + 1 + 1, 1, none⟩ = false := fun g => (g.frozen Y2).trans (by subst hW0; simp [go_sem])
  clear Y2
  clear hW0
  obtain ⟨g0, hg0⟩ : ∃ g : Grown W0, W0 = g.w := ⟨⟨W0, Below.refl _ _⟩, rfl⟩
  rw [hg0]
  clear hg0
  refine (sanity2 _).mono ?_
  rintro e1 w1 ⟨rfl, hB1⟩
  obtain ⟨g1, rfl⟩ := grow g0 hB1
  clear hB1
  go_wp2_with (fail)
  refine region_data 8 23 _ (by kernel_rfl) new_iv (by kernel_rfl) ?_
  refine data_op (.pointer (some ⟨w.heap.size, 0, none⟩)) rfl (RQ_pure (fun w => by simp [go_sem])) ?_
  simp only [Act.put, List.setIfInBounds_toArray, List.set_cons_succ, List.set_cons_zero]
  refine data_op _ rfl (RQ_load rfl rfl (load_iv_at (S0 _) (F0_0 _) (F0_1 _))) ?_
  simp only [Act.put, List.setIfInBounds_toArray, List.set_cons_succ, List.set_cons_zero]
  refine data_op _ rfl (RQ_call hu1.out (fun _ => by simp [go_sem])) ?_
  simp only [Act.put, List.setIfInBounds_toArray, List.set_cons_succ, List.set_cons_zero]
  refine data_op (.pointer (some ⟨w.heap.size, 2, none⟩)) rfl (RQ_pure (fun w => by simp [go_sem])) ?_
  simp only [Act.put, List.setIfInBounds_toArray, List.set_cons_succ, List.set_cons_zero]
  refine data_op _ rfl (RQ_load rfl rfl (load_iv_at (S0 _) (F0_2 _) (F0_3 _))) ?_
  simp only [Act.put, List.setIfInBounds_toArray, List.set_cons_succ, List.set_cons_zero]
  refine data_op _ rfl (RQ_call hu2.out (fun _ => by simp [go_sem])) ?_
  simp only [Act.put, List.setIfInBounds_toArray, List.set_cons_succ, List.set_cons_zero]
  refine data_al rfl ?_
  simp only [Act.put, List.setIfInBounds_toArray, List.set_cons_succ, List.set_cons_zero]
  refine data_al rfl ?_
  simp only [Act.put, List.setIfInBounds_toArray, List.set_cons_succ, List.set_cons_zero]
  refine data_end ?_
  intro wh hBh
  simp only [Act.put, List.drop_succ_cons, List.drop_zero, List.take_succ_cons, List.take_zero, alDsts, List.filterMap_cons, List.filterMap_nil, isAl, Bool.false_eq_true, if_false, if_true, finK]
  intro b1x0 p0 q0 r0 o0
  intro b1x1 p1 q1 r1 o1
  obtain ⟨u00, u01, v00, v01⟩ := new_cell o0
  obtain ⟨u10, u11, v10, v11⟩ := new_cell o1
  have n01 : b1x0 ≠ b1x1 := r1 b1x0 (by simp)
  clear r0 o0 r1 o1
  simp only [List.setIfInBounds_toArray, List.set_cons_succ, List.set_cons_zero]
  refine list_store rfl rfl rfl rfl rfl (by exact u00) (by exact u01) (by exact v00) (by exact v01) ?_
  refine list_store rfl rfl rfl rfl rfl (by rw [st2_old (Ne.symm n01)]; exact u10) (by rw [st2_old (Ne.symm n01)]; exact u11) (by simp only [st2_frozen]; exact v10) (by simp only [st2_frozen]; exact v11) ?_
  refine wpList_nil ?_
  generalize e1 : (st2 (st2 wh b1x0 (.int .i64 a) (.int .i64 b)) b1x1 (.int .i64 c) (.int .i64 d)) = W1
  have hL1 : Below g1.w.heap.size g1.w W1 := by rw [← e1]; exact (st2_below (st2_below hBh p0) p1)
  have hT1 : Below w.heap.size w W1 := below_then (below_then hT0 g1.h) hL1
  have s0 := S0 g1
  have Y0 : w.heap.size < W1.heap.size := Nat.lt_of_lt_of_le s0 hL1.size
  have c0_0 := F0_0 g1
  have d0_0 := H0_0 g1
  have c0_1 := F0_1 g1
  have d0_1 := H0_1 g1
  have c0_2 := F0_2 g1
  have d0_2 := H0_2 g1
  have c0_3 := F0_3 g1
  have d0_3 := H0_3 g1
  have c0_4 := F0_4 g1
  have d0_4 := H0_4 g1
  have c0_5 := F0_5 g1
  have d0_5 := H0_5 g1
  clear S0 F0_0 H0_0 F0_1 H0_1 F0_2 H0_2 F0_3 H0_3 F0_4 H0_4 F0_5 H0_5
  have S0 : ∀ g : Grown W1, w.heap.size < g.w.heap.size := fun g => Nat.lt_of_lt_of_le Y0 g.h.size
  have F0_0 : ∀ g : Grown W1, g.w.cell? ⟨w.heap.size, 0, none⟩ = some (.int .i64 x0) := fun g => (g.cell Y0).trans ((Below.cell hL1 (p := ⟨w.heap.size, 0, none⟩) s0).trans c0_0)
  have H0_0 : ∀ g : Grown W1, g.w.frozen? ⟨w.heap.size, 0, none⟩ = false := fun g => (g.frozen Y0).trans ((Below.frozen hL1 (p := ⟨w.heap.size, 0, none⟩) s0).trans d0_0)
  have F0_1 : ∀ g : Grown W1, g.w.cell? ⟨w.heap.size, 1, none⟩ = some (.int .i64 x1) := fun g => (g.cell Y0).trans ((Below.cell hL1 (p := ⟨w.heap.size, 1, none⟩) s0).trans c0_1)
  have H0_1 : ∀ g : Grown W1, g.w.frozen? ⟨w.heap.size, 1, none⟩ = false := fun g => (g.frozen Y0).trans ((Below.frozen hL1 (p := ⟨w.heap.size, 1, none⟩) s0).trans d0_1)
  have F0_2 : ∀ g : Grown W1, g.w.cell? ⟨w.heap.size, 2, none⟩ = some (.int .i64 x2) := fun g => (g.cell Y0).trans ((Below.cell hL1 (p := ⟨w.heap.size, 2, none⟩) s0).trans c0_2)
  have H0_2 : ∀ g : Grown W1, g.w.frozen? ⟨w.heap.size, 2, none⟩ = false := fun g => (g.frozen Y0).trans ((Below.frozen hL1 (p := ⟨w.heap.size, 2, none⟩) s0).trans d0_2)
  have F0_3 : ∀ g : Grown W1, g.w.cell? ⟨w.heap.size, 3, none⟩ = some (.int .i64 x3) := fun g => (g.cell Y0).trans ((Below.cell hL1 (p := ⟨w.heap.size, 3, none⟩) s0).trans c0_3)
  have H0_3 : ∀ g : Grown W1, g.w.frozen? ⟨w.heap.size, 3, none⟩ = false := fun g => (g.frozen Y0).trans ((Below.frozen hL1 (p := ⟨w.heap.size, 3, none⟩) s0).trans d0_3)
  have F0_4 : ∀ g : Grown W1, g.w.cell? ⟨w.heap.size, 4, none⟩ = some (.int .i32 x4) := fun g => (g.cell Y0).trans ((Below.cell hL1 (p := ⟨w.heap.size, 4, none⟩) s0).trans c0_4)
  have H0_4 : ∀ g : Grown W1, g.w.frozen? ⟨w.heap.size, 4, none⟩ = false := fun g => (g.frozen Y0).trans ((Below.frozen hL1 (p := ⟨w.heap.size, 4, none⟩) s0).trans d0_4)
  have F0_5 : ∀ g : Grown W1, g.w.cell? ⟨w.heap.size, 5, none⟩ = some (.int .u16 x5) := fun g => (g.cell Y0).trans ((Below.cell hL1 (p := ⟨w.heap.size, 5, none⟩) s0).trans c0_5)
  have H0_5 : ∀ g : Grown W1, g.w.frozen? ⟨w.heap.size, 5, none⟩ = false := fun g => (g.frozen Y0).trans ((Below.frozen hL1 (p := ⟨w.heap.size, 5, none⟩) s0).trans d0_5)
  clear Y0 s0 c0_0 d0_0 c0_1 d0_1 c0_2 d0_2 c0_3 d0_3 c0_4 d0_4 c0_5 d0_5
  have s1 := S1 g1
  have Y1 : w.heap.size + 1 < W1.heap.size := Nat.lt_of_lt_of_le s1 hL1.size
  have c1_0 := F1_0 g1
  have d1_0 := H1_0 g1
  have c1_1 := F1_1 g1
  have d1_1 := H1_1 g1
  clear S1 F1_0 H1_0 F1_1 H1_1
  have S1 : ∀ g : Grown W1, w.heap.size + 1 < g.w.heap.size := fun g => Nat.lt_of_lt_of_le Y1 g.h.size
  have F1_0 : ∀ g : Grown W1, g.w.cell? ⟨w.heap.size + 1, 0, none⟩ = some (.int .u32 y0) := fun g => (g.cell Y1).trans ((Below.cell hL1 (p := ⟨w.heap.size + 1, 0, none⟩) s1).trans c1_0)
  have H1_0 : ∀ g : Grown W1, g.w.frozen? ⟨w.heap.size + 1, 0, none⟩ = false := fun g => (g.frozen Y1).trans ((Below.frozen hL1 (p := ⟨w.heap.size + 1, 0, none⟩) s1).trans d1_0)
  have F1_1 : ∀ g : Grown W1, g.w.cell? ⟨w.heap.size + 1, 1, none⟩ = some (.int .u32 y1) := fun g => (g.cell Y1).trans ((Below.cell hL1 (p := ⟨w.heap.size + 1, 1, none⟩) s1).trans c1_1)
  have H1_1 : ∀ g : Grown W1, g.w.frozen? ⟨w.heap.size + 1, 1, none⟩ = false := fun g => (g.frozen Y1).trans ((Below.frozen hL1 (p := ⟨w.heap.size + 1, 1, none⟩) s1).trans d1_1)
  clear Y1 s1 c1_0 d1_0 c1_1 d1_1
  have s2 := S2 g1
  have Y2 : w.heap.size + 1 + 1 < W1.heap.size := Nat.lt_of_lt_of_le s2 hL1.size
  have c2_0 := F2_0 g1
  have d2_0 := H2_0 g1
  have c2_1 := F2_1 g1
  have d2_1 := H2_1 g1
  clear S2 F2_0 H2_0 F2_1 H2_1
  have S2 : ∀ g : Grown W1, w.heap.size + 1 + 1 < g.w.heap.size := fun g => Nat.lt_of_lt_of_le Y2 g.h.size
  have F2_0 : ∀ g : Grown W1, g.w.cell? ⟨w.heap.size + 1 + 1, 0, none⟩ = some (.int .u32 z0) := fun g => (g.cell Y2).trans ((Below.cell hL1 (p := ⟨w.heap.size + 1 + 1, 0, none⟩) s2).trans c2_0)
  have H2_0 : ∀ g : Grown W1, g.w.frozen? ⟨w.heap.size + 1 + 1, 0, none⟩ = false := fun g => (g.frozen Y2).trans ((Below.frozen hL1 (p := ⟨w.heap.size + 1 + 1, 0, none⟩) s2).trans d2_0)
  have F2_1 : ∀ g : Grown W1, g.w.cell? ⟨w.heap.size + 1 + 1, 1, none⟩ = some (.int .u32 z1) := fun g => (g.cell Y2).trans ((Below.cell hL1 (p := ⟨w.heap.size + 1 + 1, 1, none⟩) s2).trans c2_1)
  have H2_1 : ∀ g : Grown W1, g.w.frozen? ⟨w.heap.size + 1 + 1, 1, none⟩ = false := fun g => (g.frozen Y2).trans ((Below.frozen hL1 (p := ⟨w.heap.size + 1 + 1, 1, none⟩) s2).trans d2_1)
  clear Y2 s2 c2_0 d2_0 c2_1 d2_1
  have Y3 : b1x0 < W1.heap.size := by rw [← e1]; simp only [st2_size]; exact q0
  have S3 : ∀ g : Grown W1, b1x0 < g.w.heap.size := fun g => Nat.lt_of_lt_of_le Y3 g.h.size
  have F3_0 : ∀ g : Grown W1, g.w.cell? ⟨b1x0, 0, none⟩ = some (.int .i64 a) := fun g => (g.cell Y3).trans (by rw [← e1]; rw [st2_old n01]; exact st2_0 (u := .int .i64 0) (by exact u00))
  have H3_0 : ∀ g : Grown W1, g.w.frozen? ⟨b1x0, 0, none⟩ = false := fun g => (g.frozen Y3).trans (by rw [← e1]; simp only [st2_frozen]; exact v00)
  have F3_1 : ∀ g : Grown W1, g.w.cell? ⟨b1x0, 1, none⟩ = some (.int .i64 b) := fun g => (g.cell Y3).trans (by rw [← e1]; rw [st2_old n01]; exact st2_1 (u := .int .i64 0) (by exact u01))
  have H3_1 : ∀ g : Grown W1, g.w.frozen? ⟨b1x0, 1, none⟩ = false := fun g => (g.frozen Y3).trans (by rw [← e1]; simp only [st2_frozen]; exact v01)
  clear Y3
  have Y4 : b1x1 < W1.heap.size := by rw [← e1]; simp only [st2_size]; exact q1
  have S4 : ∀ g : Grown W1, b1x1 < g.w.heap.size := fun g => Nat.lt_of_lt_of_le Y4 g.h.size
  have F4_0 : ∀ g : Grown W1, g.w.cell? ⟨b1x1, 0, none⟩ = some (.int .i64 c) := fun g => (g.cell Y4).trans (by rw [← e1]; exact st2_0 (u := .int .i64 0) (by rw [st2_old (Ne.symm n01)]; exact u10))
  have H4_0 : ∀ g : Grown W1, g.w.frozen? ⟨b1x1, 0, none⟩ = false := fun g => (g.frozen Y4).trans (by rw [← e1]; simp only [st2_frozen]; exact v10)
  have F4_1 : ∀ g : Grown W1, g.w.cell? ⟨b1x1, 1, none⟩ = some (.int .i64 d) := fun g => (g.cell Y4).trans (by rw [← e1]; exact st2_1 (u := .int .i64 0) (by rw [st2_old (Ne.symm n01)]; exact u11))
  have H4_1 : ∀ g : Grown W1, g.w.frozen? ⟨b1x1, 1, none⟩ = false := fun g => (g.frozen Y4).trans (by rw [← e1]; simp only [st2_frozen]; exact v11)
  clear Y4
  clear e1 hL1 hT0 hBh u00 u01 v00 v01 p0 q0 u10 u11 v10 v11 p1 q1 n01
  obtain ⟨h1, hg1⟩ : ∃ g : Grown W1, W1 = g.w := ⟨⟨W1, Below.refl _ _⟩, rfl⟩
  rw [hg1]
  clear hg1 g1
  go_wp2_with (fail)
  refine region_data 14 23 _ (by kernel_rfl) new_iv (by kernel_rfl) ?_
  refine data_op _ rfl (RQ_load rfl rfl (load_iv_at (S3 _) (F3_0 _) (F3_1 _))) ?_
  simp only [Act.put, List.setIfInBounds_toArray, List.set_cons_succ, List.set_cons_zero]
  refine data_op (.pointer (some ⟨w.heap.size + 1, 0, none⟩)) rfl (RQ_pure (fun w => by simp [go_sem])) ?_
  simp only [Act.put, List.setIfInBounds_toArray, List.set_cons_succ, List.set_cons_zero]
  refine data_op _ rfl (RQ_load rfl rfl (load_u32 (S1 _) (F1_0 _))) ?_
  simp only [Act.put, List.setIfInBounds_toArray, List.set_cons_succ, List.set_cons_zero]
  refine data_op (.pointer (some ⟨w.heap.size + 1 + 1, 0, none⟩)) rfl (RQ_pure (fun w => by simp [go_sem])) ?_
  simp only [Act.put, List.setIfInBounds_toArray, List.set_cons_succ, List.set_cons_zero]
  refine data_op _ rfl (RQ_load rfl rfl (load_u32 (S2 _) (F2_0 _))) ?_
  simp only [Act.put, List.setIfInBounds_toArray, List.set_cons_succ, List.set_cons_zero]
  refine data_op _ rfl (RQ_call hw1.out (fun _ => by simp [go_sem])) ?_
  simp only [Act.put, List.setIfInBounds_toArray, List.set_cons_succ, List.set_cons_zero]
  refine data_op _ rfl (RQ_load rfl rfl (load_iv_at (S4 _) (F4_0 _) (F4_1 _))) ?_
  simp only [Act.put, List.setIfInBounds_toArray, List.set_cons_succ, List.set_cons_zero]
  refine data_op (.pointer (some ⟨w.heap.size + 1, 1, none⟩)) rfl (RQ_pure (fun w => by simp [go_sem])) ?_
  simp only [Act.put, List.setIfInBounds_toArray, List.set_cons_succ, List.set_cons_zero]
  refine data_op _ rfl (RQ_load rfl rfl (load_u32 (S1 _) (F1_1 _))) ?_
  simp only [Act.put, List.setIfInBounds_toArray, List.set_cons_succ, List.set_cons_zero]
  refine data_op (.pointer (some ⟨w.heap.size + 1 + 1, 1, none⟩)) rfl (RQ_pure (fun w => by simp [go_sem])) ?_
  simp only [Act.put, List.setIfInBounds_toArray, List.set_cons_succ, List.set_cons_zero]
  refine data_op _ rfl (RQ_load rfl rfl (load_u32 (S2 _) (F2_1 _))) ?_
  simp only [Act.put, List.setIfInBounds_toArray, List.set_cons_succ, List.set_cons_zero]
  refine data_op _ rfl (RQ_call hw2.out (fun _ => by simp [go_sem])) ?_
  simp only [Act.put, List.setIfInBounds_toArray, List.set_cons_succ, List.set_cons_zero]
  refine data_al rfl ?_
  simp only [Act.put, List.setIfInBounds_toArray, List.set_cons_succ, List.set_cons_zero]
  refine data_al rfl ?_
  simp only [Act.put, List.setIfInBounds_toArray, List.set_cons_succ, List.set_cons_zero]
  refine data_end ?_
  intro wh hBh
  simp only [Act.put, List.drop_succ_cons, List.drop_zero, List.take_succ_cons, List.take_zero, alDsts, List.filterMap_cons, List.filterMap_nil, isAl, Bool.false_eq_true, if_false, if_true, finK]
  intro b2x0 p0 q0 r0 o0
  intro b2x1 p1 q1 r1 o1
  obtain ⟨u00, u01, v00, v01⟩ := new_cell o0
  obtain ⟨u10, u11, v10, v11⟩ := new_cell o1
  have n01 : b2x0 ≠ b2x1 := r1 b2x0 (by simp)
  clear r0 o0 r1 o1
  simp only [List.setIfInBounds_toArray, List.set_cons_succ, List.set_cons_zero]
  refine list_store rfl rfl rfl rfl rfl (by exact u00) (by exact u01) (by exact v00) (by exact v01) ?_
  refine list_store rfl rfl rfl rfl rfl (by rw [st2_old (Ne.symm n01)]; exact u10) (by rw [st2_old (Ne.symm n01)]; exact u11) (by simp only [st2_frozen]; exact v10) (by simp only [st2_frozen]; exact v11) ?_
  refine wpList_nil ?_
  generalize e2 : (st2 (st2 wh b2x0 (.int .i64 i) (.int .i64 j)) b2x1 (.int .i64 k) (.int .i64 l)) = W2
  have hL2 : Below h1.w.heap.size h1.w W2 := by rw [← e2]; exact (st2_below (st2_below hBh p0) p1)
  have hT2 : Below w.heap.size w W2 := below_then (below_then hT1 h1.h) hL2
  have s0 := S0 h1
  have Y0 : w.heap.size < W2.heap.size := Nat.lt_of_lt_of_le s0 hL2.size
  have c0_0 := F0_0 h1
  have d0_0 := H0_0 h1
  have c0_1 := F0_1 h1
  have d0_1 := H0_1 h1
  have c0_2 := F0_2 h1
  have d0_2 := H0_2 h1
  have c0_3 := F0_3 h1
  have d0_3 := H0_3 h1
  have c0_4 := F0_4 h1
  have d0_4 := H0_4 h1
  have c0_5 := F0_5 h1
  have d0_5 := H0_5 h1
  clear S0 F0_0 H0_0 F0_1 H0_1 F0_2 H0_2 F0_3 H0_3 F0_4 H0_4 F0_5 H0_5
  have S0 : ∀ g : Grown W2, w.heap.size < g.w.heap.size := fun g => Nat.lt_of_lt_of_le Y0 g.h.size
  have F0_0 : ∀ g : Grown W2, g.w.cell? ⟨w.heap.size, 0, none⟩ = some (.int .i64 x0) := fun g => (g.cell Y0).trans ((Below.cell hL2 (p := ⟨w.heap.size, 0, none⟩) s0).trans c0_0)
  have H0_0 : ∀ g : Grown W2, g.w.frozen? ⟨w.heap.size, 0, none⟩ = false := fun g => (g.frozen Y0).trans ((Below.frozen hL2 (p := ⟨w.heap.size, 0, none⟩) s0).trans d0_0)
  have F0_1 : ∀ g : Grown W2, g.w.cell? ⟨w.heap.size, 1, none⟩ = some (.int .i64 x1) := fun g => (g.cell Y0).trans ((Below.cell hL2 (p := ⟨w.heap.size, 1, none⟩) s0).trans c0_1)
  have H0_1 : ∀ g : Grown W2, g.w.frozen? ⟨w.heap.size, 1, none⟩ = false := fun g => (g.frozen Y0).trans ((Below.frozen hL2 (p := ⟨w.heap.size, 1, none⟩) s0).trans d0_1)
  have F0_2 : ∀ g : Grown W2, g.w.cell? ⟨w.heap.size, 2, none⟩ = some (.int .i64 x2) := fun g => (g.cell Y0).trans ((Below.cell hL2 (p := ⟨w.heap.size, 2, none⟩) s0).trans c0_2)
  have H0_2 : ∀ g : Grown W2, g.w.frozen? ⟨w.heap.size, 2, none⟩ = false := fun g => (g.frozen Y0).trans ((Below.frozen hL2 (p := ⟨w.heap.size, 2, none⟩) s0).trans d0_2)
  have F0_3 : ∀ g : Grown W2, g.w.cell? ⟨w.heap.size, 3, none⟩ = some (.int .i64 x3) := fun g => (g.cell Y0).trans ((Below.cell hL2 (p := ⟨w.heap.size, 3, none⟩) s0).trans c0_3)
  have H0_3 : ∀ g : Grown W2, g.w.frozen? ⟨w.heap.size, 3, none⟩ = false := fun g => (g.frozen Y0).trans ((Below.frozen hL2 (p := ⟨w.heap.size, 3, none⟩) s0).trans d0_3)
  have F0_4 : ∀ g : Grown W2, g.w.cell? ⟨w.heap.size, 4, none⟩ = some (.int .i32 x4) := fun g => (g.cell Y0).trans ((Below.cell hL2 (p := ⟨w.heap.size, 4, none⟩) s0).trans c0_4)
  have H0_4 : ∀ g : Grown W2, g.w.frozen? ⟨w.heap.size, 4, none⟩ = false := fun g => (g.frozen Y0).trans ((Below.frozen hL2 (p := ⟨w.heap.size, 4, none⟩) s0).trans d0_4)
  have F0_5 : ∀ g : Grown W2, g.w.cell? ⟨w.heap.size, 5, none⟩ = some (.int .u16 x5) := fun g => (g.cell Y0).trans ((Below.cell hL2 (p := ⟨w.heap.size, 5, none⟩) s0).trans c0_5)
  have H0_5 : ∀ g : Grown W2, g.w.frozen? ⟨w.heap.size, 5, none⟩ = false := fun g => (g.frozen Y0).trans ((Below.frozen hL2 (p := ⟨w.heap.size, 5, none⟩) s0).trans d0_5)
  clear Y0 s0 c0_0 d0_0 c0_1 d0_1 c0_2 d0_2 c0_3 d0_3 c0_4 d0_4 c0_5 d0_5
  have s1 := S1 h1
  have Y1 : w.heap.size + 1 < W2.heap.size := Nat.lt_of_lt_of_le s1 hL2.size
  have c1_0 := F1_0 h1
  have d1_0 := H1_0 h1
  have c1_1 := F1_1 h1
  have d1_1 := H1_1 h1
  clear S1 F1_0 H1_0 F1_1 H1_1
  have S1 : ∀ g : Grown W2, w.heap.size + 1 < g.w.heap.size := fun g => Nat.lt_of_lt_of_le Y1 g.h.size
  have F1_0 : ∀ g : Grown W2, g.w.cell? ⟨w.heap.size + 1, 0, none⟩ = some (.int .u32 y0) := fun g => (g.cell Y1).trans ((Below.cell hL2 (p := ⟨w.heap.size + 1, 0, none⟩) s1).trans c1_0)
  have H1_0 : ∀ g : Grown W2, g.w.frozen? ⟨w.heap.size + 1, 0, none⟩ = false := fun g => (g.frozen Y1).trans ((Below.frozen hL2 (p := ⟨w.heap.size + 1, 0, none⟩) s1).trans d1_0)
  have F1_1 : ∀ g : Grown W2, g.w.cell? ⟨w.heap.size + 1, 1, none⟩ = some (.int .u32 y1) := fun g => (g.cell Y1).trans ((Below.cell hL2 (p := ⟨w.heap.size + 1, 1, none⟩) s1).trans c1_1)
  have H1_1 : ∀ g : Grown W2, g.w.frozen? ⟨w.heap.size + 1, 1, none⟩ = false := fun g => (g.frozen Y1).trans ((Below.frozen hL2 (p := ⟨w.heap.size + 1, 1, none⟩) s1).trans d1_1)
  clear Y1 s1 c1_0 d1_0 c1_1 d1_1
  have s2 := S2 h1
  have Y2 : w.heap.size + 1 + 1 < W2.heap.size := Nat.lt_of_lt_of_le s2 hL2.size
  have c2_0 := F2_0 h1
  have d2_0 := H2_0 h1
  have c2_1 := F2_1 h1
  have d2_1 := H2_1 h1
  clear S2 F2_0 H2_0 F2_1 H2_1
  have S2 : ∀ g : Grown W2, w.heap.size + 1 + 1 < g.w.heap.size := fun g => Nat.lt_of_lt_of_le Y2 g.h.size
  have F2_0 : ∀ g : Grown W2, g.w.cell? ⟨w.heap.size + 1 + 1, 0, none⟩ = some (.int .u32 z0) := fun g => (g.cell Y2).trans ((Below.cell hL2 (p := ⟨w.heap.size + 1 + 1, 0, none⟩) s2).trans c2_0)
  have H2_0 : ∀ g : Grown W2, g.w.frozen? ⟨w.heap.size + 1 + 1, 0, none⟩ = false := fun g => (g.frozen Y2).trans ((Below.frozen hL2 (p := ⟨w.heap.size + 1 + 1, 0, none⟩) s2).trans d2_0)
  have F2_1 : ∀ g : Grown W2, g.w.cell? ⟨w.heap.size + 1 + 1, 1, none⟩ = some (.int .u32 z1) := fun g => (g.cell Y2).trans ((Below.cell hL2 (p := ⟨w.heap.size + 1 + 1, 1, none⟩) s2).trans c2_1)
  have H2_1 : ∀ g : Grown W2, g.w.frozen? ⟨w.heap.size + 1 + 1, 1, none⟩ = false := fun g => (g.frozen Y2).trans ((Below.frozen hL2 (p := ⟨w.heap.size + 1 + 1, 1, none⟩) s2).trans d2_1)
  clear Y2 s2 c2_0 d2_0 c2_1 d2_1
  have s3 := S3 h1
  have Y3 : b1x0 < W2.heap.size := Nat.lt_of_lt_of_le s3 hL2.size
  have c3_0 := F3_0 h1
  have d3_0 := H3_0 h1
  have c3_1 := F3_1 h1
  have d3_1 := H3_1 h1
  clear S3 F3_0 H3_0 F3_1 H3_1
  have S3 : ∀ g : Grown W2, b1x0 < g.w.heap.size := fun g => Nat.lt_of_lt_of_le Y3 g.h.size
  have F3_0 : ∀ g : Grown W2, g.w.cell? ⟨b1x0, 0, none⟩ = some (.int .i64 a) := fun g => (g.cell Y3).trans ((Below.cell hL2 (p := ⟨b1x0, 0, none⟩) s3).trans c3_0)
  have H3_0 : ∀ g : Grown W2, g.w.frozen? ⟨b1x0, 0, none⟩ = false := fun g => (g.frozen Y3).trans ((Below.frozen hL2 (p := ⟨b1x0, 0, none⟩) s3).trans d3_0)
  have F3_1 : ∀ g : Grown W2, g.w.cell? ⟨b1x0, 1, none⟩ = some (.int .i64 b) := fun g => (g.cell Y3).trans ((Below.cell hL2 (p := ⟨b1x0, 1, none⟩) s3).trans c3_1)
  have H3_1 : ∀ g : Grown W2, g.w.frozen? ⟨b1x0, 1, none⟩ = false := fun g => (g.frozen Y3).trans ((Below.frozen hL2 (p := ⟨b1x0, 1, none⟩) s3).trans d3_1)
  clear Y3 s3 c3_0 d3_0 c3_1 d3_1
  have s4 := S4 h1
  have Y4 : b1x1 < W2.heap.size := Nat.lt_of_lt_of_le s4 hL2.size
  have c4_0 := F4_0 h1
  have d4_0 := H4_0 h1
  have c4_1 := F4_1 h1
  have d4_1 := H4_1 h1
  clear S4 F4_0 H4_0 F4_1 H4_1
  have S4 : ∀ g : Grown W2, b1x1 < g.w.heap.size := fun g => Nat.lt_of_lt_of_le Y4 g.h.size
  have F4_0 : ∀ g : Grown W2, g.w.cell? ⟨b1x1, 0, none⟩ = some (.int .i64 c) := fun g => (g.cell Y4).trans ((Below.cell hL2 (p := ⟨b1x1, 0, none⟩) s4).trans c4_0)
  have H4_0 : ∀ g : Grown W2, g.w.frozen? ⟨b1x1, 0, none⟩ = false := fun g => (g.frozen Y4).trans ((Below.frozen hL2 (p := ⟨b1x1, 0, none⟩) s4).trans d4_0)
  have F4_1 : ∀ g : Grown W2, g.w.cell? ⟨b1x1, 1, none⟩ = some (.int .i64 d) := fun g => (g.cell Y4).trans ((Below.cell hL2 (p := ⟨b1x1, 1, none⟩) s4).trans c4_1)
  have H4_1 : ∀ g : Grown W2, g.w.frozen? ⟨b1x1, 1, none⟩ = false := fun g => (g.frozen Y4).trans ((Below.frozen hL2 (p := ⟨b1x1, 1, none⟩) s4).trans d4_1)
  clear Y4 s4 c4_0 d4_0 c4_1 d4_1
  have Y5 : b2x0 < W2.heap.size := by rw [← e2]; simp only [st2_size]; exact q0
  have S5 : ∀ g : Grown W2, b2x0 < g.w.heap.size := fun g => Nat.lt_of_lt_of_le Y5 g.h.size
  have F5_0 : ∀ g : Grown W2, g.w.cell? ⟨b2x0, 0, none⟩ = some (.int .i64 i) := fun g => (g.cell Y5).trans (by rw [← e2]; rw [st2_old n01]; exact st2_0 (u := .int .i64 0) (by exact u00))
  have H5_0 : ∀ g : Grown W2, g.w.frozen? ⟨b2x0, 0, none⟩ = false := fun g => (g.frozen Y5).trans (by rw [← e2]; simp only [st2_frozen]; exact v00)
  have F5_1 : ∀ g : Grown W2, g.w.cell? ⟨b2x0, 1, none⟩ = some (.int .i64 j) := fun g => (g.cell Y5).trans (by rw [← e2]; rw [st2_old n01]; exact st2_1 (u := .int .i64 0) (by exact u01))
  have H5_1 : ∀ g : Grown W2, g.w.frozen? ⟨b2x0, 1, none⟩ = false := fun g => (g.frozen Y5).trans (by rw [← e2]; simp only [st2_frozen]; exact v01)
  clear Y5
  have Y6 : b2x1 < W2.heap.size := by rw [← e2]; simp only [st2_size]; exact q1
  have S6 : ∀ g : Grown W2, b2x1 < g.w.heap.size := fun g => Nat.lt_of_lt_of_le Y6 g.h.size
  have F6_0 : ∀ g : Grown W2, g.w.cell? ⟨b2x1, 0, none⟩ = some (.int .i64 k) := fun g => (g.cell Y6).trans (by rw [← e2]; exact st2_0 (u := .int .i64 0) (by rw [st2_old (Ne.symm n01)]; exact u10))
  have H6_0 : ∀ g : Grown W2, g.w.frozen? ⟨b2x1, 0, none⟩ = false := fun g => (g.frozen Y6).trans (by rw [← e2]; simp only [st2_frozen]; exact v10)
  have F6_1 : ∀ g : Grown W2, g.w.cell? ⟨b2x1, 1, none⟩ = some (.int .i64 l) := fun g => (g.cell Y6).trans (by rw [← e2]; exact st2_1 (u := .int .i64 0) (by rw [st2_old (Ne.symm n01)]; exact u11))
  have H6_1 : ∀ g : Grown W2, g.w.frozen? ⟨b2x1, 1, none⟩ = false := fun g => (g.frozen Y6).trans (by rw [← e2]; simp only [st2_frozen]; exact v11)
  clear Y6
  clear e2 hL2 hT1 hBh u00 u01 v00 v01 p0 q0 u10 u11 v10 v11 p1 q1 n01
  obtain ⟨h2, hg2⟩ : ∃ g : Grown W2, W2 = g.w := ⟨⟨W2, Below.refl _ _⟩, rfl⟩
  rw [hg2]
  clear hg2 h1
  go_wp2_with (fail)
  refine (hra.out _).mono ?_
  rintro e2 w2 ⟨rfl, hB2⟩
  obtain ⟨g2, rfl⟩ := grow h2 hB2
  clear hB2
  go_wp2_with (fail)
  simp only [List.append_eq, List.cons_append, List.nil_append]
  refine region_quiet' g2 (by kernel_rfl) (lexB_of (by as_aux_lemma => kernel_rfl) (by as_aux_lemma => kernel_rfl)) ?_
  iterate 26 (go_big_quiet_step (first | exact qc (hs0.out _) | exact qc (hada.out _) | exact qc (hadb.out _) | exact qc (hadc.out _) | exact qc (hsba.out _) | exact qc (hsbb.out _) | exact qc (hsbc.out _) | exact qc (hmua.out _) | exact qc (hmub.out _) | exact qc (hmuc.out _) | exact qc (hsqa.out _) | exact qc (hsqb.out _) | exact qc (hsqc.out _) | exact qc (hdva.out _) | exact qc (hdvb.out _) | exact qc (hdvc.out _) | exact qc (hmra.out _) | exact qc (hmrb.out _) | exact qc (hmrc.out _) | exact qc (hhua.out _) | exact qc (hhub.out _) | exact qc (hhuc.out _)))
  as_aux_lemma =>
    iterate 26 (go_big_quiet_step (first | exact qc (hs0.out _) | exact qc (hada.out _) | exact qc (hadb.out _) | exact qc (hadc.out _) | exact qc (hsba.out _) | exact qc (hsbb.out _) | exact qc (hsbc.out _) | exact qc (hmua.out _) | exact qc (hmub.out _) | exact qc (hmuc.out _) | exact qc (hsqa.out _) | exact qc (hsqb.out _) | exact qc (hsqc.out _) | exact qc (hdva.out _) | exact qc (hdvb.out _) | exact qc (hdvc.out _) | exact qc (hmra.out _) | exact qc (hmrb.out _) | exact qc (hmrc.out _) | exact qc (hhua.out _) | exact qc (hhub.out _) | exact qc (hhuc.out _)))
    as_aux_lemma =>
      repeat (go_big_quiet_step (first | exact qc (hs0.out _) | exact qc (hada.out _) | exact qc (hadb.out _) | exact qc (hadc.out _) | exact qc (hsba.out _) | exact qc (hsbb.out _) | exact qc (hsbc.out _) | exact qc (hmua.out _) | exact qc (hmub.out _) | exact qc (hmuc.out _) | exact qc (hsqa.out _) | exact qc (hsqb.out _) | exact qc (hsqc.out _) | exact qc (hdva.out _) | exact qc (hdvb.out _) | exact qc (hdvc.out _) | exact qc (hmra.out _) | exact qc (hmrb.out _) | exact qc (hmrc.out _) | exact qc (hhua.out _) | exact qc (hhub.out _) | exact qc (hhuc.out _)))
      refine wpQuiet_nil ?_
      rintro _ ⟨g3, rfl⟩
      go_wp2_with (fail)
      refine (hqa.out _).mono ?_
      rintro e4 w4 ⟨rfl, hB4⟩
      obtain ⟨g4, rfl⟩ := grow g3 hB4
      clear hB4
      go_wp2_with (fail)
      generalize hW3 : World.alloc g4.w _ = W3
      have hL3 : Below g4.w.heap.size g4.w W3 := by subst hW3; exact ((Below.refl _ _).alloc (by first | omega | (simp <;> omega)) _)
      have hT3 : Below w.heap.size w W3 := below_then (below_then hT2 g4.h) hL3
      obtain ⟨nb3, hnb3⟩ : ∃ nb, nb = g4.w.heap.size := ⟨_, rfl⟩
      have s0 := S0 g4
      have Y0 : w.heap.size < W3.heap.size := Nat.lt_of_lt_of_le s0 hL3.size
      have c0_0 := F0_0 g4
      have d0_0 := H0_0 g4
      have c0_1 := F0_1 g4
      have d0_1 := H0_1 g4
      have c0_2 := F0_2 g4
      have d0_2 := H0_2 g4
      have c0_3 := F0_3 g4
      have d0_3 := H0_3 g4
      have c0_4 := F0_4 g4
      have d0_4 := H0_4 g4
      have c0_5 := F0_5 g4
      have d0_5 := H0_5 g4
      clear S0 F0_0 H0_0 F0_1 H0_1 F0_2 H0_2 F0_3 H0_3 F0_4 H0_4 F0_5 H0_5
      have S0 : ∀ g : Grown W3, w.heap.size < g.w.heap.size := fun g => Nat.lt_of_lt_of_le Y0 g.h.size
      have F0_0 : ∀ g : Grown W3, g.w.cell? ⟨w.heap.size, 0, none⟩ = some (.int .i64 x0) := fun g => (g.cell Y0).trans ((Below.cell hL3 (p := ⟨w.heap.size, 0, none⟩) s0).trans c0_0)
      have H0_0 : ∀ g : Grown W3, g.w.frozen? ⟨w.heap.size, 0, none⟩ = false := fun g => (g.frozen Y0).trans ((Below.frozen hL3 (p := ⟨w.heap.size, 0, none⟩) s0).trans d0_0)
      have F0_1 : ∀ g : Grown W3, g.w.cell? ⟨w.heap.size, 1, none⟩ = some (.int .i64 x1) := fun g => (g.cell Y0).trans ((Below.cell hL3 (p := ⟨w.heap.size, 1, none⟩) s0).trans c0_1)
      have H0_1 : ∀ g : Grown W3, g.w.frozen? ⟨w.heap.size, 1, none⟩ = false := fun g => (g.frozen Y0).trans ((Below.frozen hL3 (p := ⟨w.heap.size, 1, none⟩) s0).trans d0_1)
      have F0_2 : ∀ g : Grown W3, g.w.cell? ⟨w.heap.size, 2, none⟩ = some (.int .i64 x2) := fun g => (g.cell Y0).trans ((Below.cell hL3 (p := ⟨w.heap.size, 2, none⟩) s0).trans c0_2)
      have H0_2 : ∀ g : Grown W3, g.w.frozen? ⟨w.heap.size, 2, none⟩ = false := fun g => (g.frozen Y0).trans ((Below.frozen hL3 (p := ⟨w.heap.size, 2, none⟩) s0).trans d0_2)
      have F0_3 : ∀ g : Grown W3, g.w.cell? ⟨w.heap.size, 3, none⟩ = some (.int .i64 x3) := fun g => (g.cell Y0).trans ((Below.cell hL3 (p := ⟨w.heap.size, 3, none⟩) s0).trans c0_3)
      have H0_3 : ∀ g : Grown W3, g.w.frozen? ⟨w.heap.size, 3, none⟩ = false := fun g => (g.frozen Y0).trans ((Below.frozen hL3 (p := ⟨w.heap.size, 3, none⟩) s0).trans d0_3)
      have F0_4 : ∀ g : Grown W3, g.w.cell? ⟨w.heap.size, 4, none⟩ = some (.int .i32 x4) := fun g => (g.cell Y0).trans ((Below.cell hL3 (p := ⟨w.heap.size, 4, none⟩) s0).trans c0_4)
      have H0_4 : ∀ g : Grown W3, g.w.frozen? ⟨w.heap.size, 4, none⟩ = false := fun g => (g.frozen Y0).trans ((Below.frozen hL3 (p := ⟨w.heap.size, 4, none⟩) s0).trans d0_4)
      have F0_5 : ∀ g : Grown W3, g.w.cell? ⟨w.heap.size, 5, none⟩ = some (.int .u16 x5) := fun g => (g.cell Y0).trans ((Below.cell hL3 (p := ⟨w.heap.size, 5, none⟩) s0).trans c0_5)
      have H0_5 : ∀ g : Grown W3, g.w.frozen? ⟨w.heap.size, 5, none⟩ = false := fun g => (g.frozen Y0).trans ((Below.frozen hL3 (p := ⟨w.heap.size, 5, none⟩) s0).trans d0_5)
      clear Y0 s0 c0_0 d0_0 c0_1 d0_1 c0_2 d0_2 c0_3 d0_3 c0_4 d0_4 c0_5 d0_5
      have s1 := S1 g4
      have Y1 : w.heap.size + 1 < W3.heap.size := Nat.lt_of_lt_of_le s1 hL3.size
      have c1_0 := F1_0 g4
      have d1_0 := H1_0 g4
      have c1_1 := F1_1 g4
      have d1_1 := H1_1 g4
      clear S1 F1_0 H1_0 F1_1 H1_1
      have S1 : ∀ g : Grown W3, w.heap.size + 1 < g.w.heap.size := fun g => Nat.lt_of_lt_of_le Y1 g.h.size
      have F1_0 : ∀ g : Grown W3, g.w.cell? ⟨w.heap.size + 1, 0, none⟩ = some (.int .u32 y0) := fun g => (g.cell Y1).trans ((Below.cell hL3 (p := ⟨w.heap.size + 1, 0, none⟩) s1).trans c1_0)
      have H1_0 : ∀ g : Grown W3, g.w.frozen? ⟨w.heap.size + 1, 0, none⟩ = false := fun g => (g.frozen Y1).trans ((Below.frozen hL3 (p := ⟨w.heap.size + 1, 0, none⟩) s1).trans d1_0)
      have F1_1 : ∀ g : Grown W3, g.w.cell? ⟨w.heap.size + 1, 1, none⟩ = some (.int .u32 y1) := fun g => (g.cell Y1).trans ((Below.cell hL3 (p := ⟨w.heap.size + 1, 1, none⟩) s1).trans c1_1)
      have H1_1 : ∀ g : Grown W3, g.w.frozen? ⟨w.heap.size + 1, 1, none⟩ = false := fun g => (g.frozen Y1).trans ((Below.frozen hL3 (p := ⟨w.heap.size + 1, 1, none⟩) s1).trans d1_1)
      clear Y1 s1 c1_0 d1_0 c1_1 d1_1
      have s2 := S2 g4
      have Y2 : w.heap.size + 1 + 1 < W3.heap.size := Nat.lt_of_lt_of_le s2 hL3.size
      have c2_0 := F2_0 g4
      have d2_0 := H2_0 g4
      have c2_1 := F2_1 g4
      have d2_1 := H2_1 g4
      clear S2 F2_0 H2_0 F2_1 H2_1
      have S2 : ∀ g : Grown W3, w.heap.size + 1 + 1 < g.w.heap.size := fun g => Nat.lt_of_lt_of_le Y2 g.h.size
      have F2_0 : ∀ g : Grown W3, g.w.cell? ⟨w.heap.size + 1 + 1, 0, none⟩ = some (.int .u32 z0) := fun g => (g.cell Y2).trans ((Below.cell hL3 (p := ⟨w.heap.size + 1 + 1, 0, none⟩) s2).trans c2_0)
      have H2_0 : ∀ g : Grown W3, g.w.frozen? ⟨w.heap.size + 1 + 1, 0, none⟩ = false := fun g => (g.frozen Y2).trans ((Below.frozen hL3 (p := ⟨w.heap.size + 1 + 1, 0, none⟩) s2).trans d2_0)
      have F2_1 : ∀ g : Grown W3, g.w.cell? ⟨w.heap.size + 1 + 1, 1, none⟩ = some (.int .u32 z1) := fun g => (g.cell Y2).trans ((Below.cell hL3 (p := ⟨w.heap.size + 1 + 1, 1, none⟩) s2).trans c2_1)
      have H2_1 : ∀ g : Grown W3, g.w.frozen? ⟨w.heap.size + 1 + 1, 1, none⟩ = false := fun g => (g.frozen Y2).trans ((Below.frozen hL3 (p := ⟨w.heap.size + 1 + 1, 1, none⟩) s2).trans d2_1)
      clear Y2 s2 c2_0 d2_0 c2_1 d2_1
      have s3 := S3 g4
      have Y3 : b1x0 < W3.heap.size := Nat.lt_of_lt_of_le s3 hL3.size
      have c3_0 := F3_0 g4
      have d3_0 := H3_0 g4
      have c3_1 := F3_1 g4
      have d3_1 := H3_1 g4
      clear S3 F3_0 H3_0 F3_1 H3_1
      have S3 : ∀ g : Grown W3, b1x0 < g.w.heap.size := fun g => Nat.lt_of_lt_of_le Y3 g.h.size
      have F3_0 : ∀ g : Grown W3, g.w.cell? ⟨b1x0, 0, none⟩ = some (.int .i64 a) := fun g => (g.cell Y3).trans ((Below.cell hL3 (p := ⟨b1x0, 0, none⟩) s3).trans c3_0)
      have H3_0 : ∀ g : Grown W3, g.w.frozen? ⟨b1x0, 0, none⟩ = false := fun g => (g.frozen Y3).trans ((Below.frozen hL3 (p := ⟨b1x0, 0, none⟩) s3).trans d3_0)
      have F3_1 : ∀ g : Grown W3, g.w.cell? ⟨b1x0, 1, none⟩ = some (.int .i64 b) := fun g => (g.cell Y3).trans ((Below.cell hL3 (p := ⟨b1x0, 1, none⟩) s3).trans c3_1)
      have H3_1 : ∀ g : Grown W3, g.w.frozen? ⟨b1x0, 1, none⟩ = false := fun g => (g.frozen Y3).trans ((Below.frozen hL3 (p := ⟨b1x0, 1, none⟩) s3).trans d3_1)
      clear Y3 s3 c3_0 d3_0 c3_1 d3_1
      have s4 := S4 g4
      have Y4 : b1x1 < W3.heap.size := Nat.lt_of_lt_of_le s4 hL3.size
      have c4_0 := F4_0 g4
      have d4_0 := H4_0 g4
      have c4_1 := F4_1 g4
      have d4_1 := H4_1 g4
      clear S4 F4_0 H4_0 F4_1 H4_1
      have S4 : ∀ g : Grown W3, b1x1 < g.w.heap.size := fun g => Nat.lt_of_lt_of_le Y4 g.h.size
      have F4_0 : ∀ g : Grown W3, g.w.cell? ⟨b1x1, 0, none⟩ = some (.int .i64 c) := fun g => (g.cell Y4).trans ((Below.cell hL3 (p := ⟨b1x1, 0, none⟩) s4).trans c4_0)
      have H4_0 : ∀ g : Grown W3, g.w.frozen? ⟨b1x1, 0, none⟩ = false := fun g => (g.frozen Y4).trans ((Below.frozen hL3 (p := ⟨b1x1, 0, none⟩) s4).trans d4_0)
      have F4_1 : ∀ g : Grown W3, g.w.cell? ⟨b1x1, 1, none⟩ = some (.int .i64 d) := fun g => (g.cell Y4).trans ((Below.cell hL3 (p := ⟨b1x1, 1, none⟩) s4).trans c4_1)
      have H4_1 : ∀ g : Grown W3, g.w.frozen? ⟨b1x1, 1, none⟩ = false := fun g => (g.frozen Y4).trans ((Below.frozen hL3 (p := ⟨b1x1, 1, none⟩) s4).trans d4_1)
      clear Y4 s4 c4_0 d4_0 c4_1 d4_1
      have s5 := S5 g4
      have Y5 : b2x0 < W3.heap.size := Nat.lt_of_lt_of_le s5 hL3.size
      have c5_0 := F5_0 g4
      have d5_0 := H5_0 g4
      have c5_1 := F5_1 g4
      have d5_1 := H5_1 g4
      clear S5 F5_0 H5_0 F5_1 H5_1
      have S5 : ∀ g : Grown W3, b2x0 < g.w.heap.size := fun g => Nat.lt_of_lt_of_le Y5 g.h.size
      have F5_0 : ∀ g : Grown W3, g.w.cell? ⟨b2x0, 0, none⟩ = some (.int .i64 i) := fun g => (g.cell Y5).trans ((Below.cell hL3 (p := ⟨b2x0, 0, none⟩) s5).trans c5_0)
      have H5_0 : ∀ g : Grown W3, g.w.frozen? ⟨b2x0, 0, none⟩ = false := fun g => (g.frozen Y5).trans ((Below.frozen hL3 (p := ⟨b2x0, 0, none⟩) s5).trans d5_0)
      have F5_1 : ∀ g : Grown W3, g.w.cell? ⟨b2x0, 1, none⟩ = some (.int .i64 j) := fun g => (g.cell Y5).trans ((Below.cell hL3 (p := ⟨b2x0, 1, none⟩) s5).trans c5_1)
      have H5_1 : ∀ g : Grown W3, g.w.frozen? ⟨b2x0, 1, none⟩ = false := fun g => (g.frozen Y5).trans ((Below.frozen hL3 (p := ⟨b2x0, 1, none⟩) s5).trans d5_1)
      clear Y5 s5 c5_0 d5_0 c5_1 d5_1
      have s6 := S6 g4
      have Y6 : b2x1 < W3.heap.size := Nat.lt_of_lt_of_le s6 hL3.size
      have c6_0 := F6_0 g4
      have d6_0 := H6_0 g4
      have c6_1 := F6_1 g4
      have d6_1 := H6_1 g4
      clear S6 F6_0 H6_0 F6_1 H6_1
      have S6 : ∀ g : Grown W3, b2x1 < g.w.heap.size := fun g => Nat.lt_of_lt_of_le Y6 g.h.size
      have F6_0 : ∀ g : Grown W3, g.w.cell? ⟨b2x1, 0, none⟩ = some (.int .i64 k) := fun g => (g.cell Y6).trans ((Below.cell hL3 (p := ⟨b2x1, 0, none⟩) s6).trans c6_0)
      have H6_0 : ∀ g : Grown W3, g.w.frozen? ⟨b2x1, 0, none⟩ = false := fun g => (g.frozen Y6).trans ((Below.frozen hL3 (p := ⟨b2x1, 0, none⟩) s6).trans d6_0)
      have F6_1 : ∀ g : Grown W3, g.w.cell? ⟨b2x1, 1, none⟩ = some (.int .i64 l) := fun g => (g.cell Y6).trans ((Below.cell hL3 (p := ⟨b2x1, 1, none⟩) s6).trans c6_1)
      have H6_1 : ∀ g : Grown W3, g.w.frozen? ⟨b2x1, 1, none⟩ = false := fun g => (g.frozen Y6).trans ((Below.frozen hL3 (p := ⟨b2x1, 1, none⟩) s6).trans d6_1)
      clear Y6 s6 c6_0 d6_0 c6_1 d6_1
      have Y7 : nb3 < W3.heap.size := by subst hW3; subst hnb3; simp <;> omega
      have S7 : ∀ g : Grown W3, nb3 < g.w.heap.size := fun g => Nat.lt_of_lt_of_le Y7 g.h.size
      have F7_0 : ∀ g : Grown W3, g.w.cell? ⟨nb3, 0, none⟩ = some (.int .i64 p1) := fun g => (g.cell Y7).trans (by subst hW3; subst hnb3; simp [go_sem])
      have H7_0 : ∀ g : Grown W3, g.w.frozen? ⟨nb3, 0, none⟩ = false := fun g => (g.frozen Y7).trans (by subst hW3; subst hnb3; simp [go_sem])
      have F7_1 : ∀ g : Grown W3, g.w.cell? ⟨nb3, 1, none⟩ = some (.int .i64 p2) := fun g => (g.cell Y7).trans (by subst hW3; subst hnb3; simp [go_sem])
      have H7_1 : ∀ g : Grown W3, g.w.frozen? ⟨nb3, 1, none⟩ = false := fun g => (g.frozen Y7).trans (by subst hW3; subst hnb3; simp [go_sem])
      clear Y7
      rw [← hnb3]
      clear hnb3 hW3 hT2 hL3
      obtain ⟨h3, hg3⟩ : ∃ g : Grown W3, W3 = g.w := ⟨⟨W3, Below.refl _ _⟩, rfl⟩
      rw [hg3]
      clear hg3 g4
      refine (hqb.out _).mono ?_
      rintro e5 w5 ⟨rfl, hB5⟩
      obtain ⟨g5, rfl⟩ := grow h3 hB5
      clear hB5
      go_wp2_with (fail)
      generalize hW4 : World.alloc g5.w _ = W4
      have hL4 : Below g5.w.heap.size g5.w W4 := by subst hW4; exact ((Below.refl _ _).alloc (by first | omega | (simp <;> omega)) _)
      have hT4 : Below w.heap.size w W4 := below_then (below_then hT3 g5.h) hL4
      obtain ⟨nb4, hnb4⟩ : ∃ nb, nb = g5.w.heap.size := ⟨_, rfl⟩
      have s0 := S0 g5
      have Y0 : w.heap.size < W4.heap.size := Nat.lt_of_lt_of_le s0 hL4.size
      have c0_0 := F0_0 g5
      have d0_0 := H0_0 g5
      have c0_1 := F0_1 g5
      have d0_1 := H0_1 g5
      have c0_2 := F0_2 g5
      have d0_2 := H0_2 g5
      have c0_3 := F0_3 g5
      have d0_3 := H0_3 g5
      have c0_4 := F0_4 g5
      have d0_4 := H0_4 g5
      have c0_5 := F0_5 g5
      have d0_5 := H0_5 g5
      clear S0 F0_0 H0_0 F0_1 H0_1 F0_2 H0_2 F0_3 H0_3 F0_4 H0_4 F0_5 H0_5
      have S0 : ∀ g : Grown W4, w.heap.size < g.w.heap.size := fun g => Nat.lt_of_lt_of_le Y0 g.h.size
      have F0_0 : ∀ g : Grown W4, g.w.cell? ⟨w.heap.size, 0, none⟩ = some (.int .i64 x0) := fun g => (g.cell Y0).trans ((Below.cell hL4 (p := ⟨w.heap.size, 0, none⟩) s0).trans c0_0)
      have H0_0 : ∀ g : Grown W4, g.w.frozen? ⟨w.heap.size, 0, none⟩ = false := fun g => (g.frozen Y0).trans ((Below.frozen hL4 (p := ⟨w.heap.size, 0, none⟩) s0).trans d0_0)
      have F0_1 : ∀ g : Grown W4, g.w.cell? ⟨w.heap.size, 1, none⟩ = some (.int .i64 x1) := fun g => (g.cell Y0).trans ((Below.cell hL4 (p := ⟨w.heap.size, 1, none⟩) s0).trans c0_1)
      have H0_1 : ∀ g : Grown W4, g.w.frozen? ⟨w.heap.size, 1, none⟩ = false := fun g => (g.frozen Y0).trans ((Below.frozen hL4 (p := ⟨w.heap.size, 1, none⟩) s0).trans d0_1)
      have F0_2 : ∀ g : Grown W4, g.w.cell? ⟨w.heap.size, 2, none⟩ = some (.int .i64 x2) := fun g => (g.cell Y0).trans ((Below.cell hL4 (p := ⟨w.heap.size, 2, none⟩) s0).trans c0_2)
      have H0_2 : ∀ g : Grown W4, g.w.frozen? ⟨w.heap.size, 2, none⟩ = false := fun g => (g.frozen Y0).trans ((Below.frozen hL4 (p := ⟨w.heap.size, 2, none⟩) s0).trans d0_2)
      have F0_3 : ∀ g : Grown W4, g.w.cell? ⟨w.heap.size, 3, none⟩ = some (.int .i64 x3) := fun g => (g.cell Y0).trans ((Below.cell hL4 (p := ⟨w.heap.size, 3, none⟩) s0).trans c0_3)
      have H0_3 : ∀ g : Grown W4, g.w.frozen? ⟨w.heap.size, 3, none⟩ = false := fun g => (g.frozen Y0).trans ((Below.frozen hL4 (p := ⟨w.heap.size, 3, none⟩) s0).trans d0_3)
      have F0_4 : ∀ g : Grown W4, g.w.cell? ⟨w.heap.size, 4, none⟩ = some (.int .i32 x4) := fun g => (g.cell Y0).trans ((Below.cell hL4 (p := ⟨w.heap.size, 4, none⟩) s0).trans c0_4)
      have H0_4 : ∀ g : Grown W4, g.w.frozen? ⟨w.heap.size, 4, none⟩ = false := fun g => (g.frozen Y0).trans ((Below.frozen hL4 (p := ⟨w.heap.size, 4, none⟩) s0).trans d0_4)
      have F0_5 : ∀ g : Grown W4, g.w.cell? ⟨w.heap.size, 5, none⟩ = some (.int .u16 x5) := fun g => (g.cell Y0).trans ((Below.cell hL4 (p := ⟨w.heap.size, 5, none⟩) s0).trans c0_5)
      have H0_5 : ∀ g : Grown W4, g.w.frozen? ⟨w.heap.size, 5, none⟩ = false := fun g => (g.frozen Y0).trans ((Below.frozen hL4 (p := ⟨w.heap.size, 5, none⟩) s0).trans d0_5)
      clear Y0 s0 c0_0 d0_0 c0_1 d0_1 c0_2 d0_2 c0_3 d0_3 c0_4 d0_4 c0_5 d0_5
      have s1 := S1 g5
      have Y1 : w.heap.size + 1 < W4.heap.size := Nat.lt_of_lt_of_le s1 hL4.size
      have c1_0 := F1_0 g5
      have d1_0 := H1_0 g5
      have c1_1 := F1_1 g5
      have d1_1 := H1_1 g5
      clear S1 F1_0 H1_0 F1_1 H1_1
      have S1 : ∀ g : Grown W4, w.heap.size + 1 < g.w.heap.size := fun g => Nat.lt_of_lt_of_le Y1 g.h.size
      have F1_0 : ∀ g : Grown W4, g.w.cell? ⟨w.heap.size + 1, 0, none⟩ = some (.int .u32 y0) := fun g => (g.cell Y1).trans ((Below.cell hL4 (p := ⟨w.heap.size + 1, 0, none⟩) s1).trans c1_0)
      have H1_0 : ∀ g : Grown W4, g.w.frozen? ⟨w.heap.size + 1, 0, none⟩ = false := fun g => (g.frozen Y1).trans ((Below.frozen hL4 (p := ⟨w.heap.size + 1, 0, none⟩) s1).trans d1_0)
      have F1_1 : ∀ g : Grown W4, g.w.cell? ⟨w.heap.size + 1, 1, none⟩ = some (.int .u32 y1) := fun g => (g.cell Y1).trans ((Below.cell hL4 (p := ⟨w.heap.size + 1, 1, none⟩) s1).trans c1_1)
      have H1_1 : ∀ g : Grown W4, g.w.frozen? ⟨w.heap.size + 1, 1, none⟩ = false := fun g => (g.frozen Y1).trans ((Below.frozen hL4 (p := ⟨w.heap.size + 1, 1, none⟩) s1).trans d1_1)
      clear Y1 s1 c1_0 d1_0 c1_1 d1_1
      have s2 := S2 g5
      have Y2 : w.heap.size + 1 + 1 < W4.heap.size := Nat.lt_of_lt_of_le s2 hL4.size
      have c2_0 := F2_0 g5
      have d2_0 := H2_0 g5
      have c2_1 := F2_1 g5
      have d2_1 := H2_1 g5
      clear S2 F2_0 H2_0 F2_1 H2_1
      have S2 : ∀ g : Grown W4, w.heap.size + 1 + 1 < g.w.heap.size := fun g => Nat.lt_of_lt_of_le Y2 g.h.size
      have F2_0 : ∀ g : Grown W4, g.w.cell? ⟨w.heap.size + 1 + 1, 0, none⟩ = some (.int .u32 z0) := fun g => (g.cell Y2).trans ((Below.cell hL4 (p := ⟨w.heap.size + 1 + 1, 0, none⟩) s2).trans c2_0)
      have H2_0 : ∀ g : Grown W4, g.w.frozen? ⟨w.heap.size + 1 + 1, 0, none⟩ = false := fun g => (g.frozen Y2).trans ((Below.frozen hL4 (p := ⟨w.heap.size + 1 + 1, 0, none⟩) s2).trans d2_0)
      have F2_1 : ∀ g : Grown W4, g.w.cell? ⟨w.heap.size + 1 + 1, 1, none⟩ = some (.int .u32 z1) := fun g => (g.cell Y2).trans ((Below.cell hL4 (p := ⟨w.heap.size + 1 + 1, 1, none⟩) s2).trans c2_1)
      have H2_1 : ∀ g : Grown W4, g.w.frozen? ⟨w.heap.size + 1 + 1, 1, none⟩ = false := fun g => (g.frozen Y2).trans ((Below.frozen hL4 (p := ⟨w.heap.size + 1 + 1, 1, none⟩) s2).trans d2_1)
      clear Y2 s2 c2_0 d2_0 c2_1 d2_1
      have s3 := S3 g5
      have Y3 : b1x0 < W4.heap.size := Nat.lt_of_lt_of_le s3 hL4.size
      have c3_0 := F3_0 g5
      have d3_0 := H3_0 g5
      have c3_1 := F3_1 g5
      have d3_1 := H3_1 g5
      clear S3 F3_0 H3_0 F3_1 H3_1
      have S3 : ∀ g : Grown W4, b1x0 < g.w.heap.size := fun g => Nat.lt_of_lt_of_le Y3 g.h.size
      have F3_0 : ∀ g : Grown W4, g.w.cell? ⟨b1x0, 0, none⟩ = some (.int .i64 a) := fun g => (g.cell Y3).trans ((Below.cell hL4 (p := ⟨b1x0, 0, none⟩) s3).trans c3_0)
      have H3_0 : ∀ g : Grown W4, g.w.frozen? ⟨b1x0, 0, none⟩ = false := fun g => (g.frozen Y3).trans ((Below.frozen hL4 (p := ⟨b1x0, 0, none⟩) s3).trans d3_0)
      have F3_1 : ∀ g : Grown W4, g.w.cell? ⟨b1x0, 1, none⟩ = some (.int .i64 b) := fun g => (g.cell Y3).trans ((Below.cell hL4 (p := ⟨b1x0, 1, none⟩) s3).trans c3_1)
      have H3_1 : ∀ g : Grown W4, g.w.frozen? ⟨b1x0, 1, none⟩ = false := fun g => (g.frozen Y3).trans ((Below.frozen hL4 (p := ⟨b1x0, 1, none⟩) s3).trans d3_1)
      clear Y3 s3 c3_0 d3_0 c3_1 d3_1
      have s4 := S4 g5
      have Y4 : b1x1 < W4.heap.size := Nat.lt_of_lt_of_le s4 hL4.size
      have c4_0 := F4_0 g5
      have d4_0 := H4_0 g5
      have c4_1 := F4_1 g5
      have d4_1 := H4_1 g5
      clear S4 F4_0 H4_0 F4_1 H4_1
      have S4 : ∀ g : Grown W4, b1x1 < g.w.heap.size := fun g => Nat.lt_of_lt_of_le Y4 g.h.size
      have F4_0 : ∀ g : Grown W4, g.w.cell? ⟨b1x1, 0, none⟩ = some (.int .i64 c) := fun g => (g.cell Y4).trans ((Below.cell hL4 (p := ⟨b1x1, 0, none⟩) s4).trans c4_0)
      have H4_0 : ∀ g : Grown W4, g.w.frozen? ⟨b1x1, 0, none⟩ = false := fun g => (g.frozen Y4).trans ((Below.frozen hL4 (p := ⟨b1x1, 0, none⟩) s4).trans d4_0)
      have F4_1 : ∀ g : Grown W4, g.w.cell? ⟨b1x1, 1, none⟩ = some (.int .i64 d) := fun g => (g.cell Y4).trans ((Below.cell hL4 (p := ⟨b1x1, 1, none⟩) s4).trans c4_1)
      have H4_1 : ∀ g : Grown W4, g.w.frozen? ⟨b1x1, 1, none⟩ = false := fun g => (g.frozen Y4).trans ((Below.frozen hL4 (p := ⟨b1x1, 1, none⟩) s4).trans d4_1)
      clear Y4 s4 c4_0 d4_0 c4_1 d4_1
      have s5 := S5 g5
      have Y5 : b2x0 < W4.heap.size := Nat.lt_of_lt_of_le s5 hL4.size
      have c5_0 := F5_0 g5
      have d5_0 := H5_0 g5
      have c5_1 := F5_1 g5
      have d5_1 := H5_1 g5
      clear S5 F5_0 H5_0 F5_1 H5_1
      have S5 : ∀ g : Grown W4, b2x0 < g.w.heap.size := fun g => Nat.lt_of_lt_of_le Y5 g.h.size
      have F5_0 : ∀ g : Grown W4, g.w.cell? ⟨b2x0, 0, none⟩ = some (.int .i64 i) := fun g => (g.cell Y5).trans ((Below.cell hL4 (p := ⟨b2x0, 0, none⟩) s5).trans c5_0)
      have H5_0 : ∀ g : Grown W4, g.w.frozen? ⟨b2x0, 0, none⟩ = false := fun g => (g.frozen Y5).trans ((Below.frozen hL4 (p := ⟨b2x0, 0, none⟩) s5).trans d5_0)
      have F5_1 : ∀ g : Grown W4, g.w.cell? ⟨b2x0, 1, none⟩ = some (.int .i64 j) := fun g => (g.cell Y5).trans ((Below.cell hL4 (p := ⟨b2x0, 1, none⟩) s5).trans c5_1)
      have H5_1 : ∀ g : Grown W4, g.w.frozen? ⟨b2x0, 1, none⟩ = false := fun g => (g.frozen Y5).trans ((Below.frozen hL4 (p := ⟨b2x0, 1, none⟩) s5).trans d5_1)
      clear Y5 s5 c5_0 d5_0 c5_1 d5_1
      have s6 := S6 g5
      have Y6 : b2x1 < W4.heap.size := Nat.lt_of_lt_of_le s6 hL4.size
      have c6_0 := F6_0 g5
      have d6_0 := H6_0 g5
      have c6_1 := F6_1 g5
      have d6_1 := H6_1 g5
      clear S6 F6_0 H6_0 F6_1 H6_1
      have S6 : ∀ g : Grown W4, b2x1 < g.w.heap.size := fun g => Nat.lt_of_lt_of_le Y6 g.h.size
      have F6_0 : ∀ g : Grown W4, g.w.cell? ⟨b2x1, 0, none⟩ = some (.int .i64 k) := fun g => (g.cell Y6).trans ((Below.cell hL4 (p := ⟨b2x1, 0, none⟩) s6).trans c6_0)
      have H6_0 : ∀ g : Grown W4, g.w.frozen? ⟨b2x1, 0, none⟩ = false := fun g => (g.frozen Y6).trans ((Below.frozen hL4 (p := ⟨b2x1, 0, none⟩) s6).trans d6_0)
      have F6_1 : ∀ g : Grown W4, g.w.cell? ⟨b2x1, 1, none⟩ = some (.int .i64 l) := fun g => (g.cell Y6).trans ((Below.cell hL4 (p := ⟨b2x1, 1, none⟩) s6).trans c6_1)
      have H6_1 : ∀ g : Grown W4, g.w.frozen? ⟨b2x1, 1, none⟩ = false := fun g => (g.frozen Y6).trans ((Below.frozen hL4 (p := ⟨b2x1, 1, none⟩) s6).trans d6_1)
      clear Y6 s6 c6_0 d6_0 c6_1 d6_1
      have s7 := S7 g5
      have Y7 : nb3 < W4.heap.size := Nat.lt_of_lt_of_le s7 hL4.size
      have c7_0 := F7_0 g5
      have d7_0 := H7_0 g5
      have c7_1 := F7_1 g5
      have d7_1 := H7_1 g5
      clear S7 F7_0 H7_0 F7_1 H7_1
      have S7 : ∀ g : Grown W4, nb3 < g.w.heap.size := fun g => Nat.lt_of_lt_of_le Y7 g.h.size
      have F7_0 : ∀ g : Grown W4, g.w.cell? ⟨nb3, 0, none⟩ = some (.int .i64 p1) := fun g => (g.cell Y7).trans ((Below.cell hL4 (p := ⟨nb3, 0, none⟩) s7).trans c7_0)
      have H7_0 : ∀ g : Grown W4, g.w.frozen? ⟨nb3, 0, none⟩ = false := fun g => (g.frozen Y7).trans ((Below.frozen hL4 (p := ⟨nb3, 0, none⟩) s7).trans d7_0)
      have F7_1 : ∀ g : Grown W4, g.w.cell? ⟨nb3, 1, none⟩ = some (.int .i64 p2) := fun g => (g.cell Y7).trans ((Below.cell hL4 (p := ⟨nb3, 1, none⟩) s7).trans c7_1)
      have H7_1 : ∀ g : Grown W4, g.w.frozen? ⟨nb3, 1, none⟩ = false := fun g => (g.frozen Y7).trans ((Below.frozen hL4 (p := ⟨nb3, 1, none⟩) s7).trans d7_1)
      clear Y7 s7 c7_0 d7_0 c7_1 d7_1
      have Y8 : nb4 < W4.heap.size := by subst hW4; subst hnb4; simp <;> omega
      have S8 : ∀ g : Grown W4, nb4 < g.w.heap.size := fun g => Nat.lt_of_lt_of_le Y8 g.h.size
      have F8_0 : ∀ g : Grown W4, g.w.cell? ⟨nb4, 0, none⟩ = some (.int .i64 q1) := fun g => (g.cell Y8).trans (by subst hW4; subst hnb4; simp [go_sem])
      have H8_0 : ∀ g : Grown W4, g.w.frozen? ⟨nb4, 0, none⟩ = false := fun g => (g.frozen Y8).trans (by subst hW4; subst hnb4; simp [go_sem])
      have F8_1 : ∀ g : Grown W4, g.w.cell? ⟨nb4, 1, none⟩ = some (.int .i64 q2) := fun g => (g.cell Y8).trans (by subst hW4; subst hnb4; simp [go_sem])
      have H8_1 : ∀ g : Grown W4, g.w.frozen? ⟨nb4, 1, none⟩ = false := fun g => (g.frozen Y8).trans (by subst hW4; subst hnb4; simp [go_sem])
      clear Y8
      rw [← hnb4]
      clear hnb4 hW4 hT3 hL4
      obtain ⟨h4, hg4⟩ : ∃ g : Grown W4, W4 = g.w := ⟨⟨W4, Below.refl _ _⟩, rfl⟩
      rw [hg4]
      clear hg4 g5
      refine (hma.out _).mono ?_
      rintro e6 w6 ⟨rfl, hB6⟩
      obtain ⟨g6, rfl⟩ := grow h4 hB6
      clear hB6
      go_wp2_with (fail)
      generalize hW5 : World.alloc g6.w _ = W5
      have hL5 : Below g6.w.heap.size g6.w W5 := by subst hW5; exact ((Below.refl _ _).alloc (by first | omega | (simp <;> omega)) _)
      have hT5 : Below w.heap.size w W5 := below_then (below_then hT4 g6.h) hL5
      obtain ⟨nb5, hnb5⟩ : ∃ nb, nb = g6.w.heap.size := ⟨_, rfl⟩
      have s0 := S0 g6
      have Y0 : w.heap.size < W5.heap.size := Nat.lt_of_lt_of_le s0 hL5.size
      have c0_0 := F0_0 g6
      have d0_0 := H0_0 g6
      have c0_1 := F0_1 g6
      have d0_1 := H0_1 g6
      have c0_2 := F0_2 g6
      have d0_2 := H0_2 g6
      have c0_3 := F0_3 g6
      have d0_3 := H0_3 g6
      have c0_4 := F0_4 g6
      have d0_4 := H0_4 g6
      have c0_5 := F0_5 g6
      have d0_5 := H0_5 g6
      clear S0 F0_0 H0_0 F0_1 H0_1 F0_2 H0_2 F0_3 H0_3 F0_4 H0_4 F0_5 H0_5
      have S0 : ∀ g : Grown W5, w.heap.size < g.w.heap.size := fun g => Nat.lt_of_lt_of_le Y0 g.h.size
      have F0_0 : ∀ g : Grown W5, g.w.cell? ⟨w.heap.size, 0, none⟩ = some (.int .i64 x0) := fun g => (g.cell Y0).trans ((Below.cell hL5 (p := ⟨w.heap.size, 0, none⟩) s0).trans c0_0)
      have H0_0 : ∀ g : Grown W5, g.w.frozen? ⟨w.heap.size, 0, none⟩ = false := fun g => (g.frozen Y0).trans ((Below.frozen hL5 (p := ⟨w.heap.size, 0, none⟩) s0).trans d0_0)
      have F0_1 : ∀ g : Grown W5, g.w.cell? ⟨w.heap.size, 1, none⟩ = some (.int .i64 x1) := fun g => (g.cell Y0).trans ((Below.cell hL5 (p := ⟨w.heap.size, 1, none⟩) s0).trans c0_1)
      have H0_1 : ∀ g : Grown W5, g.w.frozen? ⟨w.heap.size, 1, none⟩ = false := fun g => (g.frozen Y0).trans ((Below.frozen hL5 (p := ⟨w.heap.size, 1, none⟩) s0).trans d0_1)
      have F0_2 : ∀ g : Grown W5, g.w.cell? ⟨w.heap.size, 2, none⟩ = some (.int .i64 x2) := fun g => (g.cell Y0).trans ((Below.cell hL5 (p := ⟨w.heap.size, 2, none⟩) s0).trans c0_2)
      have H0_2 : ∀ g : Grown W5, g.w.frozen? ⟨w.heap.size, 2, none⟩ = false := fun g => (g.frozen Y0).trans ((Below.frozen hL5 (p := ⟨w.heap.size, 2, none⟩) s0).trans d0_2)
      have F0_3 : ∀ g : Grown W5, g.w.cell? ⟨w.heap.size, 3, none⟩ = some (.int .i64 x3) := fun g => (g.cell Y0).trans ((Below.cell hL5 (p := ⟨w.heap.size, 3, none⟩) s0).trans c0_3)
      have H0_3 : ∀ g : Grown W5, g.w.frozen? ⟨w.heap.size, 3, none⟩ = false := fun g => (g.frozen Y0).trans ((Below.frozen hL5 (p := ⟨w.heap.size, 3, none⟩) s0).trans d0_3)
      have F0_4 : ∀ g : Grown W5, g.w.cell? ⟨w.heap.size, 4, none⟩ = some (.int .i32 x4) := fun g => (g.cell Y0).trans ((Below.cell hL5 (p := ⟨w.heap.size, 4, none⟩) s0).trans c0_4)
      have H0_4 : ∀ g : Grown W5, g.w.frozen? ⟨w.heap.size, 4, none⟩ = false := fun g => (g.frozen Y0).trans ((Below.frozen hL5 (p := ⟨w.heap.size, 4, none⟩) s0).trans d0_4)
      have F0_5 : ∀ g : Grown W5, g.w.cell? ⟨w.heap.size, 5, none⟩ = some (.int .u16 x5) := fun g => (g.cell Y0).trans ((Below.cell hL5 (p := ⟨w.heap.size, 5, none⟩) s0).trans c0_5)
      have H0_5 : ∀ g : Grown W5, g.w.frozen? ⟨w.heap.size, 5, none⟩ = false := fun g => (g.frozen Y0).trans ((Below.frozen hL5 (p := ⟨w.heap.size, 5, none⟩) s0).trans d0_5)
      clear Y0 s0 c0_0 d0_0 c0_1 d0_1 c0_2 d0_2 c0_3 d0_3 c0_4 d0_4 c0_5 d0_5
      have s1 := S1 g6
      have Y1 : w.heap.size + 1 < W5.heap.size := Nat.lt_of_lt_of_le s1 hL5.size
      have c1_0 := F1_0 g6
      have d1_0 := H1_0 g6
      have c1_1 := F1_1 g6
      have d1_1 := H1_1 g6
      clear S1 F1_0 H1_0 F1_1 H1_1
      have S1 : ∀ g : Grown W5, w.heap.size + 1 < g.w.heap.size := fun g => Nat.lt_of_lt_of_le Y1 g.h.size
      have F1_0 : ∀ g : Grown W5, g.w.cell? ⟨w.heap.size + 1, 0, none⟩ = some (.int .u32 y0) := fun g => (g.cell Y1).trans ((Below.cell hL5 (p := ⟨w.heap.size + 1, 0, none⟩) s1).trans c1_0)
      have H1_0 : ∀ g : Grown W5, g.w.frozen? ⟨w.heap.size + 1, 0, none⟩ = false := fun g => (g.frozen Y1).trans ((Below.frozen hL5 (p := ⟨w.heap.size + 1, 0, none⟩) s1).trans d1_0)
      have F1_1 : ∀ g : Grown W5, g.w.cell? ⟨w.heap.size + 1, 1, none⟩ = some (.int .u32 y1) := fun g => (g.cell Y1).trans ((Below.cell hL5 (p := ⟨w.heap.size + 1, 1, none⟩) s1).trans c1_1)
      have H1_1 : ∀ g : Grown W5, g.w.frozen? ⟨w.heap.size + 1, 1, none⟩ = false := fun g => (g.frozen Y1).trans ((Below.frozen hL5 (p := ⟨w.heap.size + 1, 1, none⟩) s1).trans d1_1)
      clear Y1 s1 c1_0 d1_0 c1_1 d1_1
      have s2 := S2 g6
      have Y2 : w.heap.size + 1 + 1 < W5.heap.size := Nat.lt_of_lt_of_le s2 hL5.size
      have c2_0 := F2_0 g6
      have d2_0 := H2_0 g6
      have c2_1 := F2_1 g6
      have d2_1 := H2_1 g6
      clear S2 F2_0 H2_0 F2_1 H2_1
      have S2 : ∀ g : Grown W5, w.heap.size + 1 + 1 < g.w.heap.size := fun g => Nat.lt_of_lt_of_le Y2 g.h.size
      have F2_0 : ∀ g : Grown W5, g.w.cell? ⟨w.heap.size + 1 + 1, 0, none⟩ = some (.int .u32 z0) := fun g => (g.cell Y2).trans ((Below.cell hL5 (p := ⟨w.heap.size + 1 + 1, 0, none⟩) s2).trans c2_0)
      have H2_0 : ∀ g : Grown W5, g.w.frozen? ⟨w.heap.size + 1 + 1, 0, none⟩ = false := fun g => (g.frozen Y2).trans ((Below.frozen hL5 (p := ⟨w.heap.size + 1 + 1, 0, none⟩) s2).trans d2_0)
      have F2_1 : ∀ g : Grown W5, g.w.cell? ⟨w.heap.size + 1 + 1, 1, none⟩ = some (.int .u32 z1) := fun g => (g.cell Y2).trans ((Below.cell hL5 (p := ⟨w.heap.size + 1 + 1, 1, none⟩) s2).trans c2_1)
      have H2_1 : ∀ g : Grown W5, g.w.frozen? ⟨w.heap.size + 1 + 1, 1, none⟩ = false := fun g => (g.frozen Y2).trans ((Below.frozen hL5 (p := ⟨w.heap.size + 1 + 1, 1, none⟩) s2).trans d2_1)
      clear Y2 s2 c2_0 d2_0 c2_1 d2_1
      have s3 := S3 g6
      have Y3 : b1x0 < W5.heap.size := Nat.lt_of_lt_of_le s3 hL5.size
      have c3_0 := F3_0 g6
      have d3_0 := H3_0 g6
      have c3_1 := F3_1 g6
      have d3_1 := H3_1 g6
      clear S3 F3_0 H3_0 F3_1 H3_1
      have S3 : ∀ g : Grown W5, b1x0 < g.w.heap.size := fun g => Nat.lt_of_lt_of_le Y3 g.h.size
      have F3_0 : ∀ g : Grown W5, g.w.cell? ⟨b1x0, 0, none⟩ = some (.int .i64 a) := fun g => (g.cell Y3).trans ((Below.cell hL5 (p := ⟨b1x0, 0, none⟩) s3).trans c3_0)
      have H3_0 : ∀ g : Grown W5, g.w.frozen? ⟨b1x0, 0, none⟩ = false := fun g => (g.frozen Y3).trans ((Below.frozen hL5 (p := ⟨b1x0, 0, none⟩) s3).trans d3_0)
      have F3_1 : ∀ g : Grown W5, g.w.cell? ⟨b1x0, 1, none⟩ = some (.int .i64 b) := fun g => (g.cell Y3).trans ((Below.cell hL5 (p := ⟨b1x0, 1, none⟩) s3).trans c3_1)
      have H3_1 : ∀ g : Grown W5, g.w.frozen? ⟨b1x0, 1, none⟩ = false := fun g => (g.frozen Y3).trans ((Below.frozen hL5 (p := ⟨b1x0, 1, none⟩) s3).trans d3_1)
      clear Y3 s3 c3_0 d3_0 c3_1 d3_1
      have s4 := S4 g6
      have Y4 : b1x1 < W5.heap.size := Nat.lt_of_lt_of_le s4 hL5.size
      have c4_0 := F4_0 g6
      have d4_0 := H4_0 g6
      have c4_1 := F4_1 g6
      have d4_1 := H4_1 g6
      clear S4 F4_0 H4_0 F4_1 H4_1
      have S4 : ∀ g : Grown W5, b1x1 < g.w.heap.size := fun g => Nat.lt_of_lt_of_le Y4 g.h.size
      have F4_0 : ∀ g : Grown W5, g.w.cell? ⟨b1x1, 0, none⟩ = some (.int .i64 c) := fun g => (g.cell Y4).trans ((Below.cell hL5 (p := ⟨b1x1, 0, none⟩) s4).trans c4_0)
      have H4_0 : ∀ g : Grown W5, g.w.frozen? ⟨b1x1, 0, none⟩ = false := fun g => (g.frozen Y4).trans ((Below.frozen hL5 (p := ⟨b1x1, 0, none⟩) s4).trans d4_0)
      have F4_1 : ∀ g : Grown W5, g.w.cell? ⟨b1x1, 1, none⟩ = some (.int .i64 d) := fun g => (g.cell Y4).trans ((Below.cell hL5 (p := ⟨b1x1, 1, none⟩) s4).trans c4_1)
      have H4_1 : ∀ g : Grown W5, g.w.frozen? ⟨b1x1, 1, none⟩ = false := fun g => (g.frozen Y4).trans ((Below.frozen hL5 (p := ⟨b1x1, 1, none⟩) s4).trans d4_1)
      clear Y4 s4 c4_0 d4_0 c4_1 d4_1
      have s5 := S5 g6
      have Y5 : b2x0 < W5.heap.size := Nat.lt_of_lt_of_le s5 hL5.size
      have c5_0 := F5_0 g6
      have d5_0 := H5_0 g6
      have c5_1 := F5_1 g6
      have d5_1 := H5_1 g6
      clear S5 F5_0 H5_0 F5_1 H5_1
      have S5 : ∀ g : Grown W5, b2x0 < g.w.heap.size := fun g => Nat.lt_of_lt_of_le Y5 g.h.size
      have F5_0 : ∀ g : Grown W5, g.w.cell? ⟨b2x0, 0, none⟩ = some (.int .i64 i) := fun g => (g.cell Y5).trans ((Below.cell hL5 (p := ⟨b2x0, 0, none⟩) s5).trans c5_0)
      have H5_0 : ∀ g : Grown W5, g.w.frozen? ⟨b2x0, 0, none⟩ = false := fun g => (g.frozen Y5).trans ((Below.frozen hL5 (p := ⟨b2x0, 0, none⟩) s5).trans d5_0)
      have F5_1 : ∀ g : Grown W5, g.w.cell? ⟨b2x0, 1, none⟩ = some (.int .i64 j) := fun g => (g.cell Y5).trans ((Below.cell hL5 (p := ⟨b2x0, 1, none⟩) s5).trans c5_1)
      have H5_1 : ∀ g : Grown W5, g.w.frozen? ⟨b2x0, 1, none⟩ = false := fun g => (g.frozen Y5).trans ((Below.frozen hL5 (p := ⟨b2x0, 1, none⟩) s5).trans d5_1)
      clear Y5 s5 c5_0 d5_0 c5_1 d5_1
      have s6 := S6 g6
      have Y6 : b2x1 < W5.heap.size := Nat.lt_of_lt_of_le s6 hL5.size
      have c6_0 := F6_0 g6
      have d6_0 := H6_0 g6
      have c6_1 := F6_1 g6
      have d6_1 := H6_1 g6
      clear S6 F6_0 H6_0 F6_1 H6_1
      have S6 : ∀ g : Grown W5, b2x1 < g.w.heap.size := fun g => Nat.lt_of_lt_of_le Y6 g.h.size
      have F6_0 : ∀ g : Grown W5, g.w.cell? ⟨b2x1, 0, none⟩ = some (.int .i64 k) := fun g => (g.cell Y6).trans ((Below.cell hL5 (p := ⟨b2x1, 0, none⟩) s6).trans c6_0)
      have H6_0 : ∀ g : Grown W5, g.w.frozen? ⟨b2x1, 0, none⟩ = false := fun g => (g.frozen Y6).trans ((Below.frozen hL5 (p := ⟨b2x1, 0, none⟩) s6).trans d6_0)
      have F6_1 : ∀ g : Grown W5, g.w.cell? ⟨b2x1, 1, none⟩ = some (.int .i64 l) := fun g => (g.cell Y6).trans ((Below.cell hL5 (p := ⟨b2x1, 1, none⟩) s6).trans c6_1)
      have H6_1 : ∀ g : Grown W5, g.w.frozen? ⟨b2x1, 1, none⟩ = false := fun g => (g.frozen Y6).trans ((Below.frozen hL5 (p := ⟨b2x1, 1, none⟩) s6).trans d6_1)
      clear Y6 s6 c6_0 d6_0 c6_1 d6_1
      have s7 := S7 g6
      have Y7 : nb3 < W5.heap.size := Nat.lt_of_lt_of_le s7 hL5.size
      have c7_0 := F7_0 g6
      have d7_0 := H7_0 g6
      have c7_1 := F7_1 g6
      have d7_1 := H7_1 g6
      clear S7 F7_0 H7_0 F7_1 H7_1
      have S7 : ∀ g : Grown W5, nb3 < g.w.heap.size := fun g => Nat.lt_of_lt_of_le Y7 g.h.size
      have F7_0 : ∀ g : Grown W5, g.w.cell? ⟨nb3, 0, none⟩ = some (.int .i64 p1) := fun g => (g.cell Y7).trans ((Below.cell hL5 (p := ⟨nb3, 0, none⟩) s7).trans c7_0)
      have H7_0 : ∀ g : Grown W5, g.w.frozen? ⟨nb3, 0, none⟩ = false := fun g => (g.frozen Y7).trans ((Below.frozen hL5 (p := ⟨nb3, 0, none⟩) s7).trans d7_0)
      have F7_1 : ∀ g : Grown W5, g.w.cell? ⟨nb3, 1, none⟩ = some (.int .i64 p2) := fun g => (g.cell Y7).trans ((Below.cell hL5 (p := ⟨nb3, 1, none⟩) s7).trans c7_1)
      have H7_1 : ∀ g : Grown W5, g.w.frozen? ⟨nb3, 1, none⟩ = false := fun g => (g.frozen Y7).trans ((Below.frozen hL5 (p := ⟨nb3, 1, none⟩) s7).trans d7_1)
      clear Y7 s7 c7_0 d7_0 c7_1 d7_1
      have s8 := S8 g6
      have Y8 : nb4 < W5.heap.size := Nat.lt_of_lt_of_le s8 hL5.size
      have c8_0 := F8_0 g6
      have d8_0 := H8_0 g6
      have c8_1 := F8_1 g6
      have d8_1 := H8_1 g6
      clear S8 F8_0 H8_0 F8_1 H8_1
      have S8 : ∀ g : Grown W5, nb4 < g.w.heap.size := fun g => Nat.lt_of_lt_of_le Y8 g.h.size
      have F8_0 : ∀ g : Grown W5, g.w.cell? ⟨nb4, 0, none⟩ = some (.int .i64 q1) := fun g => (g.cell Y8).trans ((Below.cell hL5 (p := ⟨nb4, 0, none⟩) s8).trans c8_0)
      have H8_0 : ∀ g : Grown W5, g.w.frozen? ⟨nb4, 0, none⟩ = false := fun g => (g.frozen Y8).trans ((Below.frozen hL5 (p := ⟨nb4, 0, none⟩) s8).trans d8_0)
      have F8_1 : ∀ g : Grown W5, g.w.cell? ⟨nb4, 1, none⟩ = some (.int .i64 q2) := fun g => (g.cell Y8).trans ((Below.cell hL5 (p := ⟨nb4, 1, none⟩) s8).trans c8_1)
      have H8_1 : ∀ g : Grown W5, g.w.frozen? ⟨nb4, 1, none⟩ = false := fun g => (g.frozen Y8).trans ((Below.frozen hL5 (p := ⟨nb4, 1, none⟩) s8).trans d8_1)
      clear Y8 s8 c8_0 d8_0 c8_1 d8_1
      have Y9 : nb5 < W5.heap.size := by subst hW5; subst hnb5; simp <;> omega
      have S9 : ∀ g : Grown W5, nb5 < g.w.heap.size := fun g => Nat.lt_of_lt_of_le Y9 g.h.size
      have F9_0 : ∀ g : Grown W5, g.w.cell? ⟨nb5, 0, none⟩ = some (.int .i64 s1) := fun g => (g.cell Y9).trans (by subst hW5; subst hnb5; simp [go_sem])
      have H9_0 : ∀ g : Grown W5, g.w.frozen? ⟨nb5, 0, none⟩ = false := fun g => (g.frozen Y9).trans (by subst hW5; subst hnb5; simp [go_sem])
      have F9_1 : ∀ g : Grown W5, g.w.cell? ⟨nb5, 1, none⟩ = some (.int .i64 s2) := fun g => (g.cell Y9).trans (by subst hW5; subst hnb5; simp [go_sem])
      have H9_1 : ∀ g : Grown W5, g.w.frozen? ⟨nb5, 1, none⟩ = false := fun g => (g.frozen Y9).trans (by subst hW5; subst hnb5; simp [go_sem])
      clear Y9
      rw [← hnb5]
      clear hnb5 hW5 hT4 hL5
      obtain ⟨h5, hg5⟩ : ∃ g : Grown W5, W5 = g.w := ⟨⟨W5, Below.refl _ _⟩, rfl⟩
      rw [hg5]
      clear hg5 g6
      refine (hmb.out _).mono ?_
      rintro e7 w7 ⟨rfl, hB7⟩
      obtain ⟨g7, rfl⟩ := grow h5 hB7
      clear hB7
      cases is with
      | false =>
        cases met with
        | false =>
          go_wp2_with (fail)
          generalize hW6 : World.alloc g7.w _ = W6
          have hL6 : Below g7.w.heap.size g7.w W6 := by subst hW6; exact ((Below.refl _ _).alloc (by first | omega | (simp <;> omega)) _)
          have hT6 : Below w.heap.size w W6 := below_then (below_then hT5 g7.h) hL6
          obtain ⟨nb6, hnb6⟩ : ∃ nb, nb = g7.w.heap.size := ⟨_, rfl⟩
          have s0 := S0 g7
          have Y0 : w.heap.size < W6.heap.size := Nat.lt_of_lt_of_le s0 hL6.size
          have c0_0 := F0_0 g7
          have d0_0 := H0_0 g7
          have c0_1 := F0_1 g7
          have d0_1 := H0_1 g7
          have c0_2 := F0_2 g7
          have d0_2 := H0_2 g7
          have c0_3 := F0_3 g7
          have d0_3 := H0_3 g7
          have c0_4 := F0_4 g7
          have d0_4 := H0_4 g7
          have c0_5 := F0_5 g7
          have d0_5 := H0_5 g7
          clear S0 F0_0 H0_0 F0_1 H0_1 F0_2 H0_2 F0_3 H0_3 F0_4 H0_4 F0_5 H0_5
          have S0 : ∀ g : Grown W6, w.heap.size < g.w.heap.size := fun g => Nat.lt_of_lt_of_le Y0 g.h.size
          have F0_0 : ∀ g : Grown W6, g.w.cell? ⟨w.heap.size, 0, none⟩ = some (.int .i64 x0) := fun g => (g.cell Y0).trans ((Below.cell hL6 (p := ⟨w.heap.size, 0, none⟩) s0).trans c0_0)
          have H0_0 : ∀ g : Grown W6, g.w.frozen? ⟨w.heap.size, 0, none⟩ = false := fun g => (g.frozen Y0).trans ((Below.frozen hL6 (p := ⟨w.heap.size, 0, none⟩) s0).trans d0_0)
          have F0_1 : ∀ g : Grown W6, g.w.cell? ⟨w.heap.size, 1, none⟩ = some (.int .i64 x1) := fun g => (g.cell Y0).trans ((Below.cell hL6 (p := ⟨w.heap.size, 1, none⟩) s0).trans c0_1)
          have H0_1 : ∀ g : Grown W6, g.w.frozen? ⟨w.heap.size, 1, none⟩ = false := fun g => (g.frozen Y0).trans ((Below.frozen hL6 (p := ⟨w.heap.size, 1, none⟩) s0).trans d0_1)
          have F0_2 : ∀ g : Grown W6, g.w.cell? ⟨w.heap.size, 2, none⟩ = some (.int .i64 x2) := fun g => (g.cell Y0).trans ((Below.cell hL6 (p := ⟨w.heap.size, 2, none⟩) s0).trans c0_2)
          have H0_2 : ∀ g : Grown W6, g.w.frozen? ⟨w.heap.size, 2, none⟩ = false := fun g => (g.frozen Y0).trans ((Below.frozen hL6 (p := ⟨w.heap.size, 2, none⟩) s0).trans d0_2)
          have F0_3 : ∀ g : Grown W6, g.w.cell? ⟨w.heap.size, 3, none⟩ = some (.int .i64 x3) := fun g => (g.cell Y0).trans ((Below.cell hL6 (p := ⟨w.heap.size, 3, none⟩) s0).trans c0_3)
          have H0_3 : ∀ g : Grown W6, g.w.frozen? ⟨w.heap.size, 3, none⟩ = false := fun g => (g.frozen Y0).trans ((Below.frozen hL6 (p := ⟨w.heap.size, 3, none⟩) s0).trans d0_3)
          have F0_4 : ∀ g : Grown W6, g.w.cell? ⟨w.heap.size, 4, none⟩ = some (.int .i32 x4) := fun g => (g.cell Y0).trans ((Below.cell hL6 (p := ⟨w.heap.size, 4, none⟩) s0).trans c0_4)
          have H0_4 : ∀ g : Grown W6, g.w.frozen? ⟨w.heap.size, 4, none⟩ = false := fun g => (g.frozen Y0).trans ((Below.frozen hL6 (p := ⟨w.heap.size, 4, none⟩) s0).trans d0_4)
          have F0_5 : ∀ g : Grown W6, g.w.cell? ⟨w.heap.size, 5, none⟩ = some (.int .u16 x5) := fun g => (g.cell Y0).trans ((Below.cell hL6 (p := ⟨w.heap.size, 5, none⟩) s0).trans c0_5)
          have H0_5 : ∀ g : Grown W6, g.w.frozen? ⟨w.heap.size, 5, none⟩ = false := fun g => (g.frozen Y0).trans ((Below.frozen hL6 (p := ⟨w.heap.size, 5, none⟩) s0).trans d0_5)
          clear Y0 s0 c0_0 d0_0 c0_1 d0_1 c0_2 d0_2 c0_3 d0_3 c0_4 d0_4 c0_5 d0_5
          have s1 := S1 g7
          have Y1 : w.heap.size + 1 < W6.heap.size := Nat.lt_of_lt_of_le s1 hL6.size
          have c1_0 := F1_0 g7
          have d1_0 := H1_0 g7
          have c1_1 := F1_1 g7
          have d1_1 := H1_1 g7
          clear S1 F1_0 H1_0 F1_1 H1_1
          have S1 : ∀ g : Grown W6, w.heap.size + 1 < g.w.heap.size := fun g => Nat.lt_of_lt_of_le Y1 g.h.size
          have F1_0 : ∀ g : Grown W6, g.w.cell? ⟨w.heap.size + 1, 0, none⟩ = some (.int .u32 y0) := fun g => (g.cell Y1).trans ((Below.cell hL6 (p := ⟨w.heap.size + 1, 0, none⟩) s1).trans c1_0)
          have H1_0 : ∀ g : Grown W6, g.w.frozen? ⟨w.heap.size + 1, 0, none⟩ = false := fun g => (g.frozen Y1).trans ((Below.frozen hL6 (p := ⟨w.heap.size + 1, 0, none⟩) s1).trans d1_0)
          have F1_1 : ∀ g : Grown W6, g.w.cell? ⟨w.heap.size + 1, 1, none⟩ = some (.int .u32 y1) := fun g => (g.cell Y1).trans ((Below.cell hL6 (p := ⟨w.heap.size + 1, 1, none⟩) s1).trans c1_1)
          have H1_1 : ∀ g : Grown W6, g.w.frozen? ⟨w.heap.size + 1, 1, none⟩ = false := fun g => (g.frozen Y1).trans ((Below.frozen hL6 (p := ⟨w.heap.size + 1, 1, none⟩) s1).trans d1_1)
          clear Y1 s1 c1_0 d1_0 c1_1 d1_1
          have s2 := S2 g7
          have Y2 : w.heap.size + 1 + 1 < W6.heap.size := Nat.lt_of_lt_of_le s2 hL6.size
          have c2_0 := F2_0 g7
          have d2_0 := H2_0 g7
          have c2_1 := F2_1 g7
          have d2_1 := H2_1 g7
          clear S2 F2_0 H2_0 F2_1 H2_1
          have S2 : ∀ g : Grown W6, w.heap.size + 1 + 1 < g.w.heap.size := fun g => Nat.lt_of_lt_of_le Y2 g.h.size
          have F2_0 : ∀ g : Grown W6, g.w.cell? ⟨w.heap.size + 1 + 1, 0, none⟩ = some (.int .u32 z0) := fun g => (g.cell Y2).trans ((Below.cell hL6 (p := ⟨w.heap.size + 1 + 1, 0, none⟩) s2).trans c2_0)
          have H2_0 : ∀ g : Grown W6, g.w.frozen? ⟨w.heap.size + 1 + 1, 0, none⟩ = false := fun g => (g.frozen Y2).trans ((Below.frozen hL6 (p := ⟨w.heap.size + 1 + 1, 0, none⟩) s2).trans d2_0)
          have F2_1 : ∀ g : Grown W6, g.w.cell? ⟨w.heap.size + 1 + 1, 1, none⟩ = some (.int .u32 z1) := fun g => (g.cell Y2).trans ((Below.cell hL6 (p := ⟨w.heap.size + 1 + 1, 1, none⟩) s2).trans c2_1)
          have H2_1 : ∀ g : Grown W6, g.w.frozen? ⟨w.heap.size + 1 + 1, 1, none⟩ = false := fun g => (g.frozen Y2).trans ((Below.frozen hL6 (p := ⟨w.heap.size + 1 + 1, 1, none⟩) s2).trans d2_1)
          clear Y2 s2 c2_0 d2_0 c2_1 d2_1
          have s3 := S3 g7
          have Y3 : b1x0 < W6.heap.size := Nat.lt_of_lt_of_le s3 hL6.size
          have c3_0 := F3_0 g7
          have d3_0 := H3_0 g7
          have c3_1 := F3_1 g7
          have d3_1 := H3_1 g7
          clear S3 F3_0 H3_0 F3_1 H3_1
          have S3 : ∀ g : Grown W6, b1x0 < g.w.heap.size := fun g => Nat.lt_of_lt_of_le Y3 g.h.size
          have F3_0 : ∀ g : Grown W6, g.w.cell? ⟨b1x0, 0, none⟩ = some (.int .i64 a) := fun g => (g.cell Y3).trans ((Below.cell hL6 (p := ⟨b1x0, 0, none⟩) s3).trans c3_0)
          have H3_0 : ∀ g : Grown W6, g.w.frozen? ⟨b1x0, 0, none⟩ = false := fun g => (g.frozen Y3).trans ((Below.frozen hL6 (p := ⟨b1x0, 0, none⟩) s3).trans d3_0)
          have F3_1 : ∀ g : Grown W6, g.w.cell? ⟨b1x0, 1, none⟩ = some (.int .i64 b) := fun g => (g.cell Y3).trans ((Below.cell hL6 (p := ⟨b1x0, 1, none⟩) s3).trans c3_1)
          have H3_1 : ∀ g : Grown W6, g.w.frozen? ⟨b1x0, 1, none⟩ = false := fun g => (g.frozen Y3).trans ((Below.frozen hL6 (p := ⟨b1x0, 1, none⟩) s3).trans d3_1)
          clear Y3 s3 c3_0 d3_0 c3_1 d3_1
          have s4 := S4 g7
          have Y4 : b1x1 < W6.heap.size := Nat.lt_of_lt_of_le s4 hL6.size
          have c4_0 := F4_0 g7
          have d4_0 := H4_0 g7
          have c4_1 := F4_1 g7
          have d4_1 := H4_1 g7
          clear S4 F4_0 H4_0 F4_1 H4_1
          have S4 : ∀ g : Grown W6, b1x1 < g.w.heap.size := fun g => Nat.lt_of_lt_of_le Y4 g.h.size
          have F4_0 : ∀ g : Grown W6, g.w.cell? ⟨b1x1, 0, none⟩ = some (.int .i64 c) := fun g => (g.cell Y4).trans ((Below.cell hL6 (p := ⟨b1x1, 0, none⟩) s4).trans c4_0)
          have H4_0 : ∀ g : Grown W6, g.w.frozen? ⟨b1x1, 0, none⟩ = false := fun g => (g.frozen Y4).trans ((Below.frozen hL6 (p := ⟨b1x1, 0, none⟩) s4).trans d4_0)
          have F4_1 : ∀ g : Grown W6, g.w.cell? ⟨b1x1, 1, none⟩ = some (.int .i64 d) := fun g => (g.cell Y4).trans ((Below.cell hL6 (p := ⟨b1x1, 1, none⟩) s4).trans c4_1)
          have H4_1 : ∀ g : Grown W6, g.w.frozen? ⟨b1x1, 1, none⟩ = false := fun g => (g.frozen Y4).trans ((Below.frozen hL6 (p := ⟨b1x1, 1, none⟩) s4).trans d4_1)
          clear Y4 s4 c4_0 d4_0 c4_1 d4_1
          have s5 := S5 g7
          have Y5 : b2x0 < W6.heap.size := Nat.lt_of_lt_of_le s5 hL6.size
          have c5_0 := F5_0 g7
          have d5_0 := H5_0 g7
          have c5_1 := F5_1 g7
          have d5_1 := H5_1 g7
          clear S5 F5_0 H5_0 F5_1 H5_1
          have S5 : ∀ g : Grown W6, b2x0 < g.w.heap.size := fun g => Nat.lt_of_lt_of_le Y5 g.h.size
          have F5_0 : ∀ g : Grown W6, g.w.cell? ⟨b2x0, 0, none⟩ = some (.int .i64 i) := fun g => (g.cell Y5).trans ((Below.cell hL6 (p := ⟨b2x0, 0, none⟩) s5).trans c5_0)
          have H5_0 : ∀ g : Grown W6, g.w.frozen? ⟨b2x0, 0, none⟩ = false := fun g => (g.frozen Y5).trans ((Below.frozen hL6 (p := ⟨b2x0, 0, none⟩) s5).trans d5_0)
          have F5_1 : ∀ g : Grown W6, g.w.cell? ⟨b2x0, 1, none⟩ = some (.int .i64 j) := fun g => (g.cell Y5).trans ((Below.cell hL6 (p := ⟨b2x0, 1, none⟩) s5).trans c5_1)
          have H5_1 : ∀ g : Grown W6, g.w.frozen? ⟨b2x0, 1, none⟩ = false := fun g => (g.frozen Y5).trans ((Below.frozen hL6 (p := ⟨b2x0, 1, none⟩) s5).trans d5_1)
          clear Y5 s5 c5_0 d5_0 c5_1 d5_1
          have s6 := S6 g7
          have Y6 : b2x1 < W6.heap.size := Nat.lt_of_lt_of_le s6 hL6.size
          have c6_0 := F6_0 g7
          have d6_0 := H6_0 g7
          have c6_1 := F6_1 g7
          have d6_1 := H6_1 g7
          clear S6 F6_0 H6_0 F6_1 H6_1
          have S6 : ∀ g : Grown W6, b2x1 < g.w.heap.size := fun g => Nat.lt_of_lt_of_le Y6 g.h.size
          have F6_0 : ∀ g : Grown W6, g.w.cell? ⟨b2x1, 0, none⟩ = some (.int .i64 k) := fun g => (g.cell Y6).trans ((Below.cell hL6 (p := ⟨b2x1, 0, none⟩) s6).trans c6_0)
          have H6_0 : ∀ g : Grown W6, g.w.frozen? ⟨b2x1, 0, none⟩ = false := fun g => (g.frozen Y6).trans ((Below.frozen hL6 (p := ⟨b2x1, 0, none⟩) s6).trans d6_0)
          have F6_1 : ∀ g : Grown W6, g.w.cell? ⟨b2x1, 1, none⟩ = some (.int .i64 l) := fun g => (g.cell Y6).trans ((Below.cell hL6 (p := ⟨b2x1, 1, none⟩) s6).trans c6_1)
          have H6_1 : ∀ g : Grown W6, g.w.frozen? ⟨b2x1, 1, none⟩ = false := fun g => (g.frozen Y6).trans ((Below.frozen hL6 (p := ⟨b2x1, 1, none⟩) s6).trans d6_1)
          clear Y6 s6 c6_0 d6_0 c6_1 d6_1
          have s7 := S7 g7
          have Y7 : nb3 < W6.heap.size := Nat.lt_of_lt_of_le s7 hL6.size
          have c7_0 := F7_0 g7
          have d7_0 := H7_0 g7
          have c7_1 := F7_1 g7
          have d7_1 := H7_1 g7
          clear S7 F7_0 H7_0 F7_1 H7_1
          have S7 : ∀ g : Grown W6, nb3 < g.w.heap.size := fun g => Nat.lt_of_lt_of_le Y7 g.h.size
          have F7_0 : ∀ g : Grown W6, g.w.cell? ⟨nb3, 0, none⟩ = some (.int .i64 p1) := fun g => (g.cell Y7).trans ((Below.cell hL6 (p := ⟨nb3, 0, none⟩) s7).trans c7_0)
          have H7_0 : ∀ g : Grown W6, g.w.frozen? ⟨nb3, 0, none⟩ = false := fun g => (g.frozen Y7).trans ((Below.frozen hL6 (p := ⟨nb3, 0, none⟩) s7).trans d7_0)
          have F7_1 : ∀ g : Grown W6, g.w.cell? ⟨nb3, 1, none⟩ = some (.int .i64 p2) := fun g => (g.cell Y7).trans ((Below.cell hL6 (p := ⟨nb3, 1, none⟩) s7).trans c7_1)
          have H7_1 : ∀ g : Grown W6, g.w.frozen? ⟨nb3, 1, none⟩ = false := fun g => (g.frozen Y7).trans ((Below.frozen hL6 (p := ⟨nb3, 1, none⟩) s7).trans d7_1)
          clear Y7 s7 c7_0 d7_0 c7_1 d7_1
          have s8 := S8 g7
          have Y8 : nb4 < W6.heap.size := Nat.lt_of_lt_of_le s8 hL6.size
          have c8_0 := F8_0 g7
          have d8_0 := H8_0 g7
          have c8_1 := F8_1 g7
          have d8_1 := H8_1 g7
          clear S8 F8_0 H8_0 F8_1 H8_1
          have S8 : ∀ g : Grown W6, nb4 < g.w.heap.size := fun g => Nat.lt_of_lt_of_le Y8 g.h.size
          have F8_0 : ∀ g : Grown W6, g.w.cell? ⟨nb4, 0, none⟩ = some (.int .i64 q1) := fun g => (g.cell Y8).trans ((Below.cell hL6 (p := ⟨nb4, 0, none⟩) s8).trans c8_0)
          have H8_0 : ∀ g : Grown W6, g.w.frozen? ⟨nb4, 0, none⟩ = false := fun g => (g.frozen Y8).trans ((Below.frozen hL6 (p := ⟨nb4, 0, none⟩) s8).trans d8_0)
          have F8_1 : ∀ g : Grown W6, g.w.cell? ⟨nb4, 1, none⟩ = some (.int .i64 q2) := fun g => (g.cell Y8).trans ((Below.cell hL6 (p := ⟨nb4, 1, none⟩) s8).trans c8_1)
          have H8_1 : ∀ g : Grown W6, g.w.frozen? ⟨nb4, 1, none⟩ = false := fun g => (g.frozen Y8).trans ((Below.frozen hL6 (p := ⟨nb4, 1, none⟩) s8).trans d8_1)
          clear Y8 s8 c8_0 d8_0 c8_1 d8_1
          have s9 := S9 g7
          have Y9 : nb5 < W6.heap.size := Nat.lt_of_lt_of_le s9 hL6.size
          have c9_0 := F9_0 g7
          have d9_0 := H9_0 g7
          have c9_1 := F9_1 g7
          have d9_1 := H9_1 g7
          clear S9 F9_0 H9_0 F9_1 H9_1
          have S9 : ∀ g : Grown W6, nb5 < g.w.heap.size := fun g => Nat.lt_of_lt_of_le Y9 g.h.size
          have F9_0 : ∀ g : Grown W6, g.w.cell? ⟨nb5, 0, none⟩ = some (.int .i64 s1) := fun g => (g.cell Y9).trans ((Below.cell hL6 (p := ⟨nb5, 0, none⟩) s9).trans c9_0)
          have H9_0 : ∀ g : Grown W6, g.w.frozen? ⟨nb5, 0, none⟩ = false := fun g => (g.frozen Y9).trans ((Below.frozen hL6 (p := ⟨nb5, 0, none⟩) s9).trans d9_0)
          have F9_1 : ∀ g : Grown W6, g.w.cell? ⟨nb5, 1, none⟩ = some (.int .i64 s2) := fun g => (g.cell Y9).trans ((Below.cell hL6 (p := ⟨nb5, 1, none⟩) s9).trans c9_1)
          have H9_1 : ∀ g : Grown W6, g.w.frozen? ⟨nb5, 1, none⟩ = false := fun g => (g.frozen Y9).trans ((Below.frozen hL6 (p := ⟨nb5, 1, none⟩) s9).trans d9_1)
          clear Y9 s9 c9_0 d9_0 c9_1 d9_1
          have Y10 : nb6 < W6.heap.size := by subst hW6; subst hnb6; simp <;> omega
          have S10 : ∀ g : Grown W6, nb6 < g.w.heap.size := fun g => Nat.lt_of_lt_of_le Y10 g.h.size
          have F10_0 : ∀ g : Grown W6, g.w.cell? ⟨nb6, 0, none⟩ = some (.int .i64 t1) := fun g => (g.cell Y10).trans (by subst hW6; subst hnb6; simp [go_sem])
          have H10_0 : ∀ g : Grown W6, g.w.frozen? ⟨nb6, 0, none⟩ = false := fun g => (g.frozen Y10).trans (by subst hW6; subst hnb6; simp [go_sem])
          have F10_1 : ∀ g : Grown W6, g.w.cell? ⟨nb6, 1, none⟩ = some (.int .i64 t2) := fun g => (g.cell Y10).trans (by subst hW6; subst hnb6; simp [go_sem])
          have H10_1 : ∀ g : Grown W6, g.w.frozen? ⟨nb6, 1, none⟩ = false := fun g => (g.frozen Y10).trans (by subst hW6; subst hnb6; simp [go_sem])
          clear Y10
          rw [← hnb6]
          clear hnb6 hW6 hT5 hL6
          obtain ⟨h6, hg6⟩ : ∃ g : Grown W6, W6 = g.w := ⟨⟨W6, Below.refl _ _⟩, rfl⟩
          rw [hg6]
          clear hg6 g7
          have hB : Below w.heap.size w h6.w := below_then hT6 h6.h
          go_ret
          refine ⟨rfl, ?_⟩
          go_grown
        | true =>
          obtain rfl := hz2.out rfl
          go_wp2_with (fail)
          generalize hW6 : World.alloc g7.w _ = W6
          have hL6 : Below g7.w.heap.size g7.w W6 := by subst hW6; exact ((Below.refl _ _).alloc (by first | omega | (simp <;> omega)) _)
          have hT6 : Below w.heap.size w W6 := below_then (below_then hT5 g7.h) hL6
          obtain ⟨nb6, hnb6⟩ : ∃ nb, nb = g7.w.heap.size := ⟨_, rfl⟩
          have s0 := S0 g7
          have Y0 : w.heap.size < W6.heap.size := Nat.lt_of_lt_of_le s0 hL6.size
          have c0_0 := F0_0 g7
          have d0_0 := H0_0 g7
          have c0_1 := F0_1 g7
          have d0_1 := H0_1 g7
          have c0_2 := F0_2 g7
          have d0_2 := H0_2 g7
          have c0_3 := F0_3 g7
          have d0_3 := H0_3 g7
          have c0_4 := F0_4 g7
          have d0_4 := H0_4 g7
          have c0_5 := F0_5 g7
          have d0_5 := H0_5 g7
          clear S0 F0_0 H0_0 F0_1 H0_1 F0_2 H0_2 F0_3 H0_3 F0_4 H0_4 F0_5 H0_5
          have S0 : ∀ g : Grown W6, w.heap.size < g.w.heap.size := fun g => Nat.lt_of_lt_of_le Y0 g.h.size
          have F0_0 : ∀ g : Grown W6, g.w.cell? ⟨w.heap.size, 0, none⟩ = some (.int .i64 x0) := fun g => (g.cell Y0).trans ((Below.cell hL6 (p := ⟨w.heap.size, 0, none⟩) s0).trans c0_0)
          have H0_0 : ∀ g : Grown W6, g.w.frozen? ⟨w.heap.size, 0, none⟩ = false := fun g => (g.frozen Y0).trans ((Below.frozen hL6 (p := ⟨w.heap.size, 0, none⟩) s0).trans d0_0)
          have F0_1 : ∀ g : Grown W6, g.w.cell? ⟨w.heap.size, 1, none⟩ = some (.int .i64 x1) := fun g => (g.cell Y0).trans ((Below.cell hL6 (p := ⟨w.heap.size, 1, none⟩) s0).trans c0_1)
          have H0_1 : ∀ g : Grown W6, g.w.frozen? ⟨w.heap.size, 1, none⟩ = false := fun g => (g.frozen Y0).trans ((Below.frozen hL6 (p := ⟨w.heap.size, 1, none⟩) s0).trans d0_1)
          have F0_2 : ∀ g : Grown W6, g.w.cell? ⟨w.heap.size, 2, none⟩ = some (.int .i64 x2) := fun g => (g.cell Y0).trans ((Below.cell hL6 (p := ⟨w.heap.size, 2, none⟩) s0).trans c0_2)
          have H0_2 : ∀ g : Grown W6, g.w.frozen? ⟨w.heap.size, 2, none⟩ = false := fun g => (g.frozen Y0).trans ((Below.frozen hL6 (p := ⟨w.heap.size, 2, none⟩) s0).trans d0_2)
          have F0_3 : ∀ g : Grown W6, g.w.cell? ⟨w.heap.size, 3, none⟩ = some (.int .i64 x3) := fun g => (g.cell Y0).trans ((Below.cell hL6 (p := ⟨w.heap.size, 3, none⟩) s0).trans c0_3)
          have H0_3 : ∀ g : Grown W6, g.w.frozen? ⟨w.heap.size, 3, none⟩ = false := fun g => (g.frozen Y0).trans ((Below.frozen hL6 (p := ⟨w.heap.size, 3, none⟩) s0).trans d0_3)
          have F0_4 : ∀ g : Grown W6, g.w.cell? ⟨w.heap.size, 4, none⟩ = some (.int .i32 x4) := fun g => (g.cell Y0).trans ((Below.cell hL6 (p := ⟨w.heap.size, 4, none⟩) s0).trans c0_4)
          have H0_4 : ∀ g : Grown W6, g.w.frozen? ⟨w.heap.size, 4, none⟩ = false := fun g => (g.frozen Y0).trans ((Below.frozen hL6 (p := ⟨w.heap.size, 4, none⟩) s0).trans d0_4)
          have F0_5 : ∀ g : Grown W6, g.w.cell? ⟨w.heap.size, 5, none⟩ = some (.int .u16 x5) := fun g => (g.cell Y0).trans ((Below.cell hL6 (p := ⟨w.heap.size, 5, none⟩) s0).trans c0_5)
          have H0_5 : ∀ g : Grown W6, g.w.frozen? ⟨w.heap.size, 5, none⟩ = false := fun g => (g.frozen Y0).trans ((Below.frozen hL6 (p := ⟨w.heap.size, 5, none⟩) s0).trans d0_5)
          clear Y0 s0 c0_0 d0_0 c0_1 d0_1 c0_2 d0_2 c0_3 d0_3 c0_4 d0_4 c0_5 d0_5
          have s1 := S1 g7
          have Y1 : w.heap.size + 1 < W6.heap.size := Nat.lt_of_lt_of_le s1 hL6.size
          have c1_0 := F1_0 g7
          have d1_0 := H1_0 g7
          have c1_1 := F1_1 g7
          have d1_1 := H1_1 g7
          clear S1 F1_0 H1_0 F1_1 H1_1
          have S1 : ∀ g : Grown W6, w.heap.size + 1 < g.w.heap.size := fun g => Nat.lt_of_lt_of_le Y1 g.h.size
          have F1_0 : ∀ g : Grown W6, g.w.cell? ⟨w.heap.size + 1, 0, none⟩ = some (.int .u32 y0) := fun g => (g.cell Y1).trans ((Below.cell hL6 (p := ⟨w.heap.size + 1, 0, none⟩) s1).trans c1_0)
          have H1_0 : ∀ g : Grown W6, g.w.frozen? ⟨w.heap.size + 1, 0, none⟩ = false := fun g => (g.frozen Y1).trans ((Below.frozen hL6 (p := ⟨w.heap.size + 1, 0, none⟩) s1).trans d1_0)
          have F1_1 : ∀ g : Grown W6, g.w.cell? ⟨w.heap.size + 1, 1, none⟩ = some (.int .u32 y1) := fun g => (g.cell Y1).trans ((Below.cell hL6 (p := ⟨w.heap.size + 1, 1, none⟩) s1).trans c1_1)
          have H1_1 : ∀ g : Grown W6, g.w.frozen? ⟨w.heap.size + 1, 1, none⟩ = false := fun g => (g.frozen Y1).trans ((Below.frozen hL6 (p := ⟨w.heap.size + 1, 1, none⟩) s1).trans d1_1)
          clear Y1 s1 c1_0 d1_0 c1_1 d1_1
          have s2 := S2 g7
          have Y2 : w.heap.size + 1 + 1 < W6.heap.size := Nat.lt_of_lt_of_le s2 hL6.size
          have c2_0 := F2_0 g7
          have d2_0 := H2_0 g7
          have c2_1 := F2_1 g7
          have d2_1 := H2_1 g7
          clear S2 F2_0 H2_0 F2_1 H2_1
          have S2 : ∀ g : Grown W6, w.heap.size + 1 + 1 < g.w.heap.size := fun g => Nat.lt_of_lt_of_le Y2 g.h.size
          have F2_0 : ∀ g : Grown W6, g.w.cell? ⟨w.heap.size + 1 + 1, 0, none⟩ = some (.int .u32 z0) := fun g => (g.cell Y2).trans ((Below.cell hL6 (p := ⟨w.heap.size + 1 + 1, 0, none⟩) s2).trans c2_0)
          have H2_0 : ∀ g : Grown W6, g.w.frozen? ⟨w.heap.size + 1 + 1, 0, none⟩ = false := fun g => (g.frozen Y2).trans ((Below.frozen hL6 (p := ⟨w.heap.size + 1 + 1, 0, none⟩) s2).trans d2_0)
          have F2_1 : ∀ g : Grown W6, g.w.cell? ⟨w.heap.size + 1 + 1, 1, none⟩ = some (.int .u32 z1) := fun g => (g.cell Y2).trans ((Below.cell hL6 (p := ⟨w.heap.size + 1 + 1, 1, none⟩) s2).trans c2_1)
          have H2_1 : ∀ g : Grown W6, g.w.frozen? ⟨w.heap.size + 1 + 1, 1, none⟩ = false := fun g => (g.frozen Y2).trans ((Below.frozen hL6 (p := ⟨w.heap.size + 1 + 1, 1, none⟩) s2).trans d2_1)
          clear Y2 s2 c2_0 d2_0 c2_1 d2_1
          have s3 := S3 g7
          have Y3 : b1x0 < W6.heap.size := Nat.lt_of_lt_of_le s3 hL6.size
          have c3_0 := F3_0 g7
          have d3_0 := H3_0 g7
          have c3_1 := F3_1 g7
          have d3_1 := H3_1 g7
          clear S3 F3_0 H3_0 F3_1 H3_1
          have S3 : ∀ g : Grown W6, b1x0 < g.w.heap.size := fun g => Nat.lt_of_lt_of_le Y3 g.h.size
          have F3_0 : ∀ g : Grown W6, g.w.cell? ⟨b1x0, 0, none⟩ = some (.int .i64 a) := fun g => (g.cell Y3).trans ((Below.cell hL6 (p := ⟨b1x0, 0, none⟩) s3).trans c3_0)
          have H3_0 : ∀ g : Grown W6, g.w.frozen? ⟨b1x0, 0, none⟩ = false := fun g => (g.frozen Y3).trans ((Below.frozen hL6 (p := ⟨b1x0, 0, none⟩) s3).trans d3_0)
          have F3_1 : ∀ g : Grown W6, g.w.cell? ⟨b1x0, 1, none⟩ = some (.int .i64 b) := fun g => (g.cell Y3).trans ((Below.cell hL6 (p := ⟨b1x0, 1, none⟩) s3).trans c3_1)
          have H3_1 : ∀ g : Grown W6, g.w.frozen? ⟨b1x0, 1, none⟩ = false := fun g => (g.frozen Y3).trans ((Below.frozen hL6 (p := ⟨b1x0, 1, none⟩) s3).trans d3_1)
          clear Y3 s3 c3_0 d3_0 c3_1 d3_1
          have s4 := S4 g7
          have Y4 : b1x1 < W6.heap.size := Nat.lt_of_lt_of_le s4 hL6.size
          have c4_0 := F4_0 g7
          have d4_0 := H4_0 g7
          have c4_1 := F4_1 g7
          have d4_1 := H4_1 g7
          clear S4 F4_0 H4_0 F4_1 H4_1
          have S4 : ∀ g : Grown W6, b1x1 < g.w.heap.size := fun g => Nat.lt_of_lt_of_le Y4 g.h.size
          have F4_0 : ∀ g : Grown W6, g.w.cell? ⟨b1x1, 0, none⟩ = some (.int .i64 c) := fun g => (g.cell Y4).trans ((Below.cell hL6 (p := ⟨b1x1, 0, none⟩) s4).trans c4_0)
          have H4_0 : ∀ g : Grown W6, g.w.frozen? ⟨b1x1, 0, none⟩ = false := fun g => (g.frozen Y4).trans ((Below.frozen hL6 (p := ⟨b1x1, 0, none⟩) s4).trans d4_0)
          have F4_1 : ∀ g : Grown W6, g.w.cell? ⟨b1x1, 1, none⟩ = some (.int .i64 d) := fun g => (g.cell Y4).trans ((Below.cell hL6 (p := ⟨b1x1, 1, none⟩) s4).trans c4_1)
          have H4_1 : ∀ g : Grown W6, g.w.frozen? ⟨b1x1, 1, none⟩ = false := fun g => (g.frozen Y4).trans ((Below.frozen hL6 (p := ⟨b1x1, 1, none⟩) s4).trans d4_1)
          clear Y4 s4 c4_0 d4_0 c4_1 d4_1
          have s5 := S5 g7
          have Y5 : b2x0 < W6.heap.size := Nat.lt_of_lt_of_le s5 hL6.size
          have c5_0 := F5_0 g7
          have d5_0 := H5_0 g7
          have c5_1 := F5_1 g7
          have d5_1 := H5_1 g7
          clear S5 F5_0 H5_0 F5_1 H5_1
          have S5 : ∀ g : Grown W6, b2x0 < g.w.heap.size := fun g => Nat.lt_of_lt_of_le Y5 g.h.size
          have F5_0 : ∀ g : Grown W6, g.w.cell? ⟨b2x0, 0, none⟩ = some (.int .i64 i) := fun g => (g.cell Y5).trans ((Below.cell hL6 (p := ⟨b2x0, 0, none⟩) s5).trans c5_0)
          have H5_0 : ∀ g : Grown W6, g.w.frozen? ⟨b2x0, 0, none⟩ = false := fun g => (g.frozen Y5).trans ((Below.frozen hL6 (p := ⟨b2x0, 0, none⟩) s5).trans d5_0)
          have F5_1 : ∀ g : Grown W6, g.w.cell? ⟨b2x0, 1, none⟩ = some (.int .i64 j) := fun g => (g.cell Y5).trans ((Below.cell hL6 (p := ⟨b2x0, 1, none⟩) s5).trans c5_1)
          have H5_1 : ∀ g : Grown W6, g.w.frozen? ⟨b2x0, 1, none⟩ = false := fun g => (g.frozen Y5).trans ((Below.frozen hL6 (p := ⟨b2x0, 1, none⟩) s5).trans d5_1)
          clear Y5 s5 c5_0 d5_0 c5_1 d5_1
          have s6 := S6 g7
          have Y6 : b2x1 < W6.heap.size := Nat.lt_of_lt_of_le s6 hL6.size
          have c6_0 := F6_0 g7
          have d6_0 := H6_0 g7
          have c6_1 := F6_1 g7
          have d6_1 := H6_1 g7
          clear S6 F6_0 H6_0 F6_1 H6_1
          have S6 : ∀ g : Grown W6, b2x1 < g.w.heap.size := fun g => Nat.lt_of_lt_of_le Y6 g.h.size
          have F6_0 : ∀ g : Grown W6, g.w.cell? ⟨b2x1, 0, none⟩ = some (.int .i64 k) := fun g => (g.cell Y6).trans ((Below.cell hL6 (p := ⟨b2x1, 0, none⟩) s6).trans c6_0)
          have H6_0 : ∀ g : Grown W6, g.w.frozen? ⟨b2x1, 0, none⟩ = false := fun g => (g.frozen Y6).trans ((Below.frozen hL6 (p := ⟨b2x1, 0, none⟩) s6).trans d6_0)
          have F6_1 : ∀ g : Grown W6, g.w.cell? ⟨b2x1, 1, none⟩ = some (.int .i64 l) := fun g => (g.cell Y6).trans ((Below.cell hL6 (p := ⟨b2x1, 1, none⟩) s6).trans c6_1)
          have H6_1 : ∀ g : Grown W6, g.w.frozen? ⟨b2x1, 1, none⟩ = false := fun g => (g.frozen Y6).trans ((Below.frozen hL6 (p := ⟨b2x1, 1, none⟩) s6).trans d6_1)
          clear Y6 s6 c6_0 d6_0 c6_1 d6_1
          have s7 := S7 g7
          have Y7 : nb3 < W6.heap.size := Nat.lt_of_lt_of_le s7 hL6.size
          have c7_0 := F7_0 g7
          have d7_0 := H7_0 g7
          have c7_1 := F7_1 g7
          have d7_1 := H7_1 g7
          clear S7 F7_0 H7_0 F7_1 H7_1
          have S7 : ∀ g : Grown W6, nb3 < g.w.heap.size := fun g => Nat.lt_of_lt_of_le Y7 g.h.size
          have F7_0 : ∀ g : Grown W6, g.w.cell? ⟨nb3, 0, none⟩ = some (.int .i64 p1) := fun g => (g.cell Y7).trans ((Below.cell hL6 (p := ⟨nb3, 0, none⟩) s7).trans c7_0)
          have H7_0 : ∀ g : Grown W6, g.w.frozen? ⟨nb3, 0, none⟩ = false := fun g => (g.frozen Y7).trans ((Below.frozen hL6 (p := ⟨nb3, 0, none⟩) s7).trans d7_0)
          have F7_1 : ∀ g : Grown W6, g.w.cell? ⟨nb3, 1, none⟩ = some (.int .i64 p2) := fun g => (g.cell Y7).trans ((Below.cell hL6 (p := ⟨nb3, 1, none⟩) s7).trans c7_1)
          have H7_1 : ∀ g : Grown W6, g.w.frozen? ⟨nb3, 1, none⟩ = false := fun g => (g.frozen Y7).trans ((Below.frozen hL6 (p := ⟨nb3, 1, none⟩) s7).trans d7_1)
          clear Y7 s7 c7_0 d7_0 c7_1 d7_1
          have s8 := S8 g7
          have Y8 : nb4 < W6.heap.size := Nat.lt_of_lt_of_le s8 hL6.size
          have c8_0 := F8_0 g7
          have d8_0 := H8_0 g7
          have c8_1 := F8_1 g7
          have d8_1 := H8_1 g7
          clear S8 F8_0 H8_0 F8_1 H8_1
          have S8 : ∀ g : Grown W6, nb4 < g.w.heap.size := fun g => Nat.lt_of_lt_of_le Y8 g.h.size
          have F8_0 : ∀ g : Grown W6, g.w.cell? ⟨nb4, 0, none⟩ = some (.int .i64 q1) := fun g => (g.cell Y8).trans ((Below.cell hL6 (p := ⟨nb4, 0, none⟩) s8).trans c8_0)
          have H8_0 : ∀ g : Grown W6, g.w.frozen? ⟨nb4, 0, none⟩ = false := fun g => (g.frozen Y8).trans ((Below.frozen hL6 (p := ⟨nb4, 0, none⟩) s8).trans d8_0)
          have F8_1 : ∀ g : Grown W6, g.w.cell? ⟨nb4, 1, none⟩ = some (.int .i64 q2) := fun g => (g.cell Y8).trans ((Below.cell hL6 (p := ⟨nb4, 1, none⟩) s8).trans c8_1)
          have H8_1 : ∀ g : Grown W6, g.w.frozen? ⟨nb4, 1, none⟩ = false := fun g => (g.frozen Y8).trans ((Below.frozen hL6 (p := ⟨nb4, 1, none⟩) s8).trans d8_1)
          clear Y8 s8 c8_0 d8_0 c8_1 d8_1
          have s9 := S9 g7
          have Y9 : nb5 < W6.heap.size := Nat.lt_of_lt_of_le s9 hL6.size
          have c9_0 := F9_0 g7
          have d9_0 := H9_0 g7
          have c9_1 := F9_1 g7
          have d9_1 := H9_1 g7
          clear S9 F9_0 H9_0 F9_1 H9_1
          have S9 : ∀ g : Grown W6, nb5 < g.w.heap.size := fun g => Nat.lt_of_lt_of_le Y9 g.h.size
          have F9_0 : ∀ g : Grown W6, g.w.cell? ⟨nb5, 0, none⟩ = some (.int .i64 s1) := fun g => (g.cell Y9).trans ((Below.cell hL6 (p := ⟨nb5, 0, none⟩) s9).trans c9_0)
          have H9_0 : ∀ g : Grown W6, g.w.frozen? ⟨nb5, 0, none⟩ = false := fun g => (g.frozen Y9).trans ((Below.frozen hL6 (p := ⟨nb5, 0, none⟩) s9).trans d9_0)
          have F9_1 : ∀ g : Grown W6, g.w.cell? ⟨nb5, 1, none⟩ = some (.int .i64 s2) := fun g => (g.cell Y9).trans ((Below.cell hL6 (p := ⟨nb5, 1, none⟩) s9).trans c9_1)
          have H9_1 : ∀ g : Grown W6, g.w.frozen? ⟨nb5, 1, none⟩ = false := fun g => (g.frozen Y9).trans ((Below.frozen hL6 (p := ⟨nb5, 1, none⟩) s9).trans d9_1)
          clear Y9 s9 c9_0 d9_0 c9_1 d9_1
          have Y10 : nb6 < W6.heap.size := by subst hW6; subst hnb6; simp <;> omega
          have S10 : ∀ g : Grown W6, nb6 < g.w.heap.size := fun g => Nat.lt_of_lt_of_le Y10 g.h.size
          have F10_0 : ∀ g : Grown W6, g.w.cell? ⟨nb6, 0, none⟩ = some (.int .i64 t1) := fun g => (g.cell Y10).trans (by subst hW6; subst hnb6; simp [go_sem])
          have H10_0 : ∀ g : Grown W6, g.w.frozen? ⟨nb6, 0, none⟩ = false := fun g => (g.frozen Y10).trans (by subst hW6; subst hnb6; simp [go_sem])
          have F10_1 : ∀ g : Grown W6, g.w.cell? ⟨nb6, 1, none⟩ = some (.int .i64 t2) := fun g => (g.cell Y10).trans (by subst hW6; subst hnb6; simp [go_sem])
          have H10_1 : ∀ g : Grown W6, g.w.frozen? ⟨nb6, 1, none⟩ = false := fun g => (g.frozen Y10).trans (by subst hW6; subst hnb6; simp [go_sem])
          clear Y10
          rw [← hnb6]
          clear hnb6 hW6 hT5 hL6
          obtain ⟨h6, hg6⟩ : ∃ g : Grown W6, W6 = g.w := ⟨⟨W6, Below.refl _ _⟩, rfl⟩
          rw [hg6]
          clear hg6 g7
          refine ((hmc.out (by trivial)) _).mono ?_
          rintro e8 w8 ⟨rfl, hB8⟩
          obtain ⟨g8, rfl⟩ := grow h6 hB8
          clear hB8
          go_wp2_with (fail)
          have hB : Below w.heap.size w g8.w := below_then hT6 g8.h
          go_ret
          refine ⟨rfl, ?_⟩
          go_grown
      | true =>
        obtain rfl := hz1.out rfl
        cases met with
        | false =>
          go_wp2_with (fail)
          generalize hW6 : World.alloc g7.w _ = W6
          have hL6 : Below g7.w.heap.size g7.w W6 := by subst hW6; exact ((Below.refl _ _).alloc (by first | omega | (simp <;> omega)) _)
          have hT6 : Below w.heap.size w W6 := below_then (below_then hT5 g7.h) hL6
          obtain ⟨nb6, hnb6⟩ : ∃ nb, nb = g7.w.heap.size := ⟨_, rfl⟩
          have s0 := S0 g7
          have Y0 : w.heap.size < W6.heap.size := Nat.lt_of_lt_of_le s0 hL6.size
          have c0_0 := F0_0 g7
          have d0_0 := H0_0 g7
          have c0_1 := F0_1 g7
          have d0_1 := H0_1 g7
          have c0_2 := F0_2 g7
          have d0_2 := H0_2 g7
          have c0_3 := F0_3 g7
          have d0_3 := H0_3 g7
          have c0_4 := F0_4 g7
          have d0_4 := H0_4 g7
          have c0_5 := F0_5 g7
          have d0_5 := H0_5 g7
          clear S0 F0_0 H0_0 F0_1 H0_1 F0_2 H0_2 F0_3 H0_3 F0_4 H0_4 F0_5 H0_5
          have S0 : ∀ g : Grown W6, w.heap.size < g.w.heap.size := fun g => Nat.lt_of_lt_of_le Y0 g.h.size
          have F0_0 : ∀ g : Grown W6, g.w.cell? ⟨w.heap.size, 0, none⟩ = some (.int .i64 x0) := fun g => (g.cell Y0).trans ((Below.cell hL6 (p := ⟨w.heap.size, 0, none⟩) s0).trans c0_0)
          have H0_0 : ∀ g : Grown W6, g.w.frozen? ⟨w.heap.size, 0, none⟩ = false := fun g => (g.frozen Y0).trans ((Below.frozen hL6 (p := ⟨w.heap.size, 0, none⟩) s0).trans d0_0)
          have F0_1 : ∀ g : Grown W6, g.w.cell? ⟨w.heap.size, 1, none⟩ = some (.int .i64 x1) := fun g => (g.cell Y0).trans ((Below.cell hL6 (p := ⟨w.heap.size, 1, none⟩) s0).trans c0_1)
          have H0_1 : ∀ g : Grown W6, g.w.frozen? ⟨w.heap.size, 1, none⟩ = false := fun g => (g.frozen Y0).trans ((Below.frozen hL6 (p := ⟨w.heap.size, 1, none⟩) s0).trans d0_1)
          have F0_2 : ∀ g : Grown W6, g.w.cell? ⟨w.heap.size, 2, none⟩ = some (.int .i64 x2) := fun g => (g.cell Y0).trans ((Below.cell hL6 (p := ⟨w.heap.size, 2, none⟩) s0).trans c0_2)
          have H0_2 : ∀ g : Grown W6, g.w.frozen? ⟨w.heap.size, 2, none⟩ = false := fun g => (g.frozen Y0).trans ((Below.frozen hL6 (p := ⟨w.heap.size, 2, none⟩) s0).trans d0_2)
          have F0_3 : ∀ g : Grown W6, g.w.cell? ⟨w.heap.size, 3, none⟩ = some (.int .i64 x3) := fun g => (g.cell Y0).trans ((Below.cell hL6 (p := ⟨w.heap.size, 3, none⟩) s0).trans c0_3)
          have H0_3 : ∀ g : Grown W6, g.w.frozen? ⟨w.heap.size, 3, none⟩ = false := fun g => (g.frozen Y0).trans ((Below.frozen hL6 (p := ⟨w.heap.size, 3, none⟩) s0).trans d0_3)
          have F0_4 : ∀ g : Grown W6, g.w.cell? ⟨w.heap.size, 4, none⟩ = some (.int .i32 x4) := fun g => (g.cell Y0).trans ((Below.cell hL6 (p := ⟨w.heap.size, 4, none⟩) s0).trans c0_4)
          have H0_4 : ∀ g : Grown W6, g.w.frozen? ⟨w.heap.size, 4, none⟩ = false := fun g => (g.frozen Y0).trans ((Below.frozen hL6 (p := ⟨w.heap.size, 4, none⟩) s0).trans d0_4)
          have F0_5 : ∀ g : Grown W6, g.w.cell? ⟨w.heap.size, 5, none⟩ = some (.int .u16 x5) := fun g => (g.cell Y0).trans ((Below.cell hL6 (p := ⟨w.heap.size, 5, none⟩) s0).trans c0_5)
          have H0_5 : ∀ g : Grown W6, g.w.frozen? ⟨w.heap.size, 5, none⟩ = false := fun g => (g.frozen Y0).trans ((Below.frozen hL6 (p := ⟨w.heap.size, 5, none⟩) s0).trans d0_5)
          clear Y0 s0 c0_0 d0_0 c0_1 d0_1 c0_2 d0_2 c0_3 d0_3 c0_4 d0_4 c0_5 d0_5
          have s1 := S1 g7
          have Y1 : w.heap.size + 1 < W6.heap.size := Nat.lt_of_lt_of_le s1 hL6.size
          have c1_0 := F1_0 g7
          have d1_0 := H1_0 g7
          have c1_1 := F1_1 g7
          have d1_1 := H1_1 g7
          clear S1 F1_0 H1_0 F1_1 H1_1
          have S1 : ∀ g : Grown W6, w.heap.size + 1 < g.w.heap.size := fun g => Nat.lt_of_lt_of_le Y1 g.h.size
          have F1_0 : ∀ g : Grown W6, g.w.cell? ⟨w.heap.size + 1, 0, none⟩ = some (.int .u32 y0) := fun g => (g.cell Y1).trans ((Below.cell hL6 (p := ⟨w.heap.size + 1, 0, none⟩) s1).trans c1_0)
          have H1_0 : ∀ g : Grown W6, g.w.frozen? ⟨w.heap.size + 1, 0, none⟩ = false := fun g => (g.frozen Y1).trans ((Below.frozen hL6 (p := ⟨w.heap.size + 1, 0, none⟩) s1).trans d1_0)
          have F1_1 : ∀ g : Grown W6, g.w.cell? ⟨w.heap.size + 1, 1, none⟩ = some (.int .u32 y1) := fun g => (g.cell Y1).trans ((Below.cell hL6 (p := ⟨w.heap.size + 1, 1, none⟩) s1).trans c1_1)
          have H1_1 : ∀ g : Grown W6, g.w.frozen? ⟨w.heap.size + 1, 1, none⟩ = false := fun g => (g.frozen Y1).trans ((Below.frozen hL6 (p := ⟨w.heap.size + 1, 1, none⟩) s1).trans d1_1)
          clear Y1 s1 c1_0 d1_0 c1_1 d1_1
          have s2 := S2 g7
          have Y2 : w.heap.size + 1 + 1 < W6.heap.size := Nat.lt_of_lt_of_le s2 hL6.size
          have c2_0 := F2_0 g7
          have d2_0 := H2_0 g7
          have c2_1 := F2_1 g7
          have d2_1 := H2_1 g7
          clear S2 F2_0 H2_0 F2_1 H2_1
          have S2 : ∀ g : Grown W6, w.heap.size + 1 + 1 < g.w.heap.size := fun g => Nat.lt_of_lt_of_le Y2 g.h.size
          have F2_0 : ∀ g : Grown W6, g.w.cell? ⟨w.heap.size + 1 + 1, 0, none⟩ = some (.int .u32 z0) := fun g => (g.cell Y2).trans ((Below.cell hL6 (p := ⟨w.heap.size + 1 + 1, 0, none⟩) s2).trans c2_0)
          have H2_0 : ∀ g : Grown W6, g.w.frozen? ⟨w.heap.size + 1 + 1, 0, none⟩ = false := fun g => (g.frozen Y2).trans ((Below.frozen hL6 (p := ⟨w.heap.size + 1 + 1, 0, none⟩) s2).trans d2_0)
          have F2_1 : ∀ g : Grown W6, g.w.cell? ⟨w.heap.size + 1 + 1, 1, none⟩ = some (.int .u32 z1) := fun g => (g.cell Y2).trans ((Below.cell hL6 (p := ⟨w.heap.size + 1 + 1, 1, none⟩) s2).trans c2_1)
          have H2_1 : ∀ g : Grown W6, g.w.frozen? ⟨w.heap.size + 1 + 1, 1, none⟩ = false := fun g => (g.frozen Y2).trans ((Below.frozen hL6 (p := ⟨w.heap.size + 1 + 1, 1, none⟩) s2).trans d2_1)
          clear Y2 s2 c2_0 d2_0 c2_1 d2_1
          have s3 := S3 g7
          have Y3 : b1x0 < W6.heap.size := Nat.lt_of_lt_of_le s3 hL6.size
          have c3_0 := F3_0 g7
          have d3_0 := H3_0 g7
          have c3_1 := F3_1 g7
          have d3_1 := H3_1 g7
          clear S3 F3_0 H3_0 F3_1 H3_1
          have S3 : ∀ g : Grown W6, b1x0 < g.w.heap.size := fun g => Nat.lt_of_lt_of_le Y3 g.h.size
          have F3_0 : ∀ g : Grown W6, g.w.cell? ⟨b1x0, 0, none⟩ = some (.int .i64 a) := fun g => (g.cell Y3).trans ((Below.cell hL6 (p := ⟨b1x0, 0, none⟩) s3).trans c3_0)
          have H3_0 : ∀ g : Grown W6, g.w.frozen? ⟨b1x0, 0, none⟩ = false := fun g => (g.frozen Y3).trans ((Below.frozen hL6 (p := ⟨b1x0, 0, none⟩) s3).trans d3_0)
          have F3_1 : ∀ g : Grown W6, g.w.cell? ⟨b1x0, 1, none⟩ = some (.int .i64 b) := fun g => (g.cell Y3).trans ((Below.cell hL6 (p := ⟨b1x0, 1, none⟩) s3).trans c3_1)
          have H3_1 : ∀ g : Grown W6, g.w.frozen? ⟨b1x0, 1, none⟩ = false := fun g => (g.frozen Y3).trans ((Below.frozen hL6 (p := ⟨b1x0, 1, none⟩) s3).trans d3_1)
          clear Y3 s3 c3_0 d3_0 c3_1 d3_1
          have s4 := S4 g7
          have Y4 : b1x1 < W6.heap.size := Nat.lt_of_lt_of_le s4 hL6.size
          have c4_0 := F4_0 g7
          have d4_0 := H4_0 g7
          have c4_1 := F4_1 g7
          have d4_1 := H4_1 g7
          clear S4 F4_0 H4_0 F4_1 H4_1
          have S4 : ∀ g : Grown W6, b1x1 < g.w.heap.size := fun g => Nat.lt_of_lt_of_le Y4 g.h.size
          have F4_0 : ∀ g : Grown W6, g.w.cell? ⟨b1x1, 0, none⟩ = some (.int .i64 c) := fun g => (g.cell Y4).trans ((Below.cell hL6 (p := ⟨b1x1, 0, none⟩) s4).trans c4_0)
          have H4_0 : ∀ g : Grown W6, g.w.frozen? ⟨b1x1, 0, none⟩ = false := fun g => (g.frozen Y4).trans ((Below.frozen hL6 (p := ⟨b1x1, 0, none⟩) s4).trans d4_0)
          have F4_1 : ∀ g : Grown W6, g.w.cell? ⟨b1x1, 1, none⟩ = some (.int .i64 d) := fun g => (g.cell Y4).trans ((Below.cell hL6 (p := ⟨b1x1, 1, none⟩) s4).trans c4_1)
          have H4_1 : ∀ g : Grown W6, g.w.frozen? ⟨b1x1, 1, none⟩ = false := fun g => (g.frozen Y4).trans ((Below.frozen hL6 (p := ⟨b1x1, 1, none⟩) s4).trans d4_1)
          clear Y4 s4 c4_0 d4_0 c4_1 d4_1
          have s5 := S5 g7
          have Y5 : b2x0 < W6.heap.size := Nat.lt_of_lt_of_le s5 hL6.size
          have c5_0 := F5_0 g7
          have d5_0 := H5_0 g7
          have c5_1 := F5_1 g7
          have d5_1 := H5_1 g7
          clear S5 F5_0 H5_0 F5_1 H5_1
          have S5 : ∀ g : Grown W6, b2x0 < g.w.heap.size := fun g => Nat.lt_of_lt_of_le Y5 g.h.size
          have F5_0 : ∀ g : Grown W6, g.w.cell? ⟨b2x0, 0, none⟩ = some (.int .i64 i) := fun g => (g.cell Y5).trans ((Below.cell hL6 (p := ⟨b2x0, 0, none⟩) s5).trans c5_0)
          have H5_0 : ∀ g : Grown W6, g.w.frozen? ⟨b2x0, 0, none⟩ = false := fun g => (g.frozen Y5).trans ((Below.frozen hL6 (p := ⟨b2x0, 0, none⟩) s5).trans d5_0)
          have F5_1 : ∀ g : Grown W6, g.w.cell? ⟨b2x0, 1, none⟩ = some (.int .i64 j) := fun g => (g.cell Y5).trans ((Below.cell hL6 (p := ⟨b2x0, 1, none⟩) s5).trans c5_1)
          have H5_1 : ∀ g : Grown W6, g.w.frozen? ⟨b2x0, 1, none⟩ = false := fun g => (g.frozen Y5).trans ((Below.frozen hL6 (p := ⟨b2x0, 1, none⟩) s5).trans d5_1)
          clear Y5 s5 c5_0 d5_0 c5_1 d5_1
          have s6 := S6 g7
          have Y6 : b2x1 < W6.heap.size := Nat.lt_of_lt_of_le s6 hL6.size
          have c6_0 := F6_0 g7
          have d6_0 := H6_0 g7
          have c6_1 := F6_1 g7
          have d6_1 := H6_1 g7
          clear S6 F6_0 H6_0 F6_1 H6_1
          have S6 : ∀ g : Grown W6, b2x1 < g.w.heap.size := fun g => Nat.lt_of_lt_of_le Y6 g.h.size
          have F6_0 : ∀ g : Grown W6, g.w.cell? ⟨b2x1, 0, none⟩ = some (.int .i64 k) := fun g => (g.cell Y6).trans ((Below.cell hL6 (p := ⟨b2x1, 0, none⟩) s6).trans c6_0)
          have H6_0 : ∀ g : Grown W6, g.w.frozen? ⟨b2x1, 0, none⟩ = false := fun g => (g.frozen Y6).trans ((Below.frozen hL6 (p := ⟨b2x1, 0, none⟩) s6).trans d6_0)
          have F6_1 : ∀ g : Grown W6, g.w.cell? ⟨b2x1, 1, none⟩ = some (.int .i64 l) := fun g => (g.cell Y6).trans ((Below.cell hL6 (p := ⟨b2x1, 1, none⟩) s6).trans c6_1)
          have H6_1 : ∀ g : Grown W6, g.w.frozen? ⟨b2x1, 1, none⟩ = false := fun g => (g.frozen Y6).trans ((Below.frozen hL6 (p := ⟨b2x1, 1, none⟩) s6).trans d6_1)
          clear Y6 s6 c6_0 d6_0 c6_1 d6_1
          have s7 := S7 g7
          have Y7 : nb3 < W6.heap.size := Nat.lt_of_lt_of_le s7 hL6.size
          have c7_0 := F7_0 g7
          have d7_0 := H7_0 g7
          have c7_1 := F7_1 g7
          have d7_1 := H7_1 g7
          clear S7 F7_0 H7_0 F7_1 H7_1
          have S7 : ∀ g : Grown W6, nb3 < g.w.heap.size := fun g => Nat.lt_of_lt_of_le Y7 g.h.size
          have F7_0 : ∀ g : Grown W6, g.w.cell? ⟨nb3, 0, none⟩ = some (.int .i64 p1) := fun g => (g.cell Y7).trans ((Below.cell hL6 (p := ⟨nb3, 0, none⟩) s7).trans c7_0)
          have H7_0 : ∀ g : Grown W6, g.w.frozen? ⟨nb3, 0, none⟩ = false := fun g => (g.frozen Y7).trans ((Below.frozen hL6 (p := ⟨nb3, 0, none⟩) s7).trans d7_0)
          have F7_1 : ∀ g : Grown W6, g.w.cell? ⟨nb3, 1, none⟩ = some (.int .i64 p2) := fun g => (g.cell Y7).trans ((Below.cell hL6 (p := ⟨nb3, 1, none⟩) s7).trans c7_1)
          have H7_1 : ∀ g : Grown W6, g.w.frozen? ⟨nb3, 1, none⟩ = false := fun g => (g.frozen Y7).trans ((Below.frozen hL6 (p := ⟨nb3, 1, none⟩) s7).trans d7_1)
          clear Y7 s7 c7_0 d7_0 c7_1 d7_1
          have s8 := S8 g7
          have Y8 : nb4 < W6.heap.size := Nat.lt_of_lt_of_le s8 hL6.size
          have c8_0 := F8_0 g7
          have d8_0 := H8_0 g7
          have c8_1 := F8_1 g7
          have d8_1 := H8_1 g7
          clear S8 F8_0 H8_0 F8_1 H8_1
          have S8 : ∀ g : Grown W6, nb4 < g.w.heap.size := fun g => Nat.lt_of_lt_of_le Y8 g.h.size
          have F8_0 : ∀ g : Grown W6, g.w.cell? ⟨nb4, 0, none⟩ = some (.int .i64 q1) := fun g => (g.cell Y8).trans ((Below.cell hL6 (p := ⟨nb4, 0, none⟩) s8).trans c8_0)
          have H8_0 : ∀ g : Grown W6, g.w.frozen? ⟨nb4, 0, none⟩ = false := fun g => (g.frozen Y8).trans ((Below.frozen hL6 (p := ⟨nb4, 0, none⟩) s8).trans d8_0)
          have F8_1 : ∀ g : Grown W6, g.w.cell? ⟨nb4, 1, none⟩ = some (.int .i64 q2) := fun g => (g.cell Y8).trans ((Below.cell hL6 (p := ⟨nb4, 1, none⟩) s8).trans c8_1)
          have H8_1 : ∀ g : Grown W6, g.w.frozen? ⟨nb4, 1, none⟩ = false := fun g => (g.frozen Y8).trans ((Below.frozen hL6 (p := ⟨nb4, 1, none⟩) s8).trans d8_1)
          clear Y8 s8 c8_0 d8_0 c8_1 d8_1
          have s9 := S9 g7
          have Y9 : nb5 < W6.heap.size := Nat.lt_of_lt_of_le s9 hL6.size
          have c9_0 := F9_0 g7
          have d9_0 := H9_0 g7
          have c9_1 := F9_1 g7
          have d9_1 := H9_1 g7
          clear S9 F9_0 H9_0 F9_1 H9_1
          have S9 : ∀ g : Grown W6, nb5 < g.w.heap.size := fun g => Nat.lt_of_lt_of_le Y9 g.h.size
          have F9_0 : ∀ g : Grown W6, g.w.cell? ⟨nb5, 0, none⟩ = some (.int .i64 s1) := fun g => (g.cell Y9).trans ((Below.cell hL6 (p := ⟨nb5, 0, none⟩) s9).trans c9_0)
          have H9_0 : ∀ g : Grown W6, g.w.frozen? ⟨nb5, 0, none⟩ = false := fun g => (g.frozen Y9).trans ((Below.frozen hL6 (p := ⟨nb5, 0, none⟩) s9).trans d9_0)
          have F9_1 : ∀ g : Grown W6, g.w.cell? ⟨nb5, 1, none⟩ = some (.int .i64 s2) := fun g => (g.cell Y9).trans ((Below.cell hL6 (p := ⟨nb5, 1, none⟩) s9).trans c9_1)
          have H9_1 : ∀ g : Grown W6, g.w.frozen? ⟨nb5, 1, none⟩ = false := fun g => (g.frozen Y9).trans ((Below.frozen hL6 (p := ⟨nb5, 1, none⟩) s9).trans d9_1)
          clear Y9 s9 c9_0 d9_0 c9_1 d9_1
          have Y10 : nb6 < W6.heap.size := by subst hW6; subst hnb6; simp <;> omega
          have S10 : ∀ g : Grown W6, nb6 < g.w.heap.size := fun g => Nat.lt_of_lt_of_le Y10 g.h.size
          have F10_0 : ∀ g : Grown W6, g.w.cell? ⟨nb6, 0, none⟩ = some (.int .i64 t1) := fun g => (g.cell Y10).trans (by subst hW6; subst hnb6; simp [go_sem])
          have H10_0 : ∀ g : Grown W6, g.w.frozen? ⟨nb6, 0, none⟩ = false := fun g => (g.frozen Y10).trans (by subst hW6; subst hnb6; simp [go_sem])
          have F10_1 : ∀ g : Grown W6, g.w.cell? ⟨nb6, 1, none⟩ = some (.int .i64 t2) := fun g => (g.cell Y10).trans (by subst hW6; subst hnb6; simp [go_sem])
          have H10_1 : ∀ g : Grown W6, g.w.frozen? ⟨nb6, 1, none⟩ = false := fun g => (g.frozen Y10).trans (by subst hW6; subst hnb6; simp [go_sem])
          clear Y10
          rw [← hnb6]
          clear hnb6 hW6 hT5 hL6
          obtain ⟨h6, hg6⟩ : ∃ g : Grown W6, W6 = g.w := ⟨⟨W6, Below.refl _ _⟩, rfl⟩
          rw [hg6]
          clear hg6 g7
          refine ((hqc_.out (by trivial)) _).mono ?_
          rintro e8 w8 ⟨rfl, hB8⟩
          obtain ⟨g8, rfl⟩ := grow h6 hB8
          clear hB8
          go_wp2_with (fail)
          have hB : Below w.heap.size w g8.w := below_then hT6 g8.h
          go_ret
          refine ⟨rfl, ?_⟩
          go_grown
        | true =>
          obtain rfl := hz2.out rfl
          go_wp2_with (fail)
          generalize hW6 : World.alloc g7.w _ = W6
          have hL6 : Below g7.w.heap.size g7.w W6 := by subst hW6; exact ((Below.refl _ _).alloc (by first | omega | (simp <;> omega)) _)
          have hT6 : Below w.heap.size w W6 := below_then (below_then hT5 g7.h) hL6
          obtain ⟨nb6, hnb6⟩ : ∃ nb, nb = g7.w.heap.size := ⟨_, rfl⟩
          have s0 := S0 g7
          have Y0 : w.heap.size < W6.heap.size := Nat.lt_of_lt_of_le s0 hL6.size
          have c0_0 := F0_0 g7
          have d0_0 := H0_0 g7
          have c0_1 := F0_1 g7
          have d0_1 := H0_1 g7
          have c0_2 := F0_2 g7
          have d0_2 := H0_2 g7
          have c0_3 := F0_3 g7
          have d0_3 := H0_3 g7
          have c0_4 := F0_4 g7
          have d0_4 := H0_4 g7
          have c0_5 := F0_5 g7
          have d0_5 := H0_5 g7
          clear S0 F0_0 H0_0 F0_1 H0_1 F0_2 H0_2 F0_3 H0_3 F0_4 H0_4 F0_5 H0_5
          have S0 : ∀ g : Grown W6, w.heap.size < g.w.heap.size := fun g => Nat.lt_of_lt_of_le Y0 g.h.size
          have F0_0 : ∀ g : Grown W6, g.w.cell? ⟨w.heap.size, 0, none⟩ = some (.int .i64 x0) := fun g => (g.cell Y0).trans ((Below.cell hL6 (p := ⟨w.heap.size, 0, none⟩) s0).trans c0_0)
          have H0_0 : ∀ g : Grown W6, g.w.frozen? ⟨w.heap.size, 0, none⟩ = false := fun g => (g.frozen Y0).trans ((Below.frozen hL6 (p := ⟨w.heap.size, 0, none⟩) s0).trans d0_0)
          have F0_1 : ∀ g : Grown W6, g.w.cell? ⟨w.heap.size, 1, none⟩ = some (.int .i64 x1) := fun g => (g.cell Y0).trans ((Below.cell hL6 (p := ⟨w.heap.size, 1, none⟩) s0).trans c0_1)
          have H0_1 : ∀ g : Grown W6, g.w.frozen? ⟨w.heap.size, 1, none⟩ = false := fun g => (g.frozen Y0).trans ((Below.frozen hL6 (p := ⟨w.heap.size, 1, none⟩) s0).trans d0_1)
          have F0_2 : ∀ g : Grown W6, g.w.cell? ⟨w.heap.size, 2, none⟩ = some (.int .i64 x2) := fun g => (g.cell Y0).trans ((Below.cell hL6 (p := ⟨w.heap.size, 2, none⟩) s0).trans c0_2)
          have H0_2 : ∀ g : Grown W6, g.w.frozen? ⟨w.heap.size, 2, none⟩ = false := fun g => (g.frozen Y0).trans ((Below.frozen hL6 (p := ⟨w.heap.size, 2, none⟩) s0).trans d0_2)
          have F0_3 : ∀ g : Grown W6, g.w.cell? ⟨w.heap.size, 3, none⟩ = some (.int .i64 x3) := fun g => (g.cell Y0).trans ((Below.cell hL6 (p := ⟨w.heap.size, 3, none⟩) s0).trans c0_3)
          have H0_3 : ∀ g : Grown W6, g.w.frozen? ⟨w.heap.size, 3, none⟩ = false := fun g => (g.frozen Y0).trans ((Below.frozen hL6 (p := ⟨w.heap.size, 3, none⟩) s0).trans d0_3)
          have F0_4 : ∀ g : Grown W6, g.w.cell? ⟨w.heap.size, 4, none⟩ = some (.int .i32 x4) := fun g => (g.cell Y0).trans ((Below.cell hL6 (p := ⟨w.heap.size, 4, none⟩) s0).trans c0_4)
          have H0_4 : ∀ g : Grown W6, g.w.frozen? ⟨w.heap.size, 4, none⟩ = false := fun g => (g.frozen Y0).trans ((Below.frozen hL6 (p := ⟨w.heap.size, 4, none⟩) s0).trans d0_4)
          have F0_5 : ∀ g : Grown W6, g.w.cell? ⟨w.heap.size, 5, none⟩ = some (.int .u16 x5) := fun g => (g.cell Y0).trans ((Below.cell hL6 (p := ⟨w.heap.size, 5, none⟩) s0).trans c0_5)
          have H0_5 : ∀ g : Grown W6, g.w.frozen? ⟨w.heap.size, 5, none⟩ = false := fun g => (g.frozen Y0).trans ((Below.frozen hL6 (p := ⟨w.heap.size, 5, none⟩) s0).trans d0_5)
          clear Y0 s0 c0_0 d0_0 c0_1 d0_1 c0_2 d0_2 c0_3 d0_3 c0_4 d0_4 c0_5 d0_5
          have s1 := S1 g7
          have Y1 : w.heap.size + 1 < W6.heap.size := Nat.lt_of_lt_of_le s1 hL6.size
          have c1_0 := F1_0 g7
          have d1_0 := H1_0 g7
          have c1_1 := F1_1 g7
          have d1_1 := H1_1 g7
          clear S1 F1_0 H1_0 F1_1 H1_1
          have S1 : ∀ g : Grown W6, w.heap.size + 1 < g.w.heap.size := fun g => Nat.lt_of_lt_of_le Y1 g.h.size
          have F1_0 : ∀ g : Grown W6, g.w.cell? ⟨w.heap.size + 1, 0, none⟩ = some (.int .u32 y0) := fun g => (g.cell Y1).trans ((Below.cell hL6 (p := ⟨w.heap.size + 1, 0, none⟩) s1).trans c1_0)
          have H1_0 : ∀ g : Grown W6, g.w.frozen? ⟨w.heap.size + 1, 0, none⟩ = false := fun g => (g.frozen Y1).trans ((Below.frozen hL6 (p := ⟨w.heap.size + 1, 0, none⟩) s1).trans d1_0)
          have F1_1 : ∀ g : Grown W6, g.w.cell? ⟨w.heap.size + 1, 1, none⟩ = some (.int .u32 y1) := fun g => (g.cell Y1).trans ((Below.cell hL6 (p := ⟨w.heap.size + 1, 1, none⟩) s1).trans c1_1)
          have H1_1 : ∀ g : Grown W6, g.w.frozen? ⟨w.heap.size + 1, 1, none⟩ = false := fun g => (g.frozen Y1).trans ((Below.frozen hL6 (p := ⟨w.heap.size + 1, 1, none⟩) s1).trans d1_1)
          clear Y1 s1 c1_0 d1_0 c1_1 d1_1
          have s2 := S2 g7
          have Y2 : w.heap.size + 1 + 1 < W6.heap.size := Nat.lt_of_lt_of_le s2 hL6.size
          have c2_0 := F2_0 g7
          have d2_0 := H2_0 g7
          have c2_1 := F2_1 g7
          have d2_1 := H2_1 g7
          clear S2 F2_0 H2_0 F2_1 H2_1
          have S2 : ∀ g : Grown W6, w.heap.size + 1 + 1 < g.w.heap.size := fun g => Nat.lt_of_lt_of_le Y2 g.h.size
          have F2_0 : ∀ g : Grown W6, g.w.cell? ⟨w.heap.size + 1 + 1, 0, none⟩ = some (.int .u32 z0) := fun g => (g.cell Y2).trans ((Below.cell hL6 (p := ⟨w.heap.size + 1 + 1, 0, none⟩) s2).trans c2_0)
          have H2_0 : ∀ g : Grown W6, g.w.frozen? ⟨w.heap.size + 1 + 1, 0, none⟩ = false := fun g => (g.frozen Y2).trans ((Below.frozen hL6 (p := ⟨w.heap.size + 1 + 1, 0, none⟩) s2).trans d2_0)
          have F2_1 : ∀ g : Grown W6, g.w.cell? ⟨w.heap.size + 1 + 1, 1, none⟩ = some (.int .u32 z1) := fun g => (g.cell Y2).trans ((Below.cell hL6 (p := ⟨w.heap.size + 1 + 1, 1, none⟩) s2).trans c2_1)
          have H2_1 : ∀ g : Grown W6, g.w.frozen? ⟨w.heap.size + 1 + 1, 1, none⟩ = false := fun g => (g.frozen Y2).trans ((Below.frozen hL6 (p := ⟨w.heap.size + 1 + 1, 1, none⟩) s2).trans d2_1)
          clear Y2 s2 c2_0 d2_0 c2_1 d2_1
          have s3 := S3 g7
          have Y3 : b1x0 < W6.heap.size := Nat.lt_of_lt_of_le s3 hL6.size
          have c3_0 := F3_0 g7
          have d3_0 := H3_0 g7
          have c3_1 := F3_1 g7
          have d3_1 := H3_1 g7
          clear S3 F3_0 H3_0 F3_1 H3_1
          have S3 : ∀ g : Grown W6, b1x0 < g.w.heap.size := fun g => Nat.lt_of_lt_of_le Y3 g.h.size
          have F3_0 : ∀ g : Grown W6, g.w.cell? ⟨b1x0, 0, none⟩ = some (.int .i64 a) := fun g => (g.cell Y3).trans ((Below.cell hL6 (p := ⟨b1x0, 0, none⟩) s3).trans c3_0)
          have H3_0 : ∀ g : Grown W6, g.w.frozen? ⟨b1x0, 0, none⟩ = false := fun g => (g.frozen Y3).trans ((Below.frozen hL6 (p := ⟨b1x0, 0, none⟩) s3).trans d3_0)
          have F3_1 : ∀ g : Grown W6, g.w.cell? ⟨b1x0, 1, none⟩ = some (.int .i64 b) := fun g => (g.cell Y3).trans ((Below.cell hL6 (p := ⟨b1x0, 1, none⟩) s3).trans c3_1)
          have H3_1 : ∀ g : Grown W6, g.w.frozen? ⟨b1x0, 1, none⟩ = false := fun g => (g.frozen Y3).trans ((Below.frozen hL6 (p := ⟨b1x0, 1, none⟩) s3).trans d3_1)
          clear Y3 s3 c3_0 d3_0 c3_1 d3_1
          have s4 := S4 g7
          have Y4 : b1x1 < W6.heap.size := Nat.lt_of_lt_of_le s4 hL6.size
          have c4_0 := F4_0 g7
          have d4_0 := H4_0 g7
          have c4_1 := F4_1 g7
          have d4_1 := H4_1 g7
          clear S4 F4_0 H4_0 F4_1 H4_1
          have S4 : ∀ g : Grown W6, b1x1 < g.w.heap.size := fun g => Nat.lt_of_lt_of_le Y4 g.h.size
          have F4_0 : ∀ g : Grown W6, g.w.cell? ⟨b1x1, 0, none⟩ = some (.int .i64 c) := fun g => (g.cell Y4).trans ((Below.cell hL6 (p := ⟨b1x1, 0, none⟩) s4).trans c4_0)
          have H4_0 : ∀ g : Grown W6, g.w.frozen? ⟨b1x1, 0, none⟩ = false := fun g => (g.frozen Y4).trans ((Below.frozen hL6 (p := ⟨b1x1, 0, none⟩) s4).trans d4_0)
          have F4_1 : ∀ g : Grown W6, g.w.cell? ⟨b1x1, 1, none⟩ = some (.int .i64 d) := fun g => (g.cell Y4).trans ((Below.cell hL6 (p := ⟨b1x1, 1, none⟩) s4).trans c4_1)
          have H4_1 : ∀ g : Grown W6, g.w.frozen? ⟨b1x1, 1, none⟩ = false := fun g => (g.frozen Y4).trans ((Below.frozen hL6 (p := ⟨b1x1, 1, none⟩) s4).trans d4_1)
          clear Y4 s4 c4_0 d4_0 c4_1 d4_1
          have s5 := S5 g7
          have Y5 : b2x0 < W6.heap.size := Nat.lt_of_lt_of_le s5 hL6.size
          have c5_0 := F5_0 g7
          have d5_0 := H5_0 g7
          have c5_1 := F5_1 g7
          have d5_1 := H5_1 g7
          clear S5 F5_0 H5_0 F5_1 H5_1
          have S5 : ∀ g : Grown W6, b2x0 < g.w.heap.size := fun g => Nat.lt_of_lt_of_le Y5 g.h.size
          have F5_0 : ∀ g : Grown W6, g.w.cell? ⟨b2x0, 0, none⟩ = some (.int .i64 i) := fun g => (g.cell Y5).trans ((Below.cell hL6 (p := ⟨b2x0, 0, none⟩) s5).trans c5_0)
          have H5_0 : ∀ g : Grown W6, g.w.frozen? ⟨b2x0, 0, none⟩ = false := fun g => (g.frozen Y5).trans ((Below.frozen hL6 (p := ⟨b2x0, 0, none⟩) s5).trans d5_0)
          have F5_1 : ∀ g : Grown W6, g.w.cell? ⟨b2x0, 1, none⟩ = some (.int .i64 j) := fun g => (g.cell Y5).trans ((Below.cell hL6 (p := ⟨b2x0, 1, none⟩) s5).trans c5_1)
          have H5_1 : ∀ g : Grown W6, g.w.frozen? ⟨b2x0, 1, none⟩ = false := fun g => (g.frozen Y5).trans ((Below.frozen hL6 (p := ⟨b2x0, 1, none⟩) s5).trans d5_1)
          clear Y5 s5 c5_0 d5_0 c5_1 d5_1
          have s6 := S6 g7
          have Y6 : b2x1 < W6.heap.size := Nat.lt_of_lt_of_le s6 hL6.size
          have c6_0 := F6_0 g7
          have d6_0 := H6_0 g7
          have c6_1 := F6_1 g7
          have d6_1 := H6_1 g7
          clear S6 F6_0 H6_0 F6_1 H6_1
          have S6 : ∀ g : Grown W6, b2x1 < g.w.heap.size := fun g => Nat.lt_of_lt_of_le Y6 g.h.size
          have F6_0 : ∀ g : Grown W6, g.w.cell? ⟨b2x1, 0, none⟩ = some (.int .i64 k) := fun g => (g.cell Y6).trans ((Below.cell hL6 (p := ⟨b2x1, 0, none⟩) s6).trans c6_0)
          have H6_0 : ∀ g : Grown W6, g.w.frozen? ⟨b2x1, 0, none⟩ = false := fun g => (g.frozen Y6).trans ((Below.frozen hL6 (p := ⟨b2x1, 0, none⟩) s6).trans d6_0)
          have F6_1 : ∀ g : Grown W6, g.w.cell? ⟨b2x1, 1, none⟩ = some (.int .i64 l) := fun g => (g.cell Y6).trans ((Below.cell hL6 (p := ⟨b2x1, 1, none⟩) s6).trans c6_1)
          have H6_1 : ∀ g : Grown W6, g.w.frozen? ⟨b2x1, 1, none⟩ = false := fun g => (g.frozen Y6).trans ((Below.frozen hL6 (p := ⟨b2x1, 1, none⟩) s6).trans d6_1)
          clear Y6 s6 c6_0 d6_0 c6_1 d6_1
          have s7 := S7 g7
          have Y7 : nb3 < W6.heap.size := Nat.lt_of_lt_of_le s7 hL6.size
          have c7_0 := F7_0 g7
          have d7_0 := H7_0 g7
          have c7_1 := F7_1 g7
          have d7_1 := H7_1 g7
          clear S7 F7_0 H7_0 F7_1 H7_1
          have S7 : ∀ g : Grown W6, nb3 < g.w.heap.size := fun g => Nat.lt_of_lt_of_le Y7 g.h.size
          have F7_0 : ∀ g : Grown W6, g.w.cell? ⟨nb3, 0, none⟩ = some (.int .i64 p1) := fun g => (g.cell Y7).trans ((Below.cell hL6 (p := ⟨nb3, 0, none⟩) s7).trans c7_0)
          have H7_0 : ∀ g : Grown W6, g.w.frozen? ⟨nb3, 0, none⟩ = false := fun g => (g.frozen Y7).trans ((Below.frozen hL6 (p := ⟨nb3, 0, none⟩) s7).trans d7_0)
          have F7_1 : ∀ g : Grown W6, g.w.cell? ⟨nb3, 1, none⟩ = some (.int .i64 p2) := fun g => (g.cell Y7).trans ((Below.cell hL6 (p := ⟨nb3, 1, none⟩) s7).trans c7_1)
          have H7_1 : ∀ g : Grown W6, g.w.frozen? ⟨nb3, 1, none⟩ = false := fun g => (g.frozen Y7).trans ((Below.frozen hL6 (p := ⟨nb3, 1, none⟩) s7).trans d7_1)
          clear Y7 s7 c7_0 d7_0 c7_1 d7_1
          have s8 := S8 g7
          have Y8 : nb4 < W6.heap.size := Nat.lt_of_lt_of_le s8 hL6.size
          have c8_0 := F8_0 g7
          have d8_0 := H8_0 g7
          have c8_1 := F8_1 g7
          have d8_1 := H8_1 g7
          clear S8 F8_0 H8_0 F8_1 H8_1
          have S8 : ∀ g : Grown W6, nb4 < g.w.heap.size := fun g => Nat.lt_of_lt_of_le Y8 g.h.size
          have F8_0 : ∀ g : Grown W6, g.w.cell? ⟨nb4, 0, none⟩ = some (.int .i64 q1) := fun g => (g.cell Y8).trans ((Below.cell hL6 (p := ⟨nb4, 0, none⟩) s8).trans c8_0)
          have H8_0 : ∀ g : Grown W6, g.w.frozen? ⟨nb4, 0, none⟩ = false := fun g => (g.frozen Y8).trans ((Below.frozen hL6 (p := ⟨nb4, 0, none⟩) s8).trans d8_0)
          have F8_1 : ∀ g : Grown W6, g.w.cell? ⟨nb4, 1, none⟩ = some (.int .i64 q2) := fun g => (g.cell Y8).trans ((Below.cell hL6 (p := ⟨nb4, 1, none⟩) s8).trans c8_1)
          have H8_1 : ∀ g : Grown W6, g.w.frozen? ⟨nb4, 1, none⟩ = false := fun g => (g.frozen Y8).trans ((Below.frozen hL6 (p := ⟨nb4, 1, none⟩) s8).trans d8_1)
          clear Y8 s8 c8_0 d8_0 c8_1 d8_1
          have s9 := S9 g7
          have Y9 : nb5 < W6.heap.size := Nat.lt_of_lt_of_le s9 hL6.size
          have c9_0 := F9_0 g7
          have d9_0 := H9_0 g7
          have c9_1 := F9_1 g7
          have d9_1 := H9_1 g7
          clear S9 F9_0 H9_0 F9_1 H9_1
          have S9 : ∀ g : Grown W6, nb5 < g.w.heap.size := fun g => Nat.lt_of_lt_of_le Y9 g.h.size
          have F9_0 : ∀ g : Grown W6, g.w.cell? ⟨nb5, 0, none⟩ = some (.int .i64 s1) := fun g => (g.cell Y9).trans ((Below.cell hL6 (p := ⟨nb5, 0, none⟩) s9).trans c9_0)
          have H9_0 : ∀ g : Grown W6, g.w.frozen? ⟨nb5, 0, none⟩ = false := fun g => (g.frozen Y9).trans ((Below.frozen hL6 (p := ⟨nb5, 0, none⟩) s9).trans d9_0)
          have F9_1 : ∀ g : Grown W6, g.w.cell? ⟨nb5, 1, none⟩ = some (.int .i64 s2) := fun g => (g.cell Y9).trans ((Below.cell hL6 (p := ⟨nb5, 1, none⟩) s9).trans c9_1)
          have H9_1 : ∀ g : Grown W6, g.w.frozen? ⟨nb5, 1, none⟩ = false := fun g => (g.frozen Y9).trans ((Below.frozen hL6 (p := ⟨nb5, 1, none⟩) s9).trans d9_1)
          clear Y9 s9 c9_0 d9_0 c9_1 d9_1
          have Y10 : nb6 < W6.heap.size := by subst hW6; subst hnb6; simp <;> omega
          have S10 : ∀ g : Grown W6, nb6 < g.w.heap.size := fun g => Nat.lt_of_lt_of_le Y10 g.h.size
          have F10_0 : ∀ g : Grown W6, g.w.cell? ⟨nb6, 0, none⟩ = some (.int .i64 t1) := fun g => (g.cell Y10).trans (by subst hW6; subst hnb6; simp [go_sem])
          have H10_0 : ∀ g : Grown W6, g.w.frozen? ⟨nb6, 0, none⟩ = false := fun g => (g.frozen Y10).trans (by subst hW6; subst hnb6; simp [go_sem])
          have F10_1 : ∀ g : Grown W6, g.w.cell? ⟨nb6, 1, none⟩ = some (.int .i64 t2) := fun g => (g.cell Y10).trans (by subst hW6; subst hnb6; simp [go_sem])
          have H10_1 : ∀ g : Grown W6, g.w.frozen? ⟨nb6, 1, none⟩ = false := fun g => (g.frozen Y10).trans (by subst hW6; subst hnb6; simp [go_sem])
          clear Y10
          rw [← hnb6]
          clear hnb6 hW6 hT5 hL6
          obtain ⟨h6, hg6⟩ : ∃ g : Grown W6, W6 = g.w := ⟨⟨W6, Below.refl _ _⟩, rfl⟩
          rw [hg6]
          clear hg6 g7
          refine ((hqc_.out (by trivial)) _).mono ?_
          rintro e8 w8 ⟨rfl, hB8⟩
          obtain ⟨g8, rfl⟩ := grow h6 hB8
          clear hB8
          go_wp2_with (fail)
          refine ((hmc.out (by trivial)) _).mono ?_
          rintro e9 w9 ⟨rfl, hB9⟩
          obtain ⟨g9, rfl⟩ := grow g8 hB9
          clear hB9
          go_wp2_with (fail)
          have hB : Below w.heap.size w g9.w := below_then hT6 g9.h
          go_ret
          refine ⟨rfl, ?_⟩
          go_grown
end Go.Proofs.Ytgkhkclpgkohbaa
