/-
  The law of the reference: its walk.
-/
import Derived.Test.YtdnndmpdlelliaaSanity
import Derived.Test.YtdnndmpdlelliaaR1
import Derived.Test.YtdnndmpdlelliaaHead
import Derived.Deep.DrawnRows
namespace Go.Proofs.Ytdnndmpdlelliaa
open Go.ChangeShapes Go.WideShapes Go.ChangeAt Go.RowKit
set_option linter.unusedVariables false
set_option linter.unusedSimpArgs false
set_option maxRecDepth 100000

open Go.BigFrame
attribute [local irreducible] Calls
set_option maxRecDepth 100000 in
set_option maxHeartbeats 8000000 in
theorem mat_walk (x0 x1 x2 x3 x4 x5 y a b c d n m r1 r2 k1 k2 mr1 mr2 hu1 hu2 mii wii mai sii po1 po2 ne1 ne2 ad1 ad2 sb1 sb2 ng1 ng2 mu1 mu2 qu1 qu2 dv1 dv2 : Int) (vav cov is met suv iev : Bool) (w : World) (hd1 : -2147483648 ≤ d) (hd2 : d ≤ 2147483648) (m1 : ∀ w, Calls Try.prog 19 #[.agg #[.int .i64 x0, .int .i64 x1]] w fun e w' => e = .returned (.agg #[.int .i64 a, .int .i64 b]) ∧ Below w.heap.size w w') (m2 : ∀ w, Calls Try.prog 19 #[.agg #[.int .i64 x2, .int .i64 x3]] w fun e w' => e = .returned (.agg #[.int .i64 c, .int .i64 d]) ∧ Below w.heap.size w w') (ra : ∀ w, Calls Try.prog 20 #[.agg #[.int .i64 x0, .int .i64 x1, .int .i64 x2, .int .i64 x3, .int .i32 x4, .int .u16 x5]] w fun e w' => e = .returned (.tuple #[.int .i64 n, .int .i64 m]) ∧ Below w.heap.size w w') (vaa : ∀ w, Calls Try.prog 15 #[.agg #[.int .i64 x0, .int .i64 x1]] w fun e w' => e = .returned (.bool vav) ∧ Below w.heap.size w w') (vab : ∀ w, Calls Try.prog 16 #[.agg #[.int .i64 x0, .int .i64 x1]] w fun e w' => e = .returned (.bool vav) ∧ Below w.heap.size w w') (coa : ∀ w, Calls Try.prog 17 #[.agg #[.int .i64 x0, .int .i64 x1], .int .i64 y] w fun e w' => e = .returned (.bool cov) ∧ Below w.heap.size w w') (cob : ∀ w, Calls Try.prog 18 #[.agg #[.int .i64 x0, .int .i64 x1], .int .i64 y] w fun e w' => e = .returned (.bool cov) ∧ Below w.heap.size w w') (sqa : ∀ w, Calls Try.prog 21 #[.agg #[.int .i64 a, .int .i64 b]] w fun e w' => e = .returned (.tuple #[.agg #[.int .i64 r1, .int .i64 r2], .bool is]) ∧ Below w.heap.size w w') (sqb : ∀ w, Calls Try.prog 22 #[.agg #[.int .i64 a, .int .i64 b]] w fun e w' => e = .returned (.tuple #[.agg #[.int .i64 r1, .int .i64 r2], .bool is]) ∧ Below w.heap.size w w') (mea : ∀ w, Calls Try.prog 23 #[.agg #[.int .i64 a, .int .i64 b], .agg #[.int .i64 c, .int .i64 d]] w fun e w' => e = .returned (.tuple #[.agg #[.int .i64 k1, .int .i64 k2], .bool met]) ∧ Below w.heap.size w w') (meb : ∀ w, Calls Try.prog 24 #[.agg #[.int .i64 a, .int .i64 b], .agg #[.int .i64 c, .int .i64 d]] w fun e w' => e = .returned (.tuple #[.agg #[.int .i64 k1, .int .i64 k2], .bool met]) ∧ Below w.heap.size w w') (mra : ∀ w, Calls Try.prog 26 #[.agg #[.int .i64 a, .int .i64 b], .int .i64 n, .int .i64 m] w fun e w' => e = .returned (.agg #[.int .i64 mr1, .int .i64 mr2]) ∧ Below w.heap.size w w') (mrb : ∀ w, Calls Try.prog 27 #[.agg #[.int .i64 a, .int .i64 b], .int .i64 n, .int .i64 m] w fun e w' => e = .returned (.agg #[.int .i64 mr1, .int .i64 mr2]) ∧ Below w.heap.size w w') (hua : ∀ w, Calls Try.prog 28 #[.agg #[.int .i64 a, .int .i64 b], .agg #[.int .i64 c, .int .i64 d]] w fun e w' => e = .returned (.agg #[.int .i64 hu1, .int .i64 hu2]) ∧ Below w.heap.size w w') (hub : ∀ w, Calls Try.prog 29 #[.agg #[.int .i64 a, .int .i64 b], .agg #[.int .i64 c, .int .i64 d]] w fun e w' => e = .returned (.agg #[.int .i64 hu1, .int .i64 hu2]) ∧ Below w.heap.size w w') (sua : ∀ w, Calls Try.prog 30 #[.agg #[.int .i64 a, .int .i64 b], .agg #[.int .i64 c, .int .i64 d]] w fun e w' => e = .returned (.bool suv) ∧ Below w.heap.size w w') (sub : ∀ w, Calls Try.prog 31 #[.agg #[.int .i64 a, .int .i64 b], .agg #[.int .i64 c, .int .i64 d]] w fun e w' => e = .returned (.bool suv) ∧ Below w.heap.size w w') (mia : ∀ w, Calls Try.prog 32 #[.agg #[.int .i64 a, .int .i64 b]] w fun e w' => e = .returned (.int .i64 mii) ∧ Below w.heap.size w w') (mib : ∀ w, Calls Try.prog 33 #[.agg #[.int .i64 a, .int .i64 b]] w fun e w' => e = .returned (.int .i64 mii) ∧ Below w.heap.size w w') (wia : ∀ w, Calls Try.prog 34 #[.agg #[.int .i64 a, .int .i64 b]] w fun e w' => e = .returned (.int .i64 wii) ∧ Below w.heap.size w w') (wib : ∀ w, Calls Try.prog 35 #[.agg #[.int .i64 a, .int .i64 b]] w fun e w' => e = .returned (.int .i64 wii) ∧ Below w.heap.size w w') (maa : ∀ w, Calls Try.prog 36 #[.agg #[.int .i64 a, .int .i64 b]] w fun e w' => e = .returned (.int .i64 mai) ∧ Below w.heap.size w w') (mab : ∀ w, Calls Try.prog 37 #[.agg #[.int .i64 a, .int .i64 b]] w fun e w' => e = .returned (.int .i64 mai) ∧ Below w.heap.size w w') (sia : ∀ w, Calls Try.prog 38 #[.agg #[.int .i64 a, .int .i64 b]] w fun e w' => e = .returned (.int .i64 sii) ∧ Below w.heap.size w w') (sib : ∀ w, Calls Try.prog 39 #[.agg #[.int .i64 a, .int .i64 b]] w fun e w' => e = .returned (.int .i64 sii) ∧ Below w.heap.size w w') (iea : ∀ w, Calls Try.prog 40 #[.agg #[.int .i64 a, .int .i64 b]] w fun e w' => e = .returned (.bool iev) ∧ Below w.heap.size w w') (ieb : ∀ w, Calls Try.prog 41 #[.agg #[.int .i64 a, .int .i64 b]] w fun e w' => e = .returned (.bool iev) ∧ Below w.heap.size w w') (ena : ∀ w, Calls Try.prog 42 #[] w fun e w' => e = .returned (.agg #[.int .i64 (-2147483648), .int .i64 2147483648]) ∧ Below w.heap.size w w') (enb : ∀ w, Calls Try.prog 43 #[] w fun e w' => e = .returned (.agg #[.int .i64 (-2147483648), .int .i64 2147483648]) ∧ Below w.heap.size w w') (poa : ∀ w, Calls Try.prog 44 #[.int .i64 a] w fun e w' => e = .returned (.agg #[.int .i64 po1, .int .i64 po2]) ∧ Below w.heap.size w w') (pob : ∀ w, Calls Try.prog 45 #[.int .i64 a] w fun e w' => e = .returned (.agg #[.int .i64 po1, .int .i64 po2]) ∧ Below w.heap.size w w') (nea : ∀ w, Calls Try.prog 46 #[.int .i64 a, .int .i64 (d + 4294967296)] w fun e w' => e = .returned (.agg #[.int .i64 ne1, .int .i64 ne2]) ∧ Below w.heap.size w w') (neb : ∀ w, Calls Try.prog 47 #[.int .i64 a, .int .i64 (d + 4294967296)] w fun e w' => e = .returned (.agg #[.int .i64 ne1, .int .i64 ne2]) ∧ Below w.heap.size w w') (ada : ∀ w, Calls Try.prog 48 #[.agg #[.int .i64 a, .int .i64 b], .agg #[.int .i64 c, .int .i64 d]] w fun e w' => e = .returned (.agg #[.int .i64 ad1, .int .i64 ad2]) ∧ Below w.heap.size w w') (adb : ∀ w, Calls Try.prog 49 #[.agg #[.int .i64 a, .int .i64 b], .agg #[.int .i64 c, .int .i64 d]] w fun e w' => e = .returned (.agg #[.int .i64 ad1, .int .i64 ad2]) ∧ Below w.heap.size w w') (sba : ∀ w, Calls Try.prog 50 #[.agg #[.int .i64 a, .int .i64 b], .agg #[.int .i64 c, .int .i64 d]] w fun e w' => e = .returned (.agg #[.int .i64 sb1, .int .i64 sb2]) ∧ Below w.heap.size w w') (sbb : ∀ w, Calls Try.prog 51 #[.agg #[.int .i64 a, .int .i64 b], .agg #[.int .i64 c, .int .i64 d]] w fun e w' => e = .returned (.agg #[.int .i64 sb1, .int .i64 sb2]) ∧ Below w.heap.size w w') (nga : ∀ w, Calls Try.prog 52 #[.agg #[.int .i64 a, .int .i64 b]] w fun e w' => e = .returned (.agg #[.int .i64 ng1, .int .i64 ng2]) ∧ Below w.heap.size w w') (ngb : ∀ w, Calls Try.prog 53 #[.agg #[.int .i64 a, .int .i64 b]] w fun e w' => e = .returned (.agg #[.int .i64 ng1, .int .i64 ng2]) ∧ Below w.heap.size w w') (mua : ∀ w, Calls Try.prog 54 #[.agg #[.int .i64 a, .int .i64 b], .agg #[.int .i64 c, .int .i64 d]] w fun e w' => e = .returned (.agg #[.int .i64 mu1, .int .i64 mu2]) ∧ Below w.heap.size w w') (mub : ∀ w, Calls Try.prog 55 #[.agg #[.int .i64 a, .int .i64 b], .agg #[.int .i64 c, .int .i64 d]] w fun e w' => e = .returned (.agg #[.int .i64 mu1, .int .i64 mu2]) ∧ Below w.heap.size w w') (qua : ∀ w, Calls Try.prog 56 #[.agg #[.int .i64 a, .int .i64 b]] w fun e w' => e = .returned (.agg #[.int .i64 qu1, .int .i64 qu2]) ∧ Below w.heap.size w w') (qub : ∀ w, Calls Try.prog 57 #[.agg #[.int .i64 a, .int .i64 b]] w fun e w' => e = .returned (.agg #[.int .i64 qu1, .int .i64 qu2]) ∧ Below w.heap.size w w') (dva : ∀ w, Calls Try.prog 58 #[.agg #[.int .i64 a, .int .i64 b], .agg #[.int .i64 c, .int .i64 d]] w fun e w' => e = .returned (.agg #[.int .i64 dv1, .int .i64 dv2]) ∧ Below w.heap.size w w') (dvb : ∀ w, Calls Try.prog 59 #[.agg #[.int .i64 a, .int .i64 b], .agg #[.int .i64 c, .int .i64 d]] w fun e w' => e = .returned (.agg #[.int .i64 dv1, .int .i64 dv2]) ∧ Below w.heap.size w w') :
    Calls Try.prog 3 #[.agg #[.int .i64 x0, .int .i64 x1, .int .i64 x2, .int .i64 x3, .int .i32 x4, .int .u16 x5], .int .i64 y] w fun e w' => e = .returned (.bool true) ∧ Below w.heap.size w w' := by
  have hm1 := Lib.hid m1
  clear m1
  have hm2 := Lib.hid m2
  clear m2
  have hra := Lib.hid ra
  clear ra
  have hvaa := Lib.hid vaa
  clear vaa
  have hvab := Lib.hid vab
  clear vab
  have hcoa := Lib.hid coa
  clear coa
  have hcob := Lib.hid cob
  clear cob
  have hsqa := Lib.hid sqa
  clear sqa
  have hsqb := Lib.hid sqb
  clear sqb
  have hmea := Lib.hid mea
  clear mea
  have hmeb := Lib.hid meb
  clear meb
  have hmra := Lib.hid mra
  clear mra
  have hmrb := Lib.hid mrb
  clear mrb
  have hhua := Lib.hid hua
  clear hua
  have hhub := Lib.hid hub
  clear hub
  have hsua := Lib.hid sua
  clear sua
  have hsub := Lib.hid sub
  clear sub
  have hmia := Lib.hid mia
  clear mia
  have hmib := Lib.hid mib
  clear mib
  have hwia := Lib.hid wia
  clear wia
  have hwib := Lib.hid wib
  clear wib
  have hmaa := Lib.hid maa
  clear maa
  have hmab := Lib.hid mab
  clear mab
  have hsia := Lib.hid sia
  clear sia
  have hsib := Lib.hid sib
  clear sib
  have hiea := Lib.hid iea
  clear iea
  have hieb := Lib.hid ieb
  clear ieb
  have hena := Lib.hid ena
  clear ena
  have henb := Lib.hid enb
  clear enb
  have hpoa := Lib.hid poa
  clear poa
  have hpob := Lib.hid pob
  clear pob
  have hnea := Lib.hid nea
  clear nea
  have hneb := Lib.hid neb
  clear neb
  have hada := Lib.hid ada
  clear ada
  have hadb := Lib.hid adb
  clear adb
  have hsba := Lib.hid sba
  clear sba
  have hsbb := Lib.hid sbb
  clear sbb
  have hnga := Lib.hid nga
  clear nga
  have hngb := Lib.hid ngb
  clear ngb
  have hmua := Lib.hid mua
  clear mua
  have hmub := Lib.hid mub
  clear mub
  have hqua := Lib.hid qua
  clear qua
  have hqub := Lib.hid qub
  clear qub
  have hdva := Lib.hid dva
  clear dva
  have hdvb := Lib.hid dvb
  clear dvb
  go_enter Try.func3, Try.ntmps3
  go_wp2_with (fail)
  generalize hW0 : World.alloc w _ = W0
  have hT0 : Below w.heap.size w W0 := by subst hW0; exact ((Below.refl w.heap.size w).alloc (by go_size) _)
  have Y0 : w.heap.size < W0.heap.size := by subst hW0; simp <;> omega
  have S0 : ∀ g : Grown W0, w.heap.size < g.w.heap.size := fun g => Nat.lt_of_lt_of_le Y0 g.h.size
  have F0_0 : ∀ g : Grown W0, g.w.cell? ⟨w.heap.size, 0, none⟩ = some (.int .i64 x0) := fun g => (g.cell Y0).trans (by subst hW0; simp [go_sem])
  have H0_0 : ∀ g : Grown W0, g.w.frozen? ⟨w.heap.size, 0, none⟩ = false := fun g => (g.frozen Y0).trans (by subst hW0; simp [go_sem])
  have F0_1 : ∀ g : Grown W0, g.w.cell? ⟨w.heap.size, 1, none⟩ = some (.int .i64 x1) := fun g => (g.cell Y0).trans (by subst hW0; simp [go_sem])
  have H0_1 : ∀ g : Grown W0, g.w.frozen? ⟨w.heap.size, 1, none⟩ = false := fun g => (g.frozen Y0).trans (by subst hW0; simp [go_sem])
  have F0_2 : ∀ g : Grown W0, g.w.cell? ⟨w.heap.size, 2, none⟩ = some (.int .i64 x2) := fun g => (g.cell Y0).trans (by subst hW0; simp [go_sem])
  have H0_2 : ∀ g : Grown W0, g.w.frozen? ⟨w.heap.size, 2, none⟩ = false := fun g => (g.frozen Y0).trans (by subst hW0; simp [go_sem])
  have F0_3 : ∀ g : Grown W0, g.w.cell? ⟨w.heap.size, 3, none⟩ = some (.int .i64 x3) := fun g => (g.cell Y0).trans (by subst hW0; simp [go_sem])
  have H0_3 : ∀ g : Grown W0, g.w.frozen? ⟨w.heap.size, 3, none⟩ = false := fun g => (g.frozen Y0).trans (by subst hW0; simp [go_sem])
  have F0_4 : ∀ g : Grown W0, g.w.cell? ⟨w.heap.size, 4, none⟩ = some (.int .i32 x4) := fun g => (g.cell Y0).trans (by subst hW0; simp [go_sem])
  have H0_4 : ∀ g : Grown W0, g.w.frozen? ⟨w.heap.size, 4, none⟩ = false := fun g => (g.frozen Y0).trans (by subst hW0; simp [go_sem])
  have F0_5 : ∀ g : Grown W0, g.w.cell? ⟨w.heap.size, 5, none⟩ = some (.int .u16 x5) := fun g => (g.cell Y0).trans (by subst hW0; simp [go_sem])
  have H0_5 : ∀ g : Grown W0, g.w.frozen? ⟨w.heap.size, 5, none⟩ = false := fun g => (g.frozen Y0).trans (by subst hW0; simp [go_sem])
  clear Y0
  clear hW0
  obtain ⟨g0, hg0⟩ : ∃ g : Grown W0, W0 = g.w := ⟨⟨W0, Below.refl _ _⟩, rfl⟩
  rw [hg0]
  clear hg0
  refine (sanity2 _).mono ?_
  rintro e1 w1 ⟨rfl, hB1⟩
  obtain ⟨g1, rfl⟩ := grow g0 hB1
  clear hB1
  go_wp2_with (fail)
  refine region_quiet' g1 (by kernel_rfl) (by kernel_rfl) ?_
  repeat (go_big_quiet_step (first | (go_at_call 25; exact qc (same_yes _ _ _)) | exact qc (hvaa.out _) | exact qc (hvab.out _) | exact qc (hcoa.out _) | exact qc (hcob.out _)))
  refine wpQuiet_nil ?_
  rintro _ ⟨g2, rfl⟩
  go_wp2_with (fail)
  refine region_data 8 23 _ (by kernel_rfl) new_iv (by kernel_rfl) ?_
  refine data_op (.pointer (some ⟨w.heap.size, 0, none⟩)) rfl (RQ_pure (fun w => by simp [go_sem])) ?_
  simp only [Act.put, List.setIfInBounds_toArray, List.set_cons_succ, List.set_cons_zero]
  refine data_op _ rfl (RQ_load rfl rfl (load_iv_at (S0 _) (F0_0 _) (F0_1 _))) ?_
  simp only [Act.put, List.setIfInBounds_toArray, List.set_cons_succ, List.set_cons_zero]
  refine data_op _ rfl (RQ_call hm1.out (fun _ => by simp [go_sem])) ?_
  simp only [Act.put, List.setIfInBounds_toArray, List.set_cons_succ, List.set_cons_zero]
  refine data_op (.pointer (some ⟨w.heap.size, 2, none⟩)) rfl (RQ_pure (fun w => by simp [go_sem])) ?_
  simp only [Act.put, List.setIfInBounds_toArray, List.set_cons_succ, List.set_cons_zero]
  refine data_op _ rfl (RQ_load rfl rfl (load_iv_at (S0 _) (F0_2 _) (F0_3 _))) ?_
  simp only [Act.put, List.setIfInBounds_toArray, List.set_cons_succ, List.set_cons_zero]
  refine data_op _ rfl (RQ_call hm2.out (fun _ => by simp [go_sem])) ?_
  simp only [Act.put, List.setIfInBounds_toArray, List.set_cons_succ, List.set_cons_zero]
  refine data_al rfl ?_
  simp only [Act.put, List.setIfInBounds_toArray, List.set_cons_succ, List.set_cons_zero]
  refine data_al rfl ?_
  simp only [Act.put, List.setIfInBounds_toArray, List.set_cons_succ, List.set_cons_zero]
  refine data_end ?_
  intro wh hBh
  simp only [Act.put, List.drop_succ_cons, List.drop_zero, List.take_succ_cons, List.take_zero, alDsts, List.filterMap_cons, List.filterMap_nil, isAl, Bool.false_eq_true, if_false, if_true, finK]
  intro b1x0 p0 q0 r0 o0
  intro b1x1 p1 q1 r1 o1
  obtain ⟨u00, u01, v00, v01⟩ := new_cell o0
  obtain ⟨u10, u11, v10, v11⟩ := new_cell o1
  have n01 : b1x0 ≠ b1x1 := r1 b1x0 (by simp)
  clear r0 o0 r1 o1
  simp only [List.setIfInBounds_toArray, List.set_cons_succ, List.set_cons_zero]
  refine list_store rfl rfl rfl rfl rfl (by exact u00) (by exact u01) (by exact v00) (by exact v01) ?_
  refine list_store rfl rfl rfl rfl rfl (by rw [st2_old (Ne.symm n01)]; exact u10) (by rw [st2_old (Ne.symm n01)]; exact u11) (by simp only [st2_frozen]; exact v10) (by simp only [st2_frozen]; exact v11) ?_
  refine wpList_nil ?_
  generalize e1 : (st2 (st2 wh b1x0 (.int .i64 a) (.int .i64 b)) b1x1 (.int .i64 c) (.int .i64 d)) = W1
  have hL1 : Below g2.w.heap.size g2.w W1 := by rw [← e1]; exact (st2_below (st2_below hBh p0) p1)
  have hT1 : Below w.heap.size w W1 := below_then (below_then hT0 g2.h) hL1
  have s0 := S0 g2
  have Y0 : w.heap.size < W1.heap.size := Nat.lt_of_lt_of_le s0 hL1.size
  have c0_0 := F0_0 g2
  have d0_0 := H0_0 g2
  have c0_1 := F0_1 g2
  have d0_1 := H0_1 g2
  have c0_2 := F0_2 g2
  have d0_2 := H0_2 g2
  have c0_3 := F0_3 g2
  have d0_3 := H0_3 g2
  have c0_4 := F0_4 g2
  have d0_4 := H0_4 g2
  have c0_5 := F0_5 g2
  have d0_5 := H0_5 g2
  clear S0 F0_0 H0_0 F0_1 H0_1 F0_2 H0_2 F0_3 H0_3 F0_4 H0_4 F0_5 H0_5
  have S0 : ∀ g : Grown W1, w.heap.size < g.w.heap.size := fun g => Nat.lt_of_lt_of_le Y0 g.h.size
  have F0_0 : ∀ g : Grown W1, g.w.cell? ⟨w.heap.size, 0, none⟩ = some (.int .i64 x0) := fun g => (g.cell Y0).trans ((Below.cell hL1 (p := ⟨w.heap.size, 0, none⟩) s0).trans c0_0)
  have H0_0 : ∀ g : Grown W1, g.w.frozen? ⟨w.heap.size, 0, none⟩ = false := fun g => (g.frozen Y0).trans ((Below.frozen hL1 (p := ⟨w.heap.size, 0, none⟩) s0).trans d0_0)
  have F0_1 : ∀ g : Grown W1, g.w.cell? ⟨w.heap.size, 1, none⟩ = some (.int .i64 x1) := fun g => (g.cell Y0).trans ((Below.cell hL1 (p := ⟨w.heap.size, 1, none⟩) s0).trans c0_1)
  have H0_1 : ∀ g : Grown W1, g.w.frozen? ⟨w.heap.size, 1, none⟩ = false := fun g => (g.frozen Y0).trans ((Below.frozen hL1 (p := ⟨w.heap.size, 1, none⟩) s0).trans d0_1)
  have F0_2 : ∀ g : Grown W1, g.w.cell? ⟨w.heap.size, 2, none⟩ = some (.int .i64 x2) := fun g => (g.cell Y0).trans ((Below.cell hL1 (p := ⟨w.heap.size, 2, none⟩) s0).trans c0_2)
  have H0_2 : ∀ g : Grown W1, g.w.frozen? ⟨w.heap.size, 2, none⟩ = false := fun g => (g.frozen Y0).trans ((Below.frozen hL1 (p := ⟨w.heap.size, 2, none⟩) s0).trans d0_2)
  have F0_3 : ∀ g : Grown W1, g.w.cell? ⟨w.heap.size, 3, none⟩ = some (.int .i64 x3) := fun g => (g.cell Y0).trans ((Below.cell hL1 (p := ⟨w.heap.size, 3, none⟩) s0).trans c0_3)
  have H0_3 : ∀ g : Grown W1, g.w.frozen? ⟨w.heap.size, 3, none⟩ = false := fun g => (g.frozen Y0).trans ((Below.frozen hL1 (p := ⟨w.heap.size, 3, none⟩) s0).trans d0_3)
  have F0_4 : ∀ g : Grown W1, g.w.cell? ⟨w.heap.size, 4, none⟩ = some (.int .i32 x4) := fun g => (g.cell Y0).trans ((Below.cell hL1 (p := ⟨w.heap.size, 4, none⟩) s0).trans c0_4)
  have H0_4 : ∀ g : Grown W1, g.w.frozen? ⟨w.heap.size, 4, none⟩ = false := fun g => (g.frozen Y0).trans ((Below.frozen hL1 (p := ⟨w.heap.size, 4, none⟩) s0).trans d0_4)
  have F0_5 : ∀ g : Grown W1, g.w.cell? ⟨w.heap.size, 5, none⟩ = some (.int .u16 x5) := fun g => (g.cell Y0).trans ((Below.cell hL1 (p := ⟨w.heap.size, 5, none⟩) s0).trans c0_5)
  have H0_5 : ∀ g : Grown W1, g.w.frozen? ⟨w.heap.size, 5, none⟩ = false := fun g => (g.frozen Y0).trans ((Below.frozen hL1 (p := ⟨w.heap.size, 5, none⟩) s0).trans d0_5)
  clear Y0 s0 c0_0 d0_0 c0_1 d0_1 c0_2 d0_2 c0_3 d0_3 c0_4 d0_4 c0_5 d0_5
  have Y1 : b1x0 < W1.heap.size := by rw [← e1]; simp only [st2_size]; exact q0
  have S1 : ∀ g : Grown W1, b1x0 < g.w.heap.size := fun g => Nat.lt_of_lt_of_le Y1 g.h.size
  have F1_0 : ∀ g : Grown W1, g.w.cell? ⟨b1x0, 0, none⟩ = some (.int .i64 a) := fun g => (g.cell Y1).trans (by rw [← e1]; rw [st2_old n01]; exact st2_0 (u := .int .i64 0) (by exact u00))
  have H1_0 : ∀ g : Grown W1, g.w.frozen? ⟨b1x0, 0, none⟩ = false := fun g => (g.frozen Y1).trans (by rw [← e1]; simp only [st2_frozen]; exact v00)
  have F1_1 : ∀ g : Grown W1, g.w.cell? ⟨b1x0, 1, none⟩ = some (.int .i64 b) := fun g => (g.cell Y1).trans (by rw [← e1]; rw [st2_old n01]; exact st2_1 (u := .int .i64 0) (by exact u01))
  have H1_1 : ∀ g : Grown W1, g.w.frozen? ⟨b1x0, 1, none⟩ = false := fun g => (g.frozen Y1).trans (by rw [← e1]; simp only [st2_frozen]; exact v01)
  clear Y1
  have Y2 : b1x1 < W1.heap.size := by rw [← e1]; simp only [st2_size]; exact q1
  have S2 : ∀ g : Grown W1, b1x1 < g.w.heap.size := fun g => Nat.lt_of_lt_of_le Y2 g.h.size
  have F2_0 : ∀ g : Grown W1, g.w.cell? ⟨b1x1, 0, none⟩ = some (.int .i64 c) := fun g => (g.cell Y2).trans (by rw [← e1]; exact st2_0 (u := .int .i64 0) (by rw [st2_old (Ne.symm n01)]; exact u10))
  have H2_0 : ∀ g : Grown W1, g.w.frozen? ⟨b1x1, 0, none⟩ = false := fun g => (g.frozen Y2).trans (by rw [← e1]; simp only [st2_frozen]; exact v10)
  have F2_1 : ∀ g : Grown W1, g.w.cell? ⟨b1x1, 1, none⟩ = some (.int .i64 d) := fun g => (g.cell Y2).trans (by rw [← e1]; exact st2_1 (u := .int .i64 0) (by rw [st2_old (Ne.symm n01)]; exact u11))
  have H2_1 : ∀ g : Grown W1, g.w.frozen? ⟨b1x1, 1, none⟩ = false := fun g => (g.frozen Y2).trans (by rw [← e1]; simp only [st2_frozen]; exact v11)
  clear Y2
  clear e1 hL1 hT0 hBh u00 u01 v00 v01 p0 q0 u10 u11 v10 v11 p1 q1 n01
  obtain ⟨h1, hg1⟩ : ∃ g : Grown W1, W1 = g.w := ⟨⟨W1, Below.refl _ _⟩, rfl⟩
  rw [hg1]
  clear hg1 g2
  go_wp2_with (fail)
  refine (hra.out _).mono ?_
  rintro e3 w3 ⟨rfl, hB3⟩
  obtain ⟨g3, rfl⟩ := grow h1 hB3
  clear hB3
  go_wp2_with (fail)
  refine (hsqa.out _).mono ?_
  rintro e4 w4 ⟨rfl, hB4⟩
  obtain ⟨g4, rfl⟩ := grow g3 hB4
  clear hB4
  go_wp2_with (fail)
  generalize hW2 : World.alloc g4.w _ = W2
  have hL2 : Below g4.w.heap.size g4.w W2 := by subst hW2; exact ((Below.refl _ _).alloc (by first | omega | (simp <;> omega)) _)
  have hT2 : Below w.heap.size w W2 := below_then (below_then hT1 g4.h) hL2
  obtain ⟨nb2, hnb2⟩ : ∃ nb, nb = g4.w.heap.size := ⟨_, rfl⟩
  have s0 := S0 g4
  have Y0 : w.heap.size < W2.heap.size := Nat.lt_of_lt_of_le s0 hL2.size
  have c0_0 := F0_0 g4
  have d0_0 := H0_0 g4
  have c0_1 := F0_1 g4
  have d0_1 := H0_1 g4
  have c0_2 := F0_2 g4
  have d0_2 := H0_2 g4
  have c0_3 := F0_3 g4
  have d0_3 := H0_3 g4
  have c0_4 := F0_4 g4
  have d0_4 := H0_4 g4
  have c0_5 := F0_5 g4
  have d0_5 := H0_5 g4
  clear S0 F0_0 H0_0 F0_1 H0_1 F0_2 H0_2 F0_3 H0_3 F0_4 H0_4 F0_5 H0_5
  have S0 : ∀ g : Grown W2, w.heap.size < g.w.heap.size := fun g => Nat.lt_of_lt_of_le Y0 g.h.size
  have F0_0 : ∀ g : Grown W2, g.w.cell? ⟨w.heap.size, 0, none⟩ = some (.int .i64 x0) := fun g => (g.cell Y0).trans ((Below.cell hL2 (p := ⟨w.heap.size, 0, none⟩) s0).trans c0_0)
  have H0_0 : ∀ g : Grown W2, g.w.frozen? ⟨w.heap.size, 0, none⟩ = false := fun g => (g.frozen Y0).trans ((Below.frozen hL2 (p := ⟨w.heap.size, 0, none⟩) s0).trans d0_0)
  have F0_1 : ∀ g : Grown W2, g.w.cell? ⟨w.heap.size, 1, none⟩ = some (.int .i64 x1) := fun g => (g.cell Y0).trans ((Below.cell hL2 (p := ⟨w.heap.size, 1, none⟩) s0).trans c0_1)
  have H0_1 : ∀ g : Grown W2, g.w.frozen? ⟨w.heap.size, 1, none⟩ = false := fun g => (g.frozen Y0).trans ((Below.frozen hL2 (p := ⟨w.heap.size, 1, none⟩) s0).trans d0_1)
  have F0_2 : ∀ g : Grown W2, g.w.cell? ⟨w.heap.size, 2, none⟩ = some (.int .i64 x2) := fun g => (g.cell Y0).trans ((Below.cell hL2 (p := ⟨w.heap.size, 2, none⟩) s0).trans c0_2)
  have H0_2 : ∀ g : Grown W2, g.w.frozen? ⟨w.heap.size, 2, none⟩ = false := fun g => (g.frozen Y0).trans ((Below.frozen hL2 (p := ⟨w.heap.size, 2, none⟩) s0).trans d0_2)
  have F0_3 : ∀ g : Grown W2, g.w.cell? ⟨w.heap.size, 3, none⟩ = some (.int .i64 x3) := fun g => (g.cell Y0).trans ((Below.cell hL2 (p := ⟨w.heap.size, 3, none⟩) s0).trans c0_3)
  have H0_3 : ∀ g : Grown W2, g.w.frozen? ⟨w.heap.size, 3, none⟩ = false := fun g => (g.frozen Y0).trans ((Below.frozen hL2 (p := ⟨w.heap.size, 3, none⟩) s0).trans d0_3)
  have F0_4 : ∀ g : Grown W2, g.w.cell? ⟨w.heap.size, 4, none⟩ = some (.int .i32 x4) := fun g => (g.cell Y0).trans ((Below.cell hL2 (p := ⟨w.heap.size, 4, none⟩) s0).trans c0_4)
  have H0_4 : ∀ g : Grown W2, g.w.frozen? ⟨w.heap.size, 4, none⟩ = false := fun g => (g.frozen Y0).trans ((Below.frozen hL2 (p := ⟨w.heap.size, 4, none⟩) s0).trans d0_4)
  have F0_5 : ∀ g : Grown W2, g.w.cell? ⟨w.heap.size, 5, none⟩ = some (.int .u16 x5) := fun g => (g.cell Y0).trans ((Below.cell hL2 (p := ⟨w.heap.size, 5, none⟩) s0).trans c0_5)
  have H0_5 : ∀ g : Grown W2, g.w.frozen? ⟨w.heap.size, 5, none⟩ = false := fun g => (g.frozen Y0).trans ((Below.frozen hL2 (p := ⟨w.heap.size, 5, none⟩) s0).trans d0_5)
  clear Y0 s0 c0_0 d0_0 c0_1 d0_1 c0_2 d0_2 c0_3 d0_3 c0_4 d0_4 c0_5 d0_5
  have s1 := S1 g4
  have Y1 : b1x0 < W2.heap.size := Nat.lt_of_lt_of_le s1 hL2.size
  have c1_0 := F1_0 g4
  have d1_0 := H1_0 g4
  have c1_1 := F1_1 g4
  have d1_1 := H1_1 g4
  clear S1 F1_0 H1_0 F1_1 H1_1
  have S1 : ∀ g : Grown W2, b1x0 < g.w.heap.size := fun g => Nat.lt_of_lt_of_le Y1 g.h.size
  have F1_0 : ∀ g : Grown W2, g.w.cell? ⟨b1x0, 0, none⟩ = some (.int .i64 a) := fun g => (g.cell Y1).trans ((Below.cell hL2 (p := ⟨b1x0, 0, none⟩) s1).trans c1_0)
  have H1_0 : ∀ g : Grown W2, g.w.frozen? ⟨b1x0, 0, none⟩ = false := fun g => (g.frozen Y1).trans ((Below.frozen hL2 (p := ⟨b1x0, 0, none⟩) s1).trans d1_0)
  have F1_1 : ∀ g : Grown W2, g.w.cell? ⟨b1x0, 1, none⟩ = some (.int .i64 b) := fun g => (g.cell Y1).trans ((Below.cell hL2 (p := ⟨b1x0, 1, none⟩) s1).trans c1_1)
  have H1_1 : ∀ g : Grown W2, g.w.frozen? ⟨b1x0, 1, none⟩ = false := fun g => (g.frozen Y1).trans ((Below.frozen hL2 (p := ⟨b1x0, 1, none⟩) s1).trans d1_1)
  clear Y1 s1 c1_0 d1_0 c1_1 d1_1
  have s2 := S2 g4
  have Y2 : b1x1 < W2.heap.size := Nat.lt_of_lt_of_le s2 hL2.size
  have c2_0 := F2_0 g4
  have d2_0 := H2_0 g4
  have c2_1 := F2_1 g4
  have d2_1 := H2_1 g4
  clear S2 F2_0 H2_0 F2_1 H2_1
  have S2 : ∀ g : Grown W2, b1x1 < g.w.heap.size := fun g => Nat.lt_of_lt_of_le Y2 g.h.size
  have F2_0 : ∀ g : Grown W2, g.w.cell? ⟨b1x1, 0, none⟩ = some (.int .i64 c) := fun g => (g.cell Y2).trans ((Below.cell hL2 (p := ⟨b1x1, 0, none⟩) s2).trans c2_0)
  have H2_0 : ∀ g : Grown W2, g.w.frozen? ⟨b1x1, 0, none⟩ = false := fun g => (g.frozen Y2).trans ((Below.frozen hL2 (p := ⟨b1x1, 0, none⟩) s2).trans d2_0)
  have F2_1 : ∀ g : Grown W2, g.w.cell? ⟨b1x1, 1, none⟩ = some (.int .i64 d) := fun g => (g.cell Y2).trans ((Below.cell hL2 (p := ⟨b1x1, 1, none⟩) s2).trans c2_1)
  have H2_1 : ∀ g : Grown W2, g.w.frozen? ⟨b1x1, 1, none⟩ = false := fun g => (g.frozen Y2).trans ((Below.frozen hL2 (p := ⟨b1x1, 1, none⟩) s2).trans d2_1)
  clear Y2 s2 c2_0 d2_0 c2_1 d2_1
  have Y3 : nb2 < W2.heap.size := by subst hW2; subst hnb2; simp <;> omega
  have S3 : ∀ g : Grown W2, nb2 < g.w.heap.size := fun g => Nat.lt_of_lt_of_le Y3 g.h.size
  have F3_0 : ∀ g : Grown W2, g.w.cell? ⟨nb2, 0, none⟩ = some (.int .i64 r1) := fun g => (g.cell Y3).trans (by subst hW2; subst hnb2; simp [go_sem])
  have H3_0 : ∀ g : Grown W2, g.w.frozen? ⟨nb2, 0, none⟩ = false := fun g => (g.frozen Y3).trans (by subst hW2; subst hnb2; simp [go_sem])
  have F3_1 : ∀ g : Grown W2, g.w.cell? ⟨nb2, 1, none⟩ = some (.int .i64 r2) := fun g => (g.cell Y3).trans (by subst hW2; subst hnb2; simp [go_sem])
  have H3_1 : ∀ g : Grown W2, g.w.frozen? ⟨nb2, 1, none⟩ = false := fun g => (g.frozen Y3).trans (by subst hW2; subst hnb2; simp [go_sem])
  clear Y3
  rw [← hnb2]
  clear hnb2 hW2 hT1 hL2
  obtain ⟨h2, hg2⟩ : ∃ g : Grown W2, W2 = g.w := ⟨⟨W2, Below.refl _ _⟩, rfl⟩
  rw [hg2]
  clear hg2 g4
  refine (hsqb.out _).mono ?_
  rintro e5 w5 ⟨rfl, hB5⟩
  obtain ⟨g5, rfl⟩ := grow h2 hB5
  clear hB5
  go_wp2_with (fail)
  generalize hW3 : World.alloc g5.w _ = W3
  have hL3 : Below g5.w.heap.size g5.w W3 := by subst hW3; exact ((Below.refl _ _).alloc (by first | omega | (simp <;> omega)) _)
  have hT3 : Below w.heap.size w W3 := below_then (below_then hT2 g5.h) hL3
  obtain ⟨nb3, hnb3⟩ : ∃ nb, nb = g5.w.heap.size := ⟨_, rfl⟩
  have s0 := S0 g5
  have Y0 : w.heap.size < W3.heap.size := Nat.lt_of_lt_of_le s0 hL3.size
  have c0_0 := F0_0 g5
  have d0_0 := H0_0 g5
  have c0_1 := F0_1 g5
  have d0_1 := H0_1 g5
  have c0_2 := F0_2 g5
  have d0_2 := H0_2 g5
  have c0_3 := F0_3 g5
  have d0_3 := H0_3 g5
  have c0_4 := F0_4 g5
  have d0_4 := H0_4 g5
  have c0_5 := F0_5 g5
  have d0_5 := H0_5 g5
  clear S0 F0_0 H0_0 F0_1 H0_1 F0_2 H0_2 F0_3 H0_3 F0_4 H0_4 F0_5 H0_5
  have S0 : ∀ g : Grown W3, w.heap.size < g.w.heap.size := fun g => Nat.lt_of_lt_of_le Y0 g.h.size
  have F0_0 : ∀ g : Grown W3, g.w.cell? ⟨w.heap.size, 0, none⟩ = some (.int .i64 x0) := fun g => (g.cell Y0).trans ((Below.cell hL3 (p := ⟨w.heap.size, 0, none⟩) s0).trans c0_0)
  have H0_0 : ∀ g : Grown W3, g.w.frozen? ⟨w.heap.size, 0, none⟩ = false := fun g => (g.frozen Y0).trans ((Below.frozen hL3 (p := ⟨w.heap.size, 0, none⟩) s0).trans d0_0)
  have F0_1 : ∀ g : Grown W3, g.w.cell? ⟨w.heap.size, 1, none⟩ = some (.int .i64 x1) := fun g => (g.cell Y0).trans ((Below.cell hL3 (p := ⟨w.heap.size, 1, none⟩) s0).trans c0_1)
  have H0_1 : ∀ g : Grown W3, g.w.frozen? ⟨w.heap.size, 1, none⟩ = false := fun g => (g.frozen Y0).trans ((Below.frozen hL3 (p := ⟨w.heap.size, 1, none⟩) s0).trans d0_1)
  have F0_2 : ∀ g : Grown W3, g.w.cell? ⟨w.heap.size, 2, none⟩ = some (.int .i64 x2) := fun g => (g.cell Y0).trans ((Below.cell hL3 (p := ⟨w.heap.size, 2, none⟩) s0).trans c0_2)
  have H0_2 : ∀ g : Grown W3, g.w.frozen? ⟨w.heap.size, 2, none⟩ = false := fun g => (g.frozen Y0).trans ((Below.frozen hL3 (p := ⟨w.heap.size, 2, none⟩) s0).trans d0_2)
  have F0_3 : ∀ g : Grown W3, g.w.cell? ⟨w.heap.size, 3, none⟩ = some (.int .i64 x3) := fun g => (g.cell Y0).trans ((Below.cell hL3 (p := ⟨w.heap.size, 3, none⟩) s0).trans c0_3)
  have H0_3 : ∀ g : Grown W3, g.w.frozen? ⟨w.heap.size, 3, none⟩ = false := fun g => (g.frozen Y0).trans ((Below.frozen hL3 (p := ⟨w.heap.size, 3, none⟩) s0).trans d0_3)
  have F0_4 : ∀ g : Grown W3, g.w.cell? ⟨w.heap.size, 4, none⟩ = some (.int .i32 x4) := fun g => (g.cell Y0).trans ((Below.cell hL3 (p := ⟨w.heap.size, 4, none⟩) s0).trans c0_4)
  have H0_4 : ∀ g : Grown W3, g.w.frozen? ⟨w.heap.size, 4, none⟩ = false := fun g => (g.frozen Y0).trans ((Below.frozen hL3 (p := ⟨w.heap.size, 4, none⟩) s0).trans d0_4)
  have F0_5 : ∀ g : Grown W3, g.w.cell? ⟨w.heap.size, 5, none⟩ = some (.int .u16 x5) := fun g => (g.cell Y0).trans ((Below.cell hL3 (p := ⟨w.heap.size, 5, none⟩) s0).trans c0_5)
  have H0_5 : ∀ g : Grown W3, g.w.frozen? ⟨w.heap.size, 5, none⟩ = false := fun g => (g.frozen Y0).trans ((Below.frozen hL3 (p := ⟨w.heap.size, 5, none⟩) s0).trans d0_5)
  clear Y0 s0 c0_0 d0_0 c0_1 d0_1 c0_2 d0_2 c0_3 d0_3 c0_4 d0_4 c0_5 d0_5
  have s1 := S1 g5
  have Y1 : b1x0 < W3.heap.size := Nat.lt_of_lt_of_le s1 hL3.size
  have c1_0 := F1_0 g5
  have d1_0 := H1_0 g5
  have c1_1 := F1_1 g5
  have d1_1 := H1_1 g5
  clear S1 F1_0 H1_0 F1_1 H1_1
  have S1 : ∀ g : Grown W3, b1x0 < g.w.heap.size := fun g => Nat.lt_of_lt_of_le Y1 g.h.size
  have F1_0 : ∀ g : Grown W3, g.w.cell? ⟨b1x0, 0, none⟩ = some (.int .i64 a) := fun g => (g.cell Y1).trans ((Below.cell hL3 (p := ⟨b1x0, 0, none⟩) s1).trans c1_0)
  have H1_0 : ∀ g : Grown W3, g.w.frozen? ⟨b1x0, 0, none⟩ = false := fun g => (g.frozen Y1).trans ((Below.frozen hL3 (p := ⟨b1x0, 0, none⟩) s1).trans d1_0)
  have F1_1 : ∀ g : Grown W3, g.w.cell? ⟨b1x0, 1, none⟩ = some (.int .i64 b) := fun g => (g.cell Y1).trans ((Below.cell hL3 (p := ⟨b1x0, 1, none⟩) s1).trans c1_1)
  have H1_1 : ∀ g : Grown W3, g.w.frozen? ⟨b1x0, 1, none⟩ = false := fun g => (g.frozen Y1).trans ((Below.frozen hL3 (p := ⟨b1x0, 1, none⟩) s1).trans d1_1)
  clear Y1 s1 c1_0 d1_0 c1_1 d1_1
  have s2 := S2 g5
  have Y2 : b1x1 < W3.heap.size := Nat.lt_of_lt_of_le s2 hL3.size
  have c2_0 := F2_0 g5
  have d2_0 := H2_0 g5
  have c2_1 := F2_1 g5
  have d2_1 := H2_1 g5
  clear S2 F2_0 H2_0 F2_1 H2_1
  have S2 : ∀ g : Grown W3, b1x1 < g.w.heap.size := fun g => Nat.lt_of_lt_of_le Y2 g.h.size
  have F2_0 : ∀ g : Grown W3, g.w.cell? ⟨b1x1, 0, none⟩ = some (.int .i64 c) := fun g => (g.cell Y2).trans ((Below.cell hL3 (p := ⟨b1x1, 0, none⟩) s2).trans c2_0)
  have H2_0 : ∀ g : Grown W3, g.w.frozen? ⟨b1x1, 0, none⟩ = false := fun g => (g.frozen Y2).trans ((Below.frozen hL3 (p := ⟨b1x1, 0, none⟩) s2).trans d2_0)
  have F2_1 : ∀ g : Grown W3, g.w.cell? ⟨b1x1, 1, none⟩ = some (.int .i64 d) := fun g => (g.cell Y2).trans ((Below.cell hL3 (p := ⟨b1x1, 1, none⟩) s2).trans c2_1)
  have H2_1 : ∀ g : Grown W3, g.w.frozen? ⟨b1x1, 1, none⟩ = false := fun g => (g.frozen Y2).trans ((Below.frozen hL3 (p := ⟨b1x1, 1, none⟩) s2).trans d2_1)
  clear Y2 s2 c2_0 d2_0 c2_1 d2_1
  have s3 := S3 g5
  have Y3 : nb2 < W3.heap.size := Nat.lt_of_lt_of_le s3 hL3.size
  have c3_0 := F3_0 g5
  have d3_0 := H3_0 g5
  have c3_1 := F3_1 g5
  have d3_1 := H3_1 g5
  clear S3 F3_0 H3_0 F3_1 H3_1
  have S3 : ∀ g : Grown W3, nb2 < g.w.heap.size := fun g => Nat.lt_of_lt_of_le Y3 g.h.size
  have F3_0 : ∀ g : Grown W3, g.w.cell? ⟨nb2, 0, none⟩ = some (.int .i64 r1) := fun g => (g.cell Y3).trans ((Below.cell hL3 (p := ⟨nb2, 0, none⟩) s3).trans c3_0)
  have H3_0 : ∀ g : Grown W3, g.w.frozen? ⟨nb2, 0, none⟩ = false := fun g => (g.frozen Y3).trans ((Below.frozen hL3 (p := ⟨nb2, 0, none⟩) s3).trans d3_0)
  have F3_1 : ∀ g : Grown W3, g.w.cell? ⟨nb2, 1, none⟩ = some (.int .i64 r2) := fun g => (g.cell Y3).trans ((Below.cell hL3 (p := ⟨nb2, 1, none⟩) s3).trans c3_1)
  have H3_1 : ∀ g : Grown W3, g.w.frozen? ⟨nb2, 1, none⟩ = false := fun g => (g.frozen Y3).trans ((Below.frozen hL3 (p := ⟨nb2, 1, none⟩) s3).trans d3_1)
  clear Y3 s3 c3_0 d3_0 c3_1 d3_1
  have Y4 : nb3 < W3.heap.size := by subst hW3; subst hnb3; simp <;> omega
  have S4 : ∀ g : Grown W3, nb3 < g.w.heap.size := fun g => Nat.lt_of_lt_of_le Y4 g.h.size
  have F4_0 : ∀ g : Grown W3, g.w.cell? ⟨nb3, 0, none⟩ = some (.int .i64 r1) := fun g => (g.cell Y4).trans (by subst hW3; subst hnb3; simp [go_sem])
  have H4_0 : ∀ g : Grown W3, g.w.frozen? ⟨nb3, 0, none⟩ = false := fun g => (g.frozen Y4).trans (by subst hW3; subst hnb3; simp [go_sem])
  have F4_1 : ∀ g : Grown W3, g.w.cell? ⟨nb3, 1, none⟩ = some (.int .i64 r2) := fun g => (g.cell Y4).trans (by subst hW3; subst hnb3; simp [go_sem])
  have H4_1 : ∀ g : Grown W3, g.w.frozen? ⟨nb3, 1, none⟩ = false := fun g => (g.frozen Y4).trans (by subst hW3; subst hnb3; simp [go_sem])
  clear Y4
  rw [← hnb3]
  clear hnb3 hW3 hT2 hL3
  obtain ⟨h3, hg3⟩ : ∃ g : Grown W3, W3 = g.w := ⟨⟨W3, Below.refl _ _⟩, rfl⟩
  rw [hg3]
  clear hg3 g5
  refine (hmea.out _).mono ?_
  rintro e6 w6 ⟨rfl, hB6⟩
  obtain ⟨g6, rfl⟩ := grow h3 hB6
  clear hB6
  go_wp2_with (fail)
  generalize hW4 : World.alloc g6.w _ = W4
  have hL4 : Below g6.w.heap.size g6.w W4 := by subst hW4; exact ((Below.refl _ _).alloc (by first | omega | (simp <;> omega)) _)
  have hT4 : Below w.heap.size w W4 := below_then (below_then hT3 g6.h) hL4
  obtain ⟨nb4, hnb4⟩ : ∃ nb, nb = g6.w.heap.size := ⟨_, rfl⟩
  have s0 := S0 g6
  have Y0 : w.heap.size < W4.heap.size := Nat.lt_of_lt_of_le s0 hL4.size
  have c0_0 := F0_0 g6
  have d0_0 := H0_0 g6
  have c0_1 := F0_1 g6
  have d0_1 := H0_1 g6
  have c0_2 := F0_2 g6
  have d0_2 := H0_2 g6
  have c0_3 := F0_3 g6
  have d0_3 := H0_3 g6
  have c0_4 := F0_4 g6
  have d0_4 := H0_4 g6
  have c0_5 := F0_5 g6
  have d0_5 := H0_5 g6
  clear S0 F0_0 H0_0 F0_1 H0_1 F0_2 H0_2 F0_3 H0_3 F0_4 H0_4 F0_5 H0_5
  have S0 : ∀ g : Grown W4, w.heap.size < g.w.heap.size := fun g => Nat.lt_of_lt_of_le Y0 g.h.size
  have F0_0 : ∀ g : Grown W4, g.w.cell? ⟨w.heap.size, 0, none⟩ = some (.int .i64 x0) := fun g => (g.cell Y0).trans ((Below.cell hL4 (p := ⟨w.heap.size, 0, none⟩) s0).trans c0_0)
  have H0_0 : ∀ g : Grown W4, g.w.frozen? ⟨w.heap.size, 0, none⟩ = false := fun g => (g.frozen Y0).trans ((Below.frozen hL4 (p := ⟨w.heap.size, 0, none⟩) s0).trans d0_0)
  have F0_1 : ∀ g : Grown W4, g.w.cell? ⟨w.heap.size, 1, none⟩ = some (.int .i64 x1) := fun g => (g.cell Y0).trans ((Below.cell hL4 (p := ⟨w.heap.size, 1, none⟩) s0).trans c0_1)
  have H0_1 : ∀ g : Grown W4, g.w.frozen? ⟨w.heap.size, 1, none⟩ = false := fun g => (g.frozen Y0).trans ((Below.frozen hL4 (p := ⟨w.heap.size, 1, none⟩) s0).trans d0_1)
  have F0_2 : ∀ g : Grown W4, g.w.cell? ⟨w.heap.size, 2, none⟩ = some (.int .i64 x2) := fun g => (g.cell Y0).trans ((Below.cell hL4 (p := ⟨w.heap.size, 2, none⟩) s0).trans c0_2)
  have H0_2 : ∀ g : Grown W4, g.w.frozen? ⟨w.heap.size, 2, none⟩ = false := fun g => (g.frozen Y0).trans ((Below.frozen hL4 (p := ⟨w.heap.size, 2, none⟩) s0).trans d0_2)
  have F0_3 : ∀ g : Grown W4, g.w.cell? ⟨w.heap.size, 3, none⟩ = some (.int .i64 x3) := fun g => (g.cell Y0).trans ((Below.cell hL4 (p := ⟨w.heap.size, 3, none⟩) s0).trans c0_3)
  have H0_3 : ∀ g : Grown W4, g.w.frozen? ⟨w.heap.size, 3, none⟩ = false := fun g => (g.frozen Y0).trans ((Below.frozen hL4 (p := ⟨w.heap.size, 3, none⟩) s0).trans d0_3)
  have F0_4 : ∀ g : Grown W4, g.w.cell? ⟨w.heap.size, 4, none⟩ = some (.int .i32 x4) := fun g => (g.cell Y0).trans ((Below.cell hL4 (p := ⟨w.heap.size, 4, none⟩) s0).trans c0_4)
  have H0_4 : ∀ g : Grown W4, g.w.frozen? ⟨w.heap.size, 4, none⟩ = false := fun g => (g.frozen Y0).trans ((Below.frozen hL4 (p := ⟨w.heap.size, 4, none⟩) s0).trans d0_4)
  have F0_5 : ∀ g : Grown W4, g.w.cell? ⟨w.heap.size, 5, none⟩ = some (.int .u16 x5) := fun g => (g.cell Y0).trans ((Below.cell hL4 (p := ⟨w.heap.size, 5, none⟩) s0).trans c0_5)
  have H0_5 : ∀ g : Grown W4, g.w.frozen? ⟨w.heap.size, 5, none⟩ = false := fun g => (g.frozen Y0).trans ((Below.frozen hL4 (p := ⟨w.heap.size, 5, none⟩) s0).trans d0_5)
  clear Y0 s0 c0_0 d0_0 c0_1 d0_1 c0_2 d0_2 c0_3 d0_3 c0_4 d0_4 c0_5 d0_5
  have s1 := S1 g6
  have Y1 : b1x0 < W4.heap.size := Nat.lt_of_lt_of_le s1 hL4.size
  have c1_0 := F1_0 g6
  have d1_0 := H1_0 g6
  have c1_1 := F1_1 g6
  have d1_1 := H1_1 g6
  clear S1 F1_0 H1_0 F1_1 H1_1
  have S1 : ∀ g : Grown W4, b1x0 < g.w.heap.size := fun g => Nat.lt_of_lt_of_le Y1 g.h.size
  have F1_0 : ∀ g : Grown W4, g.w.cell? ⟨b1x0, 0, none⟩ = some (.int .i64 a) := fun g => (g.cell Y1).trans ((Below.cell hL4 (p := ⟨b1x0, 0, none⟩) s1).trans c1_0)
  have H1_0 : ∀ g : Grown W4, g.w.frozen? ⟨b1x0, 0, none⟩ = false := fun g => (g.frozen Y1).trans ((Below.frozen hL4 (p := ⟨b1x0, 0, none⟩) s1).trans d1_0)
  have F1_1 : ∀ g : Grown W4, g.w.cell? ⟨b1x0, 1, none⟩ = some (.int .i64 b) := fun g => (g.cell Y1).trans ((Below.cell hL4 (p := ⟨b1x0, 1, none⟩) s1).trans c1_1)
  have H1_1 : ∀ g : Grown W4, g.w.frozen? ⟨b1x0, 1, none⟩ = false := fun g => (g.frozen Y1).trans ((Below.frozen hL4 (p := ⟨b1x0, 1, none⟩) s1).trans d1_1)
  clear Y1 s1 c1_0 d1_0 c1_1 d1_1
  have s2 := S2 g6
  have Y2 : b1x1 < W4.heap.size := Nat.lt_of_lt_of_le s2 hL4.size
  have c2_0 := F2_0 g6
  have d2_0 := H2_0 g6
  have c2_1 := F2_1 g6
  have d2_1 := H2_1 g6
  clear S2 F2_0 H2_0 F2_1 H2_1
  have S2 : ∀ g : Grown W4, b1x1 < g.w.heap.size := fun g => Nat.lt_of_lt_of_le Y2 g.h.size
  have F2_0 : ∀ g : Grown W4, g.w.cell? ⟨b1x1, 0, none⟩ = some (.int .i64 c) := fun g => (g.cell Y2).trans ((Below.cell hL4 (p := ⟨b1x1, 0, none⟩) s2).trans c2_0)
  have H2_0 : ∀ g : Grown W4, g.w.frozen? ⟨b1x1, 0, none⟩ = false := fun g => (g.frozen Y2).trans ((Below.frozen hL4 (p := ⟨b1x1, 0, none⟩) s2).trans d2_0)
  have F2_1 : ∀ g : Grown W4, g.w.cell? ⟨b1x1, 1, none⟩ = some (.int .i64 d) := fun g => (g.cell Y2).trans ((Below.cell hL4 (p := ⟨b1x1, 1, none⟩) s2).trans c2_1)
  have H2_1 : ∀ g : Grown W4, g.w.frozen? ⟨b1x1, 1, none⟩ = false := fun g => (g.frozen Y2).trans ((Below.frozen hL4 (p := ⟨b1x1, 1, none⟩) s2).trans d2_1)
  clear Y2 s2 c2_0 d2_0 c2_1 d2_1
  have s3 := S3 g6
  have Y3 : nb2 < W4.heap.size := Nat.lt_of_lt_of_le s3 hL4.size
  have c3_0 := F3_0 g6
  have d3_0 := H3_0 g6
  have c3_1 := F3_1 g6
  have d3_1 := H3_1 g6
  clear S3 F3_0 H3_0 F3_1 H3_1
  have S3 : ∀ g : Grown W4, nb2 < g.w.heap.size := fun g => Nat.lt_of_lt_of_le Y3 g.h.size
  have F3_0 : ∀ g : Grown W4, g.w.cell? ⟨nb2, 0, none⟩ = some (.int .i64 r1) := fun g => (g.cell Y3).trans ((Below.cell hL4 (p := ⟨nb2, 0, none⟩) s3).trans c3_0)
  have H3_0 : ∀ g : Grown W4, g.w.frozen? ⟨nb2, 0, none⟩ = false := fun g => (g.frozen Y3).trans ((Below.frozen hL4 (p := ⟨nb2, 0, none⟩) s3).trans d3_0)
  have F3_1 : ∀ g : Grown W4, g.w.cell? ⟨nb2, 1, none⟩ = some (.int .i64 r2) := fun g => (g.cell Y3).trans ((Below.cell hL4 (p := ⟨nb2, 1, none⟩) s3).trans c3_1)
  have H3_1 : ∀ g : Grown W4, g.w.frozen? ⟨nb2, 1, none⟩ = false := fun g => (g.frozen Y3).trans ((Below.frozen hL4 (p := ⟨nb2, 1, none⟩) s3).trans d3_1)
  clear Y3 s3 c3_0 d3_0 c3_1 d3_1
  have s4 := S4 g6
  have Y4 : nb3 < W4.heap.size := Nat.lt_of_lt_of_le s4 hL4.size
  have c4_0 := F4_0 g6
  have d4_0 := H4_0 g6
  have c4_1 := F4_1 g6
  have d4_1 := H4_1 g6
  clear S4 F4_0 H4_0 F4_1 H4_1
  have S4 : ∀ g : Grown W4, nb3 < g.w.heap.size := fun g => Nat.lt_of_lt_of_le Y4 g.h.size
  have F4_0 : ∀ g : Grown W4, g.w.cell? ⟨nb3, 0, none⟩ = some (.int .i64 r1) := fun g => (g.cell Y4).trans ((Below.cell hL4 (p := ⟨nb3, 0, none⟩) s4).trans c4_0)
  have H4_0 : ∀ g : Grown W4, g.w.frozen? ⟨nb3, 0, none⟩ = false := fun g => (g.frozen Y4).trans ((Below.frozen hL4 (p := ⟨nb3, 0, none⟩) s4).trans d4_0)
  have F4_1 : ∀ g : Grown W4, g.w.cell? ⟨nb3, 1, none⟩ = some (.int .i64 r2) := fun g => (g.cell Y4).trans ((Below.cell hL4 (p := ⟨nb3, 1, none⟩) s4).trans c4_1)
  have H4_1 : ∀ g : Grown W4, g.w.frozen? ⟨nb3, 1, none⟩ = false := fun g => (g.frozen Y4).trans ((Below.frozen hL4 (p := ⟨nb3, 1, none⟩) s4).trans d4_1)
  clear Y4 s4 c4_0 d4_0 c4_1 d4_1
  have Y5 : nb4 < W4.heap.size := by subst hW4; subst hnb4; simp <;> omega
  have S5 : ∀ g : Grown W4, nb4 < g.w.heap.size := fun g => Nat.lt_of_lt_of_le Y5 g.h.size
  have F5_0 : ∀ g : Grown W4, g.w.cell? ⟨nb4, 0, none⟩ = some (.int .i64 k1) := fun g => (g.cell Y5).trans (by subst hW4; subst hnb4; simp [go_sem])
  have H5_0 : ∀ g : Grown W4, g.w.frozen? ⟨nb4, 0, none⟩ = false := fun g => (g.frozen Y5).trans (by subst hW4; subst hnb4; simp [go_sem])
  have F5_1 : ∀ g : Grown W4, g.w.cell? ⟨nb4, 1, none⟩ = some (.int .i64 k2) := fun g => (g.cell Y5).trans (by subst hW4; subst hnb4; simp [go_sem])
  have H5_1 : ∀ g : Grown W4, g.w.frozen? ⟨nb4, 1, none⟩ = false := fun g => (g.frozen Y5).trans (by subst hW4; subst hnb4; simp [go_sem])
  clear Y5
  rw [← hnb4]
  clear hnb4 hW4 hT3 hL4
  obtain ⟨h4, hg4⟩ : ∃ g : Grown W4, W4 = g.w := ⟨⟨W4, Below.refl _ _⟩, rfl⟩
  rw [hg4]
  clear hg4 g6
  refine (hmeb.out _).mono ?_
  rintro e7 w7 ⟨rfl, hB7⟩
  obtain ⟨g7, rfl⟩ := grow h4 hB7
  clear hB7
  go_wp2_with (fail)
  generalize hW5 : World.alloc g7.w _ = W5
  have hL5 : Below g7.w.heap.size g7.w W5 := by subst hW5; exact ((Below.refl _ _).alloc (by first | omega | (simp <;> omega)) _)
  have hT5 : Below w.heap.size w W5 := below_then (below_then hT4 g7.h) hL5
  obtain ⟨nb5, hnb5⟩ : ∃ nb, nb = g7.w.heap.size := ⟨_, rfl⟩
  have s0 := S0 g7
  have Y0 : w.heap.size < W5.heap.size := Nat.lt_of_lt_of_le s0 hL5.size
  have c0_0 := F0_0 g7
  have d0_0 := H0_0 g7
  have c0_1 := F0_1 g7
  have d0_1 := H0_1 g7
  have c0_2 := F0_2 g7
  have d0_2 := H0_2 g7
  have c0_3 := F0_3 g7
  have d0_3 := H0_3 g7
  have c0_4 := F0_4 g7
  have d0_4 := H0_4 g7
  have c0_5 := F0_5 g7
  have d0_5 := H0_5 g7
  clear S0 F0_0 H0_0 F0_1 H0_1 F0_2 H0_2 F0_3 H0_3 F0_4 H0_4 F0_5 H0_5
  have S0 : ∀ g : Grown W5, w.heap.size < g.w.heap.size := fun g => Nat.lt_of_lt_of_le Y0 g.h.size
  have F0_0 : ∀ g : Grown W5, g.w.cell? ⟨w.heap.size, 0, none⟩ = some (.int .i64 x0) := fun g => (g.cell Y0).trans ((Below.cell hL5 (p := ⟨w.heap.size, 0, none⟩) s0).trans c0_0)
  have H0_0 : ∀ g : Grown W5, g.w.frozen? ⟨w.heap.size, 0, none⟩ = false := fun g => (g.frozen Y0).trans ((Below.frozen hL5 (p := ⟨w.heap.size, 0, none⟩) s0).trans d0_0)
  have F0_1 : ∀ g : Grown W5, g.w.cell? ⟨w.heap.size, 1, none⟩ = some (.int .i64 x1) := fun g => (g.cell Y0).trans ((Below.cell hL5 (p := ⟨w.heap.size, 1, none⟩) s0).trans c0_1)
  have H0_1 : ∀ g : Grown W5, g.w.frozen? ⟨w.heap.size, 1, none⟩ = false := fun g => (g.frozen Y0).trans ((Below.frozen hL5 (p := ⟨w.heap.size, 1, none⟩) s0).trans d0_1)
  have F0_2 : ∀ g : Grown W5, g.w.cell? ⟨w.heap.size, 2, none⟩ = some (.int .i64 x2) := fun g => (g.cell Y0).trans ((Below.cell hL5 (p := ⟨w.heap.size, 2, none⟩) s0).trans c0_2)
  have H0_2 : ∀ g : Grown W5, g.w.frozen? ⟨w.heap.size, 2, none⟩ = false := fun g => (g.frozen Y0).trans ((Below.frozen hL5 (p := ⟨w.heap.size, 2, none⟩) s0).trans d0_2)
  have F0_3 : ∀ g : Grown W5, g.w.cell? ⟨w.heap.size, 3, none⟩ = some (.int .i64 x3) := fun g => (g.cell Y0).trans ((Below.cell hL5 (p := ⟨w.heap.size, 3, none⟩) s0).trans c0_3)
  have H0_3 : ∀ g : Grown W5, g.w.frozen? ⟨w.heap.size, 3, none⟩ = false := fun g => (g.frozen Y0).trans ((Below.frozen hL5 (p := ⟨w.heap.size, 3, none⟩) s0).trans d0_3)
  have F0_4 : ∀ g : Grown W5, g.w.cell? ⟨w.heap.size, 4, none⟩ = some (.int .i32 x4) := fun g => (g.cell Y0).trans ((Below.cell hL5 (p := ⟨w.heap.size, 4, none⟩) s0).trans c0_4)
  have H0_4 : ∀ g : Grown W5, g.w.frozen? ⟨w.heap.size, 4, none⟩ = false := fun g => (g.frozen Y0).trans ((Below.frozen hL5 (p := ⟨w.heap.size, 4, none⟩) s0).trans d0_4)
  have F0_5 : ∀ g : Grown W5, g.w.cell? ⟨w.heap.size, 5, none⟩ = some (.int .u16 x5) := fun g => (g.cell Y0).trans ((Below.cell hL5 (p := ⟨w.heap.size, 5, none⟩) s0).trans c0_5)
  have H0_5 : ∀ g : Grown W5, g.w.frozen? ⟨w.heap.size, 5, none⟩ = false := fun g => (g.frozen Y0).trans ((Below.frozen hL5 (p := ⟨w.heap.size, 5, none⟩) s0).trans d0_5)
  clear Y0 s0 c0_0 d0_0 c0_1 d0_1 c0_2 d0_2 c0_3 d0_3 c0_4 d0_4 c0_5 d0_5
  have s1 := S1 g7
  have Y1 : b1x0 < W5.heap.size := Nat.lt_of_lt_of_le s1 hL5.size
  have c1_0 := F1_0 g7
  have d1_0 := H1_0 g7
  have c1_1 := F1_1 g7
  have d1_1 := H1_1 g7
  clear S1 F1_0 H1_0 F1_1 H1_1
  have S1 : ∀ g : Grown W5, b1x0 < g.w.heap.size := fun g => Nat.lt_of_lt_of_le Y1 g.h.size
  have F1_0 : ∀ g : Grown W5, g.w.cell? ⟨b1x0, 0, none⟩ = some (.int .i64 a) := fun g => (g.cell Y1).trans ((Below.cell hL5 (p := ⟨b1x0, 0, none⟩) s1).trans c1_0)
  have H1_0 : ∀ g : Grown W5, g.w.frozen? ⟨b1x0, 0, none⟩ = false := fun g => (g.frozen Y1).trans ((Below.frozen hL5 (p := ⟨b1x0, 0, none⟩) s1).trans d1_0)
  have F1_1 : ∀ g : Grown W5, g.w.cell? ⟨b1x0, 1, none⟩ = some (.int .i64 b) := fun g => (g.cell Y1).trans ((Below.cell hL5 (p := ⟨b1x0, 1, none⟩) s1).trans c1_1)
  have H1_1 : ∀ g : Grown W5, g.w.frozen? ⟨b1x0, 1, none⟩ = false := fun g => (g.frozen Y1).trans ((Below.frozen hL5 (p := ⟨b1x0, 1, none⟩) s1).trans d1_1)
  clear Y1 s1 c1_0 d1_0 c1_1 d1_1
  have s2 := S2 g7
  have Y2 : b1x1 < W5.heap.size := Nat.lt_of_lt_of_le s2 hL5.size
  have c2_0 := F2_0 g7
  have d2_0 := H2_0 g7
  have c2_1 := F2_1 g7
  have d2_1 := H2_1 g7
  clear S2 F2_0 H2_0 F2_1 H2_1
  have S2 : ∀ g : Grown W5, b1x1 < g.w.heap.size := fun g => Nat.lt_of_lt_of_le Y2 g.h.size
  have F2_0 : ∀ g : Grown W5, g.w.cell? ⟨b1x1, 0, none⟩ = some (.int .i64 c) := fun g => (g.cell Y2).trans ((Below.cell hL5 (p := ⟨b1x1, 0, none⟩) s2).trans c2_0)
  have H2_0 : ∀ g : Grown W5, g.w.frozen? ⟨b1x1, 0, none⟩ = false := fun g => (g.frozen Y2).trans ((Below.frozen hL5 (p := ⟨b1x1, 0, none⟩) s2).trans d2_0)
  have F2_1 : ∀ g : Grown W5, g.w.cell? ⟨b1x1, 1, none⟩ = some (.int .i64 d) := fun g => (g.cell Y2).trans ((Below.cell hL5 (p := ⟨b1x1, 1, none⟩) s2).trans c2_1)
  have H2_1 : ∀ g : Grown W5, g.w.frozen? ⟨b1x1, 1, none⟩ = false := fun g => (g.frozen Y2).trans ((Below.frozen hL5 (p := ⟨b1x1, 1, none⟩) s2).trans d2_1)
  clear Y2 s2 c2_0 d2_0 c2_1 d2_1
  have s3 := S3 g7
  have Y3 : nb2 < W5.heap.size := Nat.lt_of_lt_of_le s3 hL5.size
  have c3_0 := F3_0 g7
  have d3_0 := H3_0 g7
  have c3_1 := F3_1 g7
  have d3_1 := H3_1 g7
  clear S3 F3_0 H3_0 F3_1 H3_1
  have S3 : ∀ g : Grown W5, nb2 < g.w.heap.size := fun g => Nat.lt_of_lt_of_le Y3 g.h.size
  have F3_0 : ∀ g : Grown W5, g.w.cell? ⟨nb2, 0, none⟩ = some (.int .i64 r1) := fun g => (g.cell Y3).trans ((Below.cell hL5 (p := ⟨nb2, 0, none⟩) s3).trans c3_0)
  have H3_0 : ∀ g : Grown W5, g.w.frozen? ⟨nb2, 0, none⟩ = false := fun g => (g.frozen Y3).trans ((Below.frozen hL5 (p := ⟨nb2, 0, none⟩) s3).trans d3_0)
  have F3_1 : ∀ g : Grown W5, g.w.cell? ⟨nb2, 1, none⟩ = some (.int .i64 r2) := fun g => (g.cell Y3).trans ((Below.cell hL5 (p := ⟨nb2, 1, none⟩) s3).trans c3_1)
  have H3_1 : ∀ g : Grown W5, g.w.frozen? ⟨nb2, 1, none⟩ = false := fun g => (g.frozen Y3).trans ((Below.frozen hL5 (p := ⟨nb2, 1, none⟩) s3).trans d3_1)
  clear Y3 s3 c3_0 d3_0 c3_1 d3_1
  have s4 := S4 g7
  have Y4 : nb3 < W5.heap.size := Nat.lt_of_lt_of_le s4 hL5.size
  have c4_0 := F4_0 g7
  have d4_0 := H4_0 g7
  have c4_1 := F4_1 g7
  have d4_1 := H4_1 g7
  clear S4 F4_0 H4_0 F4_1 H4_1
  have S4 : ∀ g : Grown W5, nb3 < g.w.heap.size := fun g => Nat.lt_of_lt_of_le Y4 g.h.size
  have F4_0 : ∀ g : Grown W5, g.w.cell? ⟨nb3, 0, none⟩ = some (.int .i64 r1) := fun g => (g.cell Y4).trans ((Below.cell hL5 (p := ⟨nb3, 0, none⟩) s4).trans c4_0)
  have H4_0 : ∀ g : Grown W5, g.w.frozen? ⟨nb3, 0, none⟩ = false := fun g => (g.frozen Y4).trans ((Below.frozen hL5 (p := ⟨nb3, 0, none⟩) s4).trans d4_0)
  have F4_1 : ∀ g : Grown W5, g.w.cell? ⟨nb3, 1, none⟩ = some (.int .i64 r2) := fun g => (g.cell Y4).trans ((Below.cell hL5 (p := ⟨nb3, 1, none⟩) s4).trans c4_1)
  have H4_1 : ∀ g : Grown W5, g.w.frozen? ⟨nb3, 1, none⟩ = false := fun g => (g.frozen Y4).trans ((Below.frozen hL5 (p := ⟨nb3, 1, none⟩) s4).trans d4_1)
  clear Y4 s4 c4_0 d4_0 c4_1 d4_1
  have s5 := S5 g7
  have Y5 : nb4 < W5.heap.size := Nat.lt_of_lt_of_le s5 hL5.size
  have c5_0 := F5_0 g7
  have d5_0 := H5_0 g7
  have c5_1 := F5_1 g7
  have d5_1 := H5_1 g7
  clear S5 F5_0 H5_0 F5_1 H5_1
  have S5 : ∀ g : Grown W5, nb4 < g.w.heap.size := fun g => Nat.lt_of_lt_of_le Y5 g.h.size
  have F5_0 : ∀ g : Grown W5, g.w.cell? ⟨nb4, 0, none⟩ = some (.int .i64 k1) := fun g => (g.cell Y5).trans ((Below.cell hL5 (p := ⟨nb4, 0, none⟩) s5).trans c5_0)
  have H5_0 : ∀ g : Grown W5, g.w.frozen? ⟨nb4, 0, none⟩ = false := fun g => (g.frozen Y5).trans ((Below.frozen hL5 (p := ⟨nb4, 0, none⟩) s5).trans d5_0)
  have F5_1 : ∀ g : Grown W5, g.w.cell? ⟨nb4, 1, none⟩ = some (.int .i64 k2) := fun g => (g.cell Y5).trans ((Below.cell hL5 (p := ⟨nb4, 1, none⟩) s5).trans c5_1)
  have H5_1 : ∀ g : Grown W5, g.w.frozen? ⟨nb4, 1, none⟩ = false := fun g => (g.frozen Y5).trans ((Below.frozen hL5 (p := ⟨nb4, 1, none⟩) s5).trans d5_1)
  clear Y5 s5 c5_0 d5_0 c5_1 d5_1
  have Y6 : nb5 < W5.heap.size := by subst hW5; subst hnb5; simp <;> omega
  have S6 : ∀ g : Grown W5, nb5 < g.w.heap.size := fun g => Nat.lt_of_lt_of_le Y6 g.h.size
  have F6_0 : ∀ g : Grown W5, g.w.cell? ⟨nb5, 0, none⟩ = some (.int .i64 k1) := fun g => (g.cell Y6).trans (by subst hW5; subst hnb5; simp [go_sem])
  have H6_0 : ∀ g : Grown W5, g.w.frozen? ⟨nb5, 0, none⟩ = false := fun g => (g.frozen Y6).trans (by subst hW5; subst hnb5; simp [go_sem])
  have F6_1 : ∀ g : Grown W5, g.w.cell? ⟨nb5, 1, none⟩ = some (.int .i64 k2) := fun g => (g.cell Y6).trans (by subst hW5; subst hnb5; simp [go_sem])
  have H6_1 : ∀ g : Grown W5, g.w.frozen? ⟨nb5, 1, none⟩ = false := fun g => (g.frozen Y6).trans (by subst hW5; subst hnb5; simp [go_sem])
  clear Y6
  rw [← hnb5]
  clear hnb5 hW5 hT4 hL5
  obtain ⟨h5, hg5⟩ : ∃ g : Grown W5, W5 = g.w := ⟨⟨W5, Below.refl _ _⟩, rfl⟩
  rw [hg5]
  clear hg5 g7
  try simp only [List.append_eq, List.cons_append, List.nil_append]
  refine region_quiet' h5 (by kernel_rfl) (lexB_of (by as_aux_lemma => kernel_rfl) (by as_aux_lemma => kernel_rfl)) ?_
  iterate 26 (go_big_quiet_step (first | (go_at_call 25; exact qc (same_yes _ _ _)) | exact qc (hmra.out _) | exact qc (hmrb.out _) | exact qc (hhua.out _) | exact qc (hhub.out _) | exact qc (hsua.out _) | exact qc (hsub.out _)))
  as_aux_lemma =>
    repeat (go_big_quiet_step (first | (go_at_call 25; exact qc (same_yes _ _ _)) | exact qc (hmra.out _) | exact qc (hmrb.out _) | exact qc (hhua.out _) | exact qc (hhub.out _) | exact qc (hsua.out _) | exact qc (hsub.out _)))
    refine wpQuiet_nil ?_
    rintro _ ⟨g8, rfl⟩
    go_wp2_with (fail)
    try simp only [List.append_eq, List.cons_append, List.nil_append]
    refine region_quiet' g8 (by kernel_rfl) (lexB_of (by as_aux_lemma => kernel_rfl) (by as_aux_lemma => kernel_rfl)) ?_
    iterate 24 (go_big_quiet_step (first | (go_at_call 25; exact qc (same_yes _ _ _)) | exact qc (hmia.out _) | exact qc (hmib.out _) | exact qc (hwia.out _) | exact qc (hwib.out _) | exact qc (hmaa.out _) | exact qc (hmab.out _) | exact qc (hsia.out _) | exact qc (hsib.out _) | exact qc (hiea.out _) | exact qc (hieb.out _) | exact qc (hena.out _) | exact qc (henb.out _) | exact qc (hpoa.out _) | exact qc (hpob.out _) | exact qc (hnea.out _) | exact qc (hneb.out _)))
    as_aux_lemma =>
      iterate 24 (go_big_quiet_step (first | (go_at_call 25; exact qc (same_yes _ _ _)) | exact qc (hmia.out _) | exact qc (hmib.out _) | exact qc (hwia.out _) | exact qc (hwib.out _) | exact qc (hmaa.out _) | exact qc (hmab.out _) | exact qc (hsia.out _) | exact qc (hsib.out _) | exact qc (hiea.out _) | exact qc (hieb.out _) | exact qc (hena.out _) | exact qc (henb.out _) | exact qc (hpoa.out _) | exact qc (hpob.out _) | exact qc (hnea.out _) | exact qc (hneb.out _)))
      as_aux_lemma =>
        repeat (go_big_quiet_step (first | (go_at_call 25; exact qc (same_yes _ _ _)) | exact qc (hmia.out _) | exact qc (hmib.out _) | exact qc (hwia.out _) | exact qc (hwib.out _) | exact qc (hmaa.out _) | exact qc (hmab.out _) | exact qc (hsia.out _) | exact qc (hsib.out _) | exact qc (hiea.out _) | exact qc (hieb.out _) | exact qc (hena.out _) | exact qc (henb.out _) | exact qc (hpoa.out _) | exact qc (hpob.out _) | exact qc (hnea.out _) | exact qc (hneb.out _)))
        refine wpQuiet_nil ?_
        rintro _ ⟨g9, rfl⟩
        go_wp2_with (fail)
        try simp only [List.append_eq, List.cons_append, List.nil_append]
        refine region_quiet' g9 (by kernel_rfl) (lexB_of (by as_aux_lemma => kernel_rfl) (by as_aux_lemma => kernel_rfl)) ?_
        iterate 26 (go_big_quiet_step (first | (go_at_call 25; exact qc (same_yes _ _ _)) | exact qc (hada.out _) | exact qc (hadb.out _) | exact qc (hsba.out _) | exact qc (hsbb.out _) | exact qc (hnga.out _) | exact qc (hngb.out _) | exact qc (hmua.out _) | exact qc (hmub.out _) | exact qc (hqua.out _) | exact qc (hqub.out _) | exact qc (hdva.out _) | exact qc (hdvb.out _)))
        as_aux_lemma =>
          repeat (go_big_quiet_step (first | (go_at_call 25; exact qc (same_yes _ _ _)) | exact qc (hada.out _) | exact qc (hadb.out _) | exact qc (hsba.out _) | exact qc (hsbb.out _) | exact qc (hnga.out _) | exact qc (hngb.out _) | exact qc (hmua.out _) | exact qc (hmub.out _) | exact qc (hqua.out _) | exact qc (hqub.out _) | exact qc (hdva.out _) | exact qc (hdvb.out _)))
          refine wpQuiet_nil ?_
          rintro _ ⟨g10, rfl⟩
          go_wp2_with (fail)
          have hB : Below w.heap.size w g10.w := below_then hT5 g10.h
          go_ret
          refine ⟨rfl, ?_⟩
          go_grown
end Go.Proofs.Ytdnndmpdlelliaa
