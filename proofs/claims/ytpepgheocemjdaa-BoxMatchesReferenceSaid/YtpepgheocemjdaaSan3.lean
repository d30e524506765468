/-
  The sanity of the laws over boxes.
-/
import Derived.Test.YtpepgheocemjdaaPredK
namespace Go.Proofs.Ytpepgheocemjdaa
open Go.ChangeShapes Go.WideShapes Go.ChangeAt Go.RowKit
set_option linter.unusedVariables false
set_option linter.unusedSimpArgs false
set_option maxRecDepth 100000
attribute [local irreducible] Calls

def phiS : Tmp → Value → World → Prop := lk [(66, fun u _ => u = .agg #[.int .i64 262144, .int .i64 1638400]),
  (67, fun u _ => u = .bool true),
  (68, fun u _ => u = .bool true),
  (69, fun u w' => Bx w' u [(0, 65536)]),
  (70, fun u w' => Bx w' u [(196608, 327680)]),
  (71, fun u _ => u = .bool true),
  (72, fun u _ => u = .bool true),
  (73, fun u _ => u = .bool true),
  (74, fun u w' => Bx w' u [(0, 65536)]),
  (75, fun u w' => Bx w' u [(196608, 327680)]),
  (76, fun u _ => u = .bool false),
  (77, fun u _ => u = .bool true),
  (78, fun u _ => u = .bool true),
  (79, fun u _ => u = .bool true),
  (80, fun u _ => u = .agg #[.int .i64 0, .int .i64 0]),
  (81, fun u w' => Bx w' u [(0, 0)]),
  (82, fun u w' => Bx w' u [((-1), 1)]),
  (83, fun u _ => u = .agg #[.int .i64 (-1), .int .i64 1]),
  (84, fun u w' => Bx w' u [((-1), 1)]),
  (85, fun u _ => u = .bool true),
  (86, fun u _ => u = .bool true),
  (87, fun u _ => u = .bool true),
  (88, fun u w' => Bx w' u [(0, 262144), (65536, 327680)]),
  (89, fun u _ => u = .agg #[.int .i64 0, .int .i64 262144]),
  (90, fun u _ => u = .agg #[.int .i64 65536, .int .i64 327680]),
  (91, fun u w' => Bx w' u [(0, 262144), (65536, 327680)]),
  (92, fun u _ => u = .bool true),
  (93, fun u _ => u = .bool true),
  (94, fun u _ => u = .bool true),
  (95, fun u w' => Bx w' u [(0, 262144), (327680, 589824)]),
  (96, fun u _ => u = .agg #[.int .i64 0, .int .i64 262144]),
  (97, fun u _ => u = .agg #[.int .i64 327680, .int .i64 589824]),
  (98, fun u w' => Bx w' u [(0, 262144), (327680, 589824)]),
  (99, fun u _ => u = .bool true),
  (100, fun u _ => u = .bool true),
  (101, fun u _ => u = .bool true),
  (102, fun u _ => u = .int .i64 0),
  (103, fun u _ => u = .bool true),
  (104, fun u _ => u = .bool true),
  (105, fun u _ => u = .bool true),
  (106, fun u _ => u = .int .i64 1),
  (107, fun u _ => u = .bool true),
  (108, fun u _ => u = .bool true),
  (109, fun u _ => u = .bool true),
  (110, fun u _ => u = .int .i64 1),
  (111, fun u _ => u = .bool true),
  (112, fun u _ => u = .bool true),
  (113, fun u _ => u = .bool true),
  (114, fun u w' => Bx w' u [(196608, 262144), (65536, 131072)]),
  (115, fun u _ => u = .agg #[.int .i64 196608, .int .i64 262144]),
  (116, fun u _ => u = .agg #[.int .i64 65536, .int .i64 131072]),
  (117, fun u w' => Bx w' u [(196608, 262144), (65536, 131072)]),
  (118, fun u _ => u = .bool true),
  (119, fun u _ => u = .bool true),
  (120, fun u _ => u = .bool true),
  (121, fun u _ => u = .bool true),
  (122, fun u _ => u = .bool true),
  (123, fun u _ => u = .bool true),
  (124, fun u _ => u = .bool false),
  (125, fun u _ => u = .bool true),
  (126, fun u _ => u = .bool true),
  (127, fun u _ => u = .bool true),
  (128, fun u w' => Bx w' u [(0, 65536)]),
  (129, fun u w' => Bx w' u [(196608, 327680)]),
  (130, fun u w' => Bx w' u [(0, 327680)]),
  (131, fun u _ => u = .agg #[.int .i64 0, .int .i64 327680]),
  (132, fun u w' => Bx w' u [(0, 327680)]),
  (133, fun u _ => u = .bool true),
  (134, fun u _ => u = .bool true),
  (135, fun u _ => u = .bool true),
  (136, fun u w' => Pt w' u [131072, 327680]),
  (137, fun u w' => At w' u 131072),
  (138, fun u _ => u = .int .i64 131072),
  (139, fun u _ => u = .bool true),
  (140, fun u _ => u = .bool true),
  (141, fun u _ => u = .bool true),
  (142, fun u w' => Pt w' u [131072, 327680]),
  (143, fun u w' => At w' u 327680),
  (144, fun u _ => u = .int .i64 327680),
  (145, fun u _ => u = .bool true),
  (146, fun u _ => u = .bool true),
  (147, fun u _ => u = .bool true),
  (148, fun u w' => Bx w' u [(0, 262144), (65536, 589824)]),
  (149, fun u _ => u = .int .i64 524288),
  (150, fun u _ => u = .bool true),
  (151, fun u _ => u = .bool true),
  (152, fun u _ => u = .bool true),
  (153, fun u w' => Bx w' u [(0, 262144), (65536, 589824)]),
  (154, fun u _ => u = .int .i64 1),
  (155, fun u _ => u = .bool true),
  (156, fun u _ => u = .bool true),
  (157, fun u _ => u = .bool true),
  (158, fun u w' => Bx w' u [(0, 65536)]),
  (159, fun u _ => u = .agg #[.int .i64 (-2147483648), .int .i64 2147483648]),
  (160, fun u w' => Bx w' u [((-2147483648), 2147483648)]),
  (161, fun u _ => u = .bool true),
  (162, fun u _ => u = .bool true),
  (163, fun u _ => u = .bool true),
  (164, fun u w' => Bx w' u [(0, 262144), (65536, 589824)]),
  (165, fun u _ => u = .agg #[.int .i64 0, .int .i64 262144]),
  (166, fun u _ => u = .agg #[.int .i64 131072, .int .i64 589824]),
  (167, fun u w' => Bx w' u [(0, 262144), (131072, 589824)]),
  (168, fun u _ => u = .bool false),
  (169, fun u _ => u = .bool true),
  (170, fun u _ => u = .bool true),
  (171, fun u _ => u = .bool true),
  (172, fun u w' => Bx w' u [(0, 262144), (65536, 589824)]),
  (173, fun u w' => Pt w' u [0, 65536]),
  (174, fun u _ => u = .bool true),
  (175, fun u _ => u = .bool true),
  (176, fun u _ => u = .bool true),
  (177, fun u w' => Bx w' u [(0, 262144), (65536, 589824)]),
  (178, fun u w' => Pt w' u [0, 0]),
  (179, fun u _ => u = .bool false),
  (180, fun u _ => u = .bool true),
  (181, fun u _ => u = .bool true),
  (182, fun u _ => u = .bool true),
  (183, fun u _ => u = .bool false),
  (184, fun u _ => u = .bool true),
  (185, fun u _ => u = .bool true),
  (186, fun u _ => u = .bool true),
  (187, fun u w' => Bx w' u [(0, 262144), (65536, 589824)]),
  (188, fun u _ => u = .bool true),
  (189, fun u _ => u = .bool true),
  (190, fun u _ => u = .bool true),
  (191, fun u w' => Pt w' u [7]),
  (192, fun u w' => Bx w' u [(7, 7)]),
  (193, fun u _ => u = .agg #[.int .i64 7, .int .i64 7]),
  (194, fun u w' => Bx w' u [(7, 7)]),
  (195, fun u _ => u = .bool true),
  (196, fun u _ => u = .bool true),
  (0, fun u _ => u = .bool true)]
theorem sane_end (w w15 : World) (aa : Act) (hdf : aa.defers = []) (hu : aa.tmps[0]? = some (.bool true)) (hT : Below w.heap.size w w15) : Code.ret.wp Try.prog (bodyPost Try.prog Try.f22 fun e w' => e = .returned (.bool true) ∧ Below w.heap.size w w') aa w15 :=
  wp_ret (bodyPost_ret (v := .bool true) (by simp [results, Try.results22, go_sem, hu]) hdf ⟨rfl, hT⟩)
theorem phiS_steady : ∀ t v w1 w2, Below w1.heap.size w1 w2 → phiS t v w1 → phiS t v w2 := lk_steady _ ⟨steady_eq _, steady_eq _, steady_eq _, steady_bx _, steady_bx _, steady_eq _, steady_eq _, steady_eq _, steady_bx _, steady_bx _, steady_eq _, steady_eq _, steady_eq _, steady_eq _, steady_eq _, steady_bx _, steady_bx _, steady_eq _, steady_bx _, steady_eq _, steady_eq _, steady_eq _, steady_bx _, steady_eq _, steady_eq _, steady_bx _, steady_eq _, steady_eq _, steady_eq _, steady_bx _, steady_eq _, steady_eq _, steady_bx _, steady_eq _, steady_eq _, steady_eq _, steady_eq _, steady_eq _, steady_eq _, steady_eq _, steady_eq _, steady_eq _, steady_eq _, steady_eq _, steady_eq _, steady_eq _, steady_eq _, steady_eq _, steady_bx _, steady_eq _, steady_eq _, steady_bx _, steady_eq _, steady_eq _, steady_eq _, steady_eq _, steady_eq _, steady_eq _, steady_eq _, steady_eq _, steady_eq _, steady_eq _, steady_bx _, steady_bx _, steady_bx _, steady_eq _, steady_bx _, steady_eq _, steady_eq _, steady_eq _, steady_pt _, steady_at _, steady_eq _, steady_eq _, steady_eq _, steady_eq _, steady_pt _, steady_at _, steady_eq _, steady_eq _, steady_eq _, steady_eq _, steady_bx _, steady_eq _, steady_eq _, steady_eq _, steady_eq _, steady_bx _, steady_eq _, steady_eq _, steady_eq _, steady_eq _, steady_bx _, steady_eq _, steady_bx _, steady_eq _, steady_eq _, steady_eq _, steady_bx _, steady_eq _, steady_eq _, steady_bx _, steady_eq _, steady_eq _, steady_eq _, steady_eq _, steady_bx _, steady_pt _, steady_eq _, steady_eq _, steady_eq _, steady_bx _, steady_pt _, steady_eq _, steady_eq _, steady_eq _, steady_eq _, steady_eq _, steady_eq _, steady_eq _, steady_eq _, steady_bx _, steady_eq _, steady_eq _, steady_eq _, steady_pt _, steady_bx _, steady_eq _, steady_bx _, steady_eq _, steady_eq _, steady_eq _, trivial⟩

set_option maxHeartbeats 16000000 in
theorem sanity3 (w : World) : Calls Try.prog 22 #[] w fun e w' => e = .returned (.bool true) ∧ Below w.heap.size w w' := by
  go_enter Try.func22, Try.ntmps22
  go_wp2_with (fail)
  refine (span_any 0 1 _ (by decide) (by decide)).mono ?_
  rintro e w1 ⟨rfl, hB1⟩
  have ha1 := bx_lit1 w1 0 65536
  have hT1 : Below w.heap.size w (w1.alloc (.cells #[.int .i64 0, .int .i64 65536] 23)) := hB1.alloc hB1.size _
  go_wp2_with (fail)
  refine (span_any 3 5 _ (by decide) (by decide)).mono ?_
  rintro e w2 ⟨rfl, hB2⟩
  have ha2 := (ha1.grow hB2).grow ((Below.refl w2.heap.size w2).alloc (Nat.le_refl _) (.cells #[.int .i64 196608, .int .i64 327680] 23))
  have hb2 := bx_lit1 w2 196608 327680
  have hT2 := below_then (below_then hT1 hB2) ((Below.refl w2.heap.size w2).alloc (Nat.le_refl _) (.cells #[.int .i64 196608, .int .i64 327680] 23))
  go_wp2_with (fail)
  refine (span_any 0 4 _ (by decide) (by decide)).mono ?_
  rintro e w3 ⟨rfl, hB3⟩
  go_wp2_with (fail)
  refine (span_any 1 9 _ (by decide) (by decide)).mono ?_
  rintro e w4 ⟨rfl, hB4⟩
  have hA4 := (Below.refl w4.heap.size w4).alloc (Nat.le_refl _) (.cells #[.int .i64 0, .int .i64 262144, .int .i64 65536, .int .i64 589824] 23)
  have ha4 := ((ha2.grow hB3).grow hB4).grow hA4
  have hb4 := ((hb2.grow hB3).grow hB4).grow hA4
  have hr4 := bx_lit2 w4 0 262144 65536 589824
  have hT4 := below_then (below_then (below_then hT2 hB3) hB4) hA4
  clear ha1 ha2 hb2 hB1 hB2 hB3 hB4 hT1 hT2 hA4
  go_wp2_with (fail)
  refine (bis_ok _ [(0, 262144), (65536, 589824)] 1 65536 589824 _ hr4 (by decide) rfl (by decide) (by decide)).mono ?_
  rintro e w5 ⟨vl, vh, rfl, hlo, hhi, hB5⟩
  have hlo5 : Bx w5 vl [(0, 262144), (65536, 327680)] := hlo
  have hhi5 : Bx w5 vh [(0, 262144), (327680, 589824)] := hhi
  have ha5 := ha4.grow hB5
  have hb5 := hb4.grow hB5
  have hr5 := hr4.grow hB5
  have hT5 := below_then hT4 hB5
  clear hlo hhi ha4 hb4 hr4 hT4 hB5
  go_wp2_with (fail)
  refine (bis_high _ _ _ 2 _ (by decide) (by decide)).mono ?_
  rintro e w6 ⟨rfl, rfl⟩
  go_wp2_with (fail)
  refine (lentire _).mono ?_
  rintro e w7 ⟨rfl, hB7⟩
  go_wp2_with (fail)
  refine (bis_ent _ [(-2147483648, 2147483648)] 0 _ (bx_lit1 _ _ _) (by decide) (by decide) rfl).mono ?_
  rintro e w8 ⟨rfl, hB8⟩
  have hB78 := below_then hB7 (below_then ((Below.refl w7.heap.size w7).alloc (Nat.le_refl _) (.cells #[.int .i64 (-2147483648), .int .i64 2147483648] 23)) hB8)
  have ha8 := ha5.grow hB78
  have hb8 := hb5.grow hB78
  have hr8 := hr5.grow hB78
  have hlo8 := hlo5.grow hB78
  have hhi8 := hhi5.grow hB78
  have hT8 := below_then hT5 hB78
  clear ha5 hb5 hr5 hlo5 hhi5 hT5 hB7 hB8 hB78
  go_wp2_with (fail)
  refine (span_any 3 7 _ (by decide) (by decide)).mono ?_
  rintro e w9 ⟨rfl, hB9⟩
  go_wp2_with (fail)
  refine (span_any 0 2 _ (by decide) (by decide)).mono ?_
  rintro e w10 ⟨rfl, hB10⟩
  have hBx := below_then (below_then hB9 hB10) ((Below.refl w10.heap.size w10).alloc (Nat.le_refl _) (.cells #[.int .i64 196608, .int .i64 458752, .int .i64 0, .int .i64 131072] 23))
  have hq := bx_lit2 w10 196608 458752 0 131072
  have cm := box_meet _ _ [(0, 262144), (65536, 589824)] [(196608, 458752), (0, 131072)] _ (hr8.grow hBx) hq rfl (by decide) (by decide)
  rw [show ([(0, 262144), (65536, 589824)].zip [(196608, 458752), (0, 131072)]).all okM = true from by decide] at cm
  go_wp2_with (fail)
  refine cm.mono ?_
  rintro e w11 ⟨vm, rfl, hm, hmn, hB11⟩
  have hm11 : Bx w11 vm [(196608, 262144), (65536, 131072)] := hm (by trivial)
  have hBy := below_then hBx hB11
  have ha11 := ha8.grow hBy
  have hb11 := hb8.grow hBy
  have hr11 := hr8.grow hBy
  have hlo11 := hlo8.grow hBy
  have hhi11 := hhi8.grow hBy
  have hT11 := below_then hT8 hBy
  clear cm hm hmn hq ha8 hb8 hr8 hlo8 hhi8 hT8 hB9 hB10 hBx hB11 hBy
  have cm := box_meet _ _ [(0, 65536)] [(196608, 327680)] _ ha11 hb11 rfl (by decide) (by decide)
  rw [show ([(0, 65536)].zip [(196608, 327680)]).all okM = false from by decide] at cm
  go_wp2_with (fail)
  refine cm.mono ?_
  rintro e w12 ⟨vz, rfl, hz1, hz2, hB12⟩
  obtain rfl := hz2 (by trivial)
  have ha12 := ha11.grow hB12
  have hb12 := hb11.grow hB12
  have hr12 := hr11.grow hB12
  have hlo12 := hlo11.grow hB12
  have hhi12 := hhi11.grow hB12
  have hm12 := hm11.grow hB12
  have hT12 := below_then hT11 hB12
  clear cm hz1 hz2 ha11 hb11 hr11 hlo11 hhi11 hm11 hT11 hB12
  go_wp2_with (fail)
  refine (box_mid _ [(0, 262144), (65536, 589824)] _ hr12 (by decide) (by decide)).mono ?_
  rintro e w13 ⟨vp, rfl, hp, hB13⟩
  have hp13 : Pt w13 vp [131072, 327680] := hp
  have HA := Lib.hid (ha12.grow hB13)
  have HB := Lib.hid (hb12.grow hB13)
  have HR := Lib.hid (hr12.grow hB13)
  have HL := Lib.hid (hlo12.grow hB13)
  have HH := Lib.hid (hhi12.grow hB13)
  have HM := Lib.hid (hm12.grow hB13)
  have hT13 := below_then hT12 hB13
  clear hp ha12 hb12 hr12 hlo12 hhi12 hm12 hT12 hB13
  obtain ⟨_, pp, cap, rfl, _⟩ := id hp13
  have HP := Lib.hid hp13
  clear hp13
  go_wp2_with (fail)
  have cs := box_sqd _ _ [(0, 65536)] [(196608, 327680)] _ HA.out HB.out rfl (by decide)
  refine cs.mono ?_
  rintro e w14 ⟨he, hB14⟩
  obtain rfl : e = .returned (.agg #[.int .i64 262144, .int .i64 1638400]) := he.trans (by rfl)
  clear cs he
  have HA2 := Lib.hid (HA.out.grow hB14)
  have HB2 := Lib.hid (HB.out.grow hB14)
  have HR2 := Lib.hid (HR.out.grow hB14)
  have HL2 := Lib.hid (HL.out.grow hB14)
  have HH2 := Lib.hid (HH.out.grow hB14)
  have HM2 := Lib.hid (HM.out.grow hB14)
  have HP2 := Lib.hid (HP.out.grow hB14)
  have hT14 := below_then hT13 hB14
  clear HA HB HR HL HH HM HP hT13 hB14
  rename_i K hK
  refine hK _ _ ?_
  clear hK K
  refine list_pred phiS (by as_aux_lemma => kernel_rfl) phiS_steady ?_ ?_
  · have ha := HA2.out
    have hb := HB2.out
    have hr := HR2.out
    have hlo := HL2.out
    have hhi := HH2.out
    have hm := HM2.out
    have hp := HP2.out
    refine ⟨?_, ?_, ?_, ?_, ?_, ?_, ?_, ?_, ?_, ?_, ?_, ?_, ?_, ?_, ?_, ?_, ?_, ?_, ?_, ?_, ?_, ?_, ?_, ?_, ?_, ?_, ?_, ?_, ?_, ?_, ?_, ?_, ?_, ?_, ?_, ?_, ?_, ?_, ?_, ?_, ?_, ?_, ?_, ?_, ?_, ?_, ?_, ?_, ?_, ?_, ?_, ?_, ?_, ?_, ?_, ?_, ?_, ?_, ?_, ?_, ?_, ?_, ?_, ?_, ?_, ?_, ?_, ?_, ?_, ?_, ?_, ?_, ?_, ?_, ?_, ?_, ?_, ?_, ?_, ?_, ?_, ?_, ?_, ?_, ?_, ?_, ?_, ?_, ?_, ?_, ?_, ?_, ?_, ?_, ?_, ?_, ?_, ?_, ?_, ?_, ?_, ?_, ?_, ?_, ?_, ?_, ?_, ?_, ?_, ?_, ?_, ?_, ?_, ?_, ?_, ?_, ?_, ?_, ?_, ?_, ?_, ?_, ?_, ?_, ?_, ?_, ?_, ?_, ?_, ?_, ?_, ?_, trivial⟩
    · refine ob_plain [] rfl rfl fun aa g h => ?_
      refine upon_enter (f := 81) (args := #[.int .i64 4, .int .i64 25]) (by simp [go_sem]) rfl ?_
      exact (span_any 4 25 _ (by decide) (by decide)).mono fun e w' ⟨he, hB⟩ => ⟨_, he, hB, rfl⟩
    · refine ob_plain [65, 66] rfl rfl fun aa g h => ?_
      have r0 := seen_out (v := .agg #[.int .i64 262144, .int .i64 1638400]) rfl rfl h.1
      have e0 := getD_of r0
      obtain ⟨_, r1, rfl⟩ := seen_in rfl h.2.1
      have e1 := getD_of r1
      exact upon_value (v := .bool true) (by simp [go_sem, e0, r0, e1, r1]) (Below.refl _ _) rfl
    · refine ob_plain [67] rfl rfl fun aa g h => ?_
      obtain ⟨_, r0, rfl⟩ := seen_in rfl h.1
      have e0 := getD_of r0
      exact upon_value (v := .bool true) (by simp [go_sem, e0, r0]) (Below.refl _ _) rfl
    · refine ob_gtrue [1] 5 true 68 rfl rfl rfl rfl (fun v w h => h) fun aa g h => ?_
      have r0 := seen_out (v := .slice (some ⟨w1.heap.size, 0, none⟩) 1 1) rfl rfl h.1
      have e0 := getD_of r0
      exact upon_value (v := .slice (some ⟨w1.heap.size, 0, none⟩) 1 1) (by simp [go_sem, e0, r0]) (Below.refl _ _) (ha.grow g.h)
    · refine ob_gtrue [2] 5 true 68 rfl rfl rfl rfl (fun v w h => h) fun aa g h => ?_
      have r0 := seen_out (v := .slice (some ⟨w2.heap.size, 0, none⟩) 1 1) rfl rfl h.1
      have e0 := getD_of r0
      exact upon_value (v := .slice (some ⟨w2.heap.size, 0, none⟩) 1 1) (by simp [go_sem, e0, r0]) (Below.refl _ _) (hb.grow g.h)
    · refine ob_gtrue [69, 70] 5 true 68 rfl rfl rfl rfl (fun v w h => h) fun aa g h => ?_
      obtain ⟨v0, r0, p0⟩ := seen_in rfl h.1
      have e0 := getD_of r0
      obtain ⟨v1, r1, p1⟩ := seen_in rfl h.2.1
      have e1 := getD_of r1
      refine upon_enter (f := 40) (args := #[v0, v1, .int .i64 65536]) (by simp [go_sem, e0, r0, e1, r1]) rfl ?_
      exact (box_sep _ _ [(0, 65536)] [(196608, 327680)] 65536 _ (p0) (p1) rfl (by decide) (by decide) (by decide)).mono fun e w' ⟨he, hB⟩ => ⟨_, he, hB, congrArg Value.bool (by decide)⟩
    · refine ob_plain [68, 71] rfl rfl fun aa g h => ?_
      obtain ⟨_, r0, rfl⟩ := seen_in rfl h.1
      have e0 := getD_of r0
      obtain ⟨_, r1, rfl⟩ := seen_in rfl h.2.1
      have e1 := getD_of r1
      exact upon_value (v := .bool true) (by simp [go_sem, e0, r0, e1, r1]) (Below.refl _ _) rfl
    · refine ob_plain [72] rfl rfl fun aa g h => ?_
      obtain ⟨_, r0, rfl⟩ := seen_in rfl h.1
      have e0 := getD_of r0
      exact upon_value (v := .bool true) (by simp [go_sem, e0, r0]) (Below.refl _ _) rfl
    · refine ob_gtrue [1] 10 true 73 rfl rfl rfl rfl (fun v w h => h) fun aa g h => ?_
      have r0 := seen_out (v := .slice (some ⟨w1.heap.size, 0, none⟩) 1 1) rfl rfl h.1
      have e0 := getD_of r0
      exact upon_value (v := .slice (some ⟨w1.heap.size, 0, none⟩) 1 1) (by simp [go_sem, e0, r0]) (Below.refl _ _) (ha.grow g.h)
    · refine ob_gtrue [2] 10 true 73 rfl rfl rfl rfl (fun v w h => h) fun aa g h => ?_
      have r0 := seen_out (v := .slice (some ⟨w2.heap.size, 0, none⟩) 1 1) rfl rfl h.1
      have e0 := getD_of r0
      exact upon_value (v := .slice (some ⟨w2.heap.size, 0, none⟩) 1 1) (by simp [go_sem, e0, r0]) (Below.refl _ _) (hb.grow g.h)
    · refine ob_gtrue [74, 75] 10 true 73 rfl rfl rfl rfl (fun v w h => h) fun aa g h => ?_
      obtain ⟨v0, r0, p0⟩ := seen_in rfl h.1
      have e0 := getD_of r0
      obtain ⟨v1, r1, p1⟩ := seen_in rfl h.2.1
      have e1 := getD_of r1
      refine upon_enter (f := 40) (args := #[v0, v1, .int .i64 131072]) (by simp [go_sem, e0, r0, e1, r1]) rfl ?_
      exact (box_sep _ _ [(0, 65536)] [(196608, 327680)] 131072 _ (p0) (p1) rfl (by decide) (by decide) (by decide)).mono fun e w' ⟨he, hB⟩ => ⟨_, he, hB, congrArg Value.bool (by decide)⟩
    · refine ob_gtrue [76] 10 true 73 rfl rfl rfl rfl (fun v w h => h) fun aa g h => ?_
      obtain ⟨_, r0, rfl⟩ := seen_in rfl h.1
      have e0 := getD_of r0
      exact upon_value (v := .bool true) (by simp [go_sem, e0, r0]) (Below.refl _ _) rfl
    · refine ob_plain [73, 77] rfl rfl fun aa g h => ?_
      obtain ⟨_, r0, rfl⟩ := seen_in rfl h.1
      have e0 := getD_of r0
      obtain ⟨_, r1, rfl⟩ := seen_in rfl h.2.1
      have e1 := getD_of r1
      exact upon_value (v := .bool true) (by simp [go_sem, e0, r0, e1, r1]) (Below.refl _ _) rfl
    · refine ob_plain [78] rfl rfl fun aa g h => ?_
      obtain ⟨_, r0, rfl⟩ := seen_in rfl h.1
      have e0 := getD_of r0
      exact upon_value (v := .bool true) (by simp [go_sem, e0, r0]) (Below.refl _ _) rfl
    · refine ob_gtrue [] 16 true 79 rfl rfl rfl rfl (fun v w h => h) fun aa g h => ?_
      exact upon_value (v := .agg #[.int .i64 0, .int .i64 0]) (by simp [go_sem]) (Below.refl _ _) rfl
    · refine ob_gtrue [80] 16 true 79 rfl rfl rfl rfl (fun v w h => h) fun aa g h => ?_
      obtain ⟨_, r0, rfl⟩ := seen_in rfl h.1
      have e0 := getD_of r0
      exact upon_value (v := .slice (some ⟨g.w.heap.size, 0, none⟩) 1 1) (w1 := g.w.alloc (.cells #[.int .i64 0, .int .i64 0] 23)) (by simp [go_sem, e0, r0]) ((Below.refl _ _).alloc (Nat.le_refl _) _) (bx_lit1 _ 0 0)
    · refine ob_gtrue [81] 16 true 79 rfl rfl rfl rfl (fun v w h => h) fun aa g h => ?_
      obtain ⟨v0, r0, p0⟩ := seen_in rfl h.1
      have e0 := getD_of r0
      refine upon_enter (f := 42) (args := #[v0, .int .i64 1]) (by simp [go_sem, e0, r0]) rfl ?_
      exact (box_inflate _ [(0, 0)] 1 _ (p0) (by decide) (by decide) (by decide) (by decide)).mono fun e w' ⟨u, he, hu, hB⟩ => ⟨u, he, hB, hu⟩
    · refine ob_gtrue [] 16 true 79 rfl rfl rfl rfl (fun v w h => h) fun aa g h => ?_
      exact upon_value (v := .agg #[.int .i64 (-1), .int .i64 1]) (by simp [go_sem]) (Below.refl _ _) rfl
    · refine ob_gtrue [83] 16 true 79 rfl rfl rfl rfl (fun v w h => h) fun aa g h => ?_
      obtain ⟨_, r0, rfl⟩ := seen_in rfl h.1
      have e0 := getD_of r0
      exact upon_value (v := .slice (some ⟨g.w.heap.size, 0, none⟩) 1 1) (w1 := g.w.alloc (.cells #[.int .i64 (-1), .int .i64 1] 23)) (by simp [go_sem, e0, r0]) ((Below.refl _ _).alloc (Nat.le_refl _) _) (bx_lit1 _ (-1) 1)
    · refine ob_gtrue [82, 84] 16 true 79 rfl rfl rfl rfl (fun v w h => h) fun aa g h => ?_
      obtain ⟨v0, r0, p0⟩ := seen_in rfl h.1
      have e0 := getD_of r0
      obtain ⟨v1, r1, p1⟩ := seen_in rfl h.2.1
      have e1 := getD_of r1
      refine upon_enter (f := 30) (args := #[v0, v1]) (by simp [go_sem, e0, r0, e1, r1]) rfl ?_
      exact (r3same _ _ [((-1), 1)] [((-1), 1)] _ (p0) (p1)).mono fun e w' ⟨he, hB⟩ => ⟨_, he, hB, congrArg Value.bool (by decide)⟩
    · refine ob_plain [79, 85] rfl rfl fun aa g h => ?_
      obtain ⟨_, r0, rfl⟩ := seen_in rfl h.1
      have e0 := getD_of r0
      obtain ⟨_, r1, rfl⟩ := seen_in rfl h.2.1
      have e1 := getD_of r1
      exact upon_value (v := .bool true) (by simp [go_sem, e0, r0, e1, r1]) (Below.refl _ _) rfl
    · refine ob_plain [86] rfl rfl fun aa g h => ?_
      obtain ⟨_, r0, rfl⟩ := seen_in rfl h.1
      have e0 := getD_of r0
      exact upon_value (v := .bool true) (by simp [go_sem, e0, r0]) (Below.refl _ _) rfl
    · refine ob_gtrue [4] 24 true 87 rfl rfl rfl rfl (fun v w h => h) fun aa g h => ?_
      have r0 := seen_out (v := vl) rfl rfl h.1
      have e0 := getD_of r0
      exact upon_value (v := vl) (by simp [go_sem, e0, r0]) (Below.refl _ _) (hlo.grow g.h)
    · refine ob_gtrue [] 24 true 87 rfl rfl rfl rfl (fun v w h => h) fun aa g h => ?_
      refine upon_enter (f := 81) (args := #[.int .i64 0, .int .i64 4]) (by simp [go_sem]) rfl ?_
      exact (span_any 0 4 _ (by decide) (by decide)).mono fun e w' ⟨he, hB⟩ => ⟨_, he, hB, rfl⟩
    · refine ob_gtrue [] 24 true 87 rfl rfl rfl rfl (fun v w h => h) fun aa g h => ?_
      refine upon_enter (f := 81) (args := #[.int .i64 1, .int .i64 5]) (by simp [go_sem]) rfl ?_
      exact (span_any 1 5 _ (by decide) (by decide)).mono fun e w' ⟨he, hB⟩ => ⟨_, he, hB, rfl⟩
    · refine ob_gtrue [89, 90] 24 true 87 rfl rfl rfl rfl (fun v w h => h) fun aa g h => ?_
      obtain ⟨_, r0, rfl⟩ := seen_in rfl h.1
      have e0 := getD_of r0
      obtain ⟨_, r1, rfl⟩ := seen_in rfl h.2.1
      have e1 := getD_of r1
      exact upon_value (v := .slice (some ⟨g.w.heap.size, 0, none⟩) 2 2) (w1 := g.w.alloc (.cells #[.int .i64 0, .int .i64 262144, .int .i64 65536, .int .i64 327680] 23)) (by simp [go_sem, e0, r0, e1, r1]) ((Below.refl _ _).alloc (Nat.le_refl _) _) (bx_lit2 _ 0 262144 65536 327680)
    · refine ob_gtrue [88, 91] 24 true 87 rfl rfl rfl rfl (fun v w h => h) fun aa g h => ?_
      obtain ⟨v0, r0, p0⟩ := seen_in rfl h.1
      have e0 := getD_of r0
      obtain ⟨v1, r1, p1⟩ := seen_in rfl h.2.1
      have e1 := getD_of r1
      refine upon_enter (f := 30) (args := #[v0, v1]) (by simp [go_sem, e0, r0, e1, r1]) rfl ?_
      exact (r3same _ _ [(0, 262144), (65536, 327680)] [(0, 262144), (65536, 327680)] _ (p0) (p1)).mono fun e w' ⟨he, hB⟩ => ⟨_, he, hB, congrArg Value.bool (by decide)⟩
    · refine ob_plain [87, 92] rfl rfl fun aa g h => ?_
      obtain ⟨_, r0, rfl⟩ := seen_in rfl h.1
      have e0 := getD_of r0
      obtain ⟨_, r1, rfl⟩ := seen_in rfl h.2.1
      have e1 := getD_of r1
      exact upon_value (v := .bool true) (by simp [go_sem, e0, r0, e1, r1]) (Below.refl _ _) rfl
    · refine ob_plain [93] rfl rfl fun aa g h => ?_
      obtain ⟨_, r0, rfl⟩ := seen_in rfl h.1
      have e0 := getD_of r0
      exact upon_value (v := .bool true) (by simp [go_sem, e0, r0]) (Below.refl _ _) rfl
    · refine ob_gtrue [5] 31 true 94 rfl rfl rfl rfl (fun v w h => h) fun aa g h => ?_
      have r0 := seen_out (v := vh) rfl rfl h.1
      have e0 := getD_of r0
      exact upon_value (v := vh) (by simp [go_sem, e0, r0]) (Below.refl _ _) (hhi.grow g.h)
    · refine ob_gtrue [] 31 true 94 rfl rfl rfl rfl (fun v w h => h) fun aa g h => ?_
      refine upon_enter (f := 81) (args := #[.int .i64 0, .int .i64 4]) (by simp [go_sem]) rfl ?_
      exact (span_any 0 4 _ (by decide) (by decide)).mono fun e w' ⟨he, hB⟩ => ⟨_, he, hB, rfl⟩
    · refine ob_gtrue [] 31 true 94 rfl rfl rfl rfl (fun v w h => h) fun aa g h => ?_
      refine upon_enter (f := 81) (args := #[.int .i64 5, .int .i64 9]) (by simp [go_sem]) rfl ?_
      exact (span_any 5 9 _ (by decide) (by decide)).mono fun e w' ⟨he, hB⟩ => ⟨_, he, hB, rfl⟩
    · refine ob_gtrue [96, 97] 31 true 94 rfl rfl rfl rfl (fun v w h => h) fun aa g h => ?_
      obtain ⟨_, r0, rfl⟩ := seen_in rfl h.1
      have e0 := getD_of r0
      obtain ⟨_, r1, rfl⟩ := seen_in rfl h.2.1
      have e1 := getD_of r1
      exact upon_value (v := .slice (some ⟨g.w.heap.size, 0, none⟩) 2 2) (w1 := g.w.alloc (.cells #[.int .i64 0, .int .i64 262144, .int .i64 327680, .int .i64 589824] 23)) (by simp [go_sem, e0, r0, e1, r1]) ((Below.refl _ _).alloc (Nat.le_refl _) _) (bx_lit2 _ 0 262144 327680 589824)
    · refine ob_gtrue [95, 98] 31 true 94 rfl rfl rfl rfl (fun v w h => h) fun aa g h => ?_
      obtain ⟨v0, r0, p0⟩ := seen_in rfl h.1
      have e0 := getD_of r0
      obtain ⟨v1, r1, p1⟩ := seen_in rfl h.2.1
      have e1 := getD_of r1
      refine upon_enter (f := 30) (args := #[v0, v1]) (by simp [go_sem, e0, r0, e1, r1]) rfl ?_
      exact (r3same _ _ [(0, 262144), (327680, 589824)] [(0, 262144), (327680, 589824)] _ (p0) (p1)).mono fun e w' ⟨he, hB⟩ => ⟨_, he, hB, congrArg Value.bool (by decide)⟩
    · refine ob_plain [94, 99] rfl rfl fun aa g h => ?_
      obtain ⟨_, r0, rfl⟩ := seen_in rfl h.1
      have e0 := getD_of r0
      obtain ⟨_, r1, rfl⟩ := seen_in rfl h.2.1
      have e1 := getD_of r1
      exact upon_value (v := .bool true) (by simp [go_sem, e0, r0, e1, r1]) (Below.refl _ _) rfl
    · refine ob_plain [100] rfl rfl fun aa g h => ?_
      obtain ⟨_, r0, rfl⟩ := seen_in rfl h.1
      have e0 := getD_of r0
      exact upon_value (v := .bool true) (by simp [go_sem, e0, r0]) (Below.refl _ _) rfl
    · refine ob_gtrue [6] 38 true 101 rfl rfl rfl rfl (fun v w h => h) fun aa g h => ?_
      have r0 := seen_out (v := .int .i64 0) rfl rfl h.1
      have e0 := getD_of r0
      exact upon_value (v := .int .i64 0) (by simp [go_sem, e0, r0]) (Below.refl _ _) rfl
    · refine ob_gtrue [102] 38 true 101 rfl rfl rfl rfl (fun v w h => h) fun aa g h => ?_
      obtain ⟨_, r0, rfl⟩ := seen_in rfl h.1
      have e0 := getD_of r0
      exact upon_value (v := .bool true) (by simp [go_sem, e0, r0]) (Below.refl _ _) rfl
    · refine ob_plain [101, 103] rfl rfl fun aa g h => ?_
      obtain ⟨_, r0, rfl⟩ := seen_in rfl h.1
      have e0 := getD_of r0
      obtain ⟨_, r1, rfl⟩ := seen_in rfl h.2.1
      have e1 := getD_of r1
      exact upon_value (v := .bool true) (by simp [go_sem, e0, r0, e1, r1]) (Below.refl _ _) rfl
    · refine ob_plain [104] rfl rfl fun aa g h => ?_
      obtain ⟨_, r0, rfl⟩ := seen_in rfl h.1
      have e0 := getD_of r0
      exact upon_value (v := .bool true) (by simp [go_sem, e0, r0]) (Below.refl _ _) rfl
    · refine ob_gtrue [9] 42 true 105 rfl rfl rfl rfl (fun v w h => h) fun aa g h => ?_
      have r0 := seen_out (v := .int .i64 1) rfl rfl h.1
      have e0 := getD_of r0
      exact upon_value (v := .int .i64 1) (by simp [go_sem, e0, r0]) (Below.refl _ _) rfl
    · refine ob_gtrue [106] 42 true 105 rfl rfl rfl rfl (fun v w h => h) fun aa g h => ?_
      obtain ⟨_, r0, rfl⟩ := seen_in rfl h.1
      have e0 := getD_of r0
      exact upon_value (v := .bool true) (by simp [go_sem, e0, r0]) (Below.refl _ _) rfl
    · refine ob_plain [105, 107] rfl rfl fun aa g h => ?_
      obtain ⟨_, r0, rfl⟩ := seen_in rfl h.1
      have e0 := getD_of r0
      obtain ⟨_, r1, rfl⟩ := seen_in rfl h.2.1
      have e1 := getD_of r1
      exact upon_value (v := .bool true) (by simp [go_sem, e0, r0, e1, r1]) (Below.refl _ _) rfl
    · refine ob_plain [108] rfl rfl fun aa g h => ?_
      obtain ⟨_, r0, rfl⟩ := seen_in rfl h.1
      have e0 := getD_of r0
      exact upon_value (v := .bool true) (by simp [go_sem, e0, r0]) (Below.refl _ _) rfl
    · refine ob_gtrue [12] 46 true 109 rfl rfl rfl rfl (fun v w h => h) fun aa g h => ?_
      have r0 := seen_out (v := .int .i64 1) rfl rfl h.1
      have e0 := getD_of r0
      exact upon_value (v := .int .i64 1) (by simp [go_sem, e0, r0]) (Below.refl _ _) rfl
    · refine ob_gtrue [110] 46 true 109 rfl rfl rfl rfl (fun v w h => h) fun aa g h => ?_
      obtain ⟨_, r0, rfl⟩ := seen_in rfl h.1
      have e0 := getD_of r0
      exact upon_value (v := .bool true) (by simp [go_sem, e0, r0]) (Below.refl _ _) rfl
    · refine ob_plain [109, 111] rfl rfl fun aa g h => ?_
      obtain ⟨_, r0, rfl⟩ := seen_in rfl h.1
      have e0 := getD_of r0
      obtain ⟨_, r1, rfl⟩ := seen_in rfl h.2.1
      have e1 := getD_of r1
      exact upon_value (v := .bool true) (by simp [go_sem, e0, r0, e1, r1]) (Below.refl _ _) rfl
    · refine ob_plain [112] rfl rfl fun aa g h => ?_
      obtain ⟨_, r0, rfl⟩ := seen_in rfl h.1
      have e0 := getD_of r0
      exact upon_value (v := .bool true) (by simp [go_sem, e0, r0]) (Below.refl _ _) rfl
    · refine ob_gtrue [13] 50 true 113 rfl rfl rfl rfl (fun v w h => h) fun aa g h => ?_
      have r0 := seen_out (v := vm) rfl rfl h.1
      have e0 := getD_of r0
      exact upon_value (v := vm) (by simp [go_sem, e0, r0]) (Below.refl _ _) (hm.grow g.h)
    · refine ob_gtrue [] 50 true 113 rfl rfl rfl rfl (fun v w h => h) fun aa g h => ?_
      refine upon_enter (f := 81) (args := #[.int .i64 3, .int .i64 4]) (by simp [go_sem]) rfl ?_
      exact (span_any 3 4 _ (by decide) (by decide)).mono fun e w' ⟨he, hB⟩ => ⟨_, he, hB, rfl⟩
    · refine ob_gtrue [] 50 true 113 rfl rfl rfl rfl (fun v w h => h) fun aa g h => ?_
      refine upon_enter (f := 81) (args := #[.int .i64 1, .int .i64 2]) (by simp [go_sem]) rfl ?_
      exact (span_any 1 2 _ (by decide) (by decide)).mono fun e w' ⟨he, hB⟩ => ⟨_, he, hB, rfl⟩
    · refine ob_gtrue [115, 116] 50 true 113 rfl rfl rfl rfl (fun v w h => h) fun aa g h => ?_
      obtain ⟨_, r0, rfl⟩ := seen_in rfl h.1
      have e0 := getD_of r0
      obtain ⟨_, r1, rfl⟩ := seen_in rfl h.2.1
      have e1 := getD_of r1
      exact upon_value (v := .slice (some ⟨g.w.heap.size, 0, none⟩) 2 2) (w1 := g.w.alloc (.cells #[.int .i64 196608, .int .i64 262144, .int .i64 65536, .int .i64 131072] 23)) (by simp [go_sem, e0, r0, e1, r1]) ((Below.refl _ _).alloc (Nat.le_refl _) _) (bx_lit2 _ 196608 262144 65536 131072)
    · refine ob_gtrue [114, 117] 50 true 113 rfl rfl rfl rfl (fun v w h => h) fun aa g h => ?_
      obtain ⟨v0, r0, p0⟩ := seen_in rfl h.1
      have e0 := getD_of r0
      obtain ⟨v1, r1, p1⟩ := seen_in rfl h.2.1
      have e1 := getD_of r1
      refine upon_enter (f := 30) (args := #[v0, v1]) (by simp [go_sem, e0, r0, e1, r1]) rfl ?_
      exact (r3same _ _ [(196608, 262144), (65536, 131072)] [(196608, 262144), (65536, 131072)] _ (p0) (p1)).mono fun e w' ⟨he, hB⟩ => ⟨_, he, hB, congrArg Value.bool (by decide)⟩
    · refine ob_plain [113, 118] rfl rfl fun aa g h => ?_
      obtain ⟨_, r0, rfl⟩ := seen_in rfl h.1
      have e0 := getD_of r0
      obtain ⟨_, r1, rfl⟩ := seen_in rfl h.2.1
      have e1 := getD_of r1
      exact upon_value (v := .bool true) (by simp [go_sem, e0, r0, e1, r1]) (Below.refl _ _) rfl
    · refine ob_plain [119] rfl rfl fun aa g h => ?_
      obtain ⟨_, r0, rfl⟩ := seen_in rfl h.1
      have e0 := getD_of r0
      exact upon_value (v := .bool true) (by simp [go_sem, e0, r0]) (Below.refl _ _) rfl
    · refine ob_gtrue [14] 57 true 120 rfl rfl rfl rfl (fun v w h => h) fun aa g h => ?_
      have r0 := seen_out (v := .bool true) rfl rfl h.1
      have e0 := getD_of r0
      exact upon_value (v := .bool true) (by simp [go_sem, e0, r0]) (Below.refl _ _) rfl
    · refine ob_plain [120, 121] rfl rfl fun aa g h => ?_
      obtain ⟨_, r0, rfl⟩ := seen_in rfl h.1
      have e0 := getD_of r0
      obtain ⟨_, r1, rfl⟩ := seen_in rfl h.2.1
      have e1 := getD_of r1
      exact upon_value (v := .bool true) (by simp [go_sem, e0, r0, e1, r1]) (Below.refl _ _) rfl
    · refine ob_plain [122] rfl rfl fun aa g h => ?_
      obtain ⟨_, r0, rfl⟩ := seen_in rfl h.1
      have e0 := getD_of r0
      exact upon_value (v := .bool true) (by simp [go_sem, e0, r0]) (Below.refl _ _) rfl
    · refine ob_gtrue [16] 60 true 123 rfl rfl rfl rfl (fun v w h => h) fun aa g h => ?_
      have r0 := seen_out (v := .bool false) rfl rfl h.1
      have e0 := getD_of r0
      exact upon_value (v := .bool false) (by simp [go_sem, e0, r0]) (Below.refl _ _) rfl
    · refine ob_gtrue [124] 60 true 123 rfl rfl rfl rfl (fun v w h => h) fun aa g h => ?_
      obtain ⟨_, r0, rfl⟩ := seen_in rfl h.1
      have e0 := getD_of r0
      exact upon_value (v := .bool true) (by simp [go_sem, e0, r0]) (Below.refl _ _) rfl
    · refine ob_plain [123, 125] rfl rfl fun aa g h => ?_
      obtain ⟨_, r0, rfl⟩ := seen_in rfl h.1
      have e0 := getD_of r0
      obtain ⟨_, r1, rfl⟩ := seen_in rfl h.2.1
      have e1 := getD_of r1
      exact upon_value (v := .bool true) (by simp [go_sem, e0, r0, e1, r1]) (Below.refl _ _) rfl
    · refine ob_plain [126] rfl rfl fun aa g h => ?_
      obtain ⟨_, r0, rfl⟩ := seen_in rfl h.1
      have e0 := getD_of r0
      exact upon_value (v := .bool true) (by simp [go_sem, e0, r0]) (Below.refl _ _) rfl
    · refine ob_gtrue [1] 64 true 127 rfl rfl rfl rfl (fun v w h => h) fun aa g h => ?_
      have r0 := seen_out (v := .slice (some ⟨w1.heap.size, 0, none⟩) 1 1) rfl rfl h.1
      have e0 := getD_of r0
      exact upon_value (v := .slice (some ⟨w1.heap.size, 0, none⟩) 1 1) (by simp [go_sem, e0, r0]) (Below.refl _ _) (ha.grow g.h)
    · refine ob_gtrue [2] 64 true 127 rfl rfl rfl rfl (fun v w h => h) fun aa g h => ?_
      have r0 := seen_out (v := .slice (some ⟨w2.heap.size, 0, none⟩) 1 1) rfl rfl h.1
      have e0 := getD_of r0
      exact upon_value (v := .slice (some ⟨w2.heap.size, 0, none⟩) 1 1) (by simp [go_sem, e0, r0]) (Below.refl _ _) (hb.grow g.h)
    · refine ob_gtrue [128, 129] 64 true 127 rfl rfl rfl rfl (fun v w h => h) fun aa g h => ?_
      obtain ⟨v0, r0, p0⟩ := seen_in rfl h.1
      have e0 := getD_of r0
      obtain ⟨v1, r1, p1⟩ := seen_in rfl h.2.1
      have e1 := getD_of r1
      refine upon_enter (f := 36) (args := #[v0, v1]) (by simp [go_sem, e0, r0, e1, r1]) rfl ?_
      exact (box_hull _ _ [(0, 65536)] [(196608, 327680)] _ (p0) (p1) rfl (by decide) (by decide)).mono fun e w' ⟨u, he, hu, hB⟩ => ⟨u, he, hB, hu⟩
    · refine ob_gtrue [] 64 true 127 rfl rfl rfl rfl (fun v w h => h) fun aa g h => ?_
      refine upon_enter (f := 81) (args := #[.int .i64 0, .int .i64 5]) (by simp [go_sem]) rfl ?_
      exact (span_any 0 5 _ (by decide) (by decide)).mono fun e w' ⟨he, hB⟩ => ⟨_, he, hB, rfl⟩
    · refine ob_gtrue [131] 64 true 127 rfl rfl rfl rfl (fun v w h => h) fun aa g h => ?_
      obtain ⟨_, r0, rfl⟩ := seen_in rfl h.1
      have e0 := getD_of r0
      exact upon_value (v := .slice (some ⟨g.w.heap.size, 0, none⟩) 1 1) (w1 := g.w.alloc (.cells #[.int .i64 0, .int .i64 327680] 23)) (by simp [go_sem, e0, r0]) ((Below.refl _ _).alloc (Nat.le_refl _) _) (bx_lit1 _ 0 327680)
    · refine ob_gtrue [130, 132] 64 true 127 rfl rfl rfl rfl (fun v w h => h) fun aa g h => ?_
      obtain ⟨v0, r0, p0⟩ := seen_in rfl h.1
      have e0 := getD_of r0
      obtain ⟨v1, r1, p1⟩ := seen_in rfl h.2.1
      have e1 := getD_of r1
      refine upon_enter (f := 30) (args := #[v0, v1]) (by simp [go_sem, e0, r0, e1, r1]) rfl ?_
      exact (r3same _ _ [(0, 327680)] [(0, 327680)] _ (p0) (p1)).mono fun e w' ⟨he, hB⟩ => ⟨_, he, hB, congrArg Value.bool (by decide)⟩
    · refine ob_plain [127, 133] rfl rfl fun aa g h => ?_
      obtain ⟨_, r0, rfl⟩ := seen_in rfl h.1
      have e0 := getD_of r0
      obtain ⟨_, r1, rfl⟩ := seen_in rfl h.2.1
      have e1 := getD_of r1
      exact upon_value (v := .bool true) (by simp [go_sem, e0, r0, e1, r1]) (Below.refl _ _) rfl
    · refine ob_plain [134] rfl rfl fun aa g h => ?_
      obtain ⟨_, r0, rfl⟩ := seen_in rfl h.1
      have e0 := getD_of r0
      exact upon_value (v := .bool true) (by simp [go_sem, e0, r0]) (Below.refl _ _) rfl
    · refine ob_gtrue [17] 72 true 135 rfl rfl rfl rfl (fun v w h => h) fun aa g h => ?_
      have r0 := seen_out (v := .slice pp 2 cap) rfl rfl h.1
      have e0 := getD_of r0
      exact upon_value (v := .slice pp 2 cap) (by simp [go_sem, e0, r0]) (Below.refl _ _) (hp.grow g.h)
    · refine ob_gtrue [136] 72 true 135 rfl rfl rfl rfl (fun v w h => h) fun aa g h => ?_
      obtain ⟨v0, r0, p0⟩ := seen_in rfl h.1
      have e0 := getD_of r0
      obtain ⟨_, pa, cap, hform, hp⟩ := p0
      obtain ⟨b, o, x, rfl, hx, hb, hc⟩ := Pt.at (c := 0) (n := 0) hp (k := 0) (by decide) (Below.refl _ _)
      simp at hx
      subst hx
      subst hform
      exact upon_value (v := .pointer (some ⟨b, o + 0, none⟩)) (by simp [go_sem, e0, r0]) (Below.refl _ _) ⟨b, o + 0, rfl, hb, hc⟩
    · refine ob_gtrue [137] 72 true 135 rfl rfl rfl rfl (fun v w h => h) fun aa g h => ?_
      obtain ⟨v0, r0, p0⟩ := seen_in rfl h.1
      have e0 := getD_of r0
      obtain ⟨b, o, rfl, hb, hc⟩ := p0
      exact upon_value (v := .int .i64 131072) (by simp [go_sem, e0, r0, hc]) (Below.refl _ _) rfl
    · refine ob_gtrue [138] 72 true 135 rfl rfl rfl rfl (fun v w h => h) fun aa g h => ?_
      obtain ⟨_, r0, rfl⟩ := seen_in rfl h.1
      have e0 := getD_of r0
      exact upon_value (v := .bool true) (by simp [go_sem, e0, r0]) (Below.refl _ _) rfl
    · refine ob_plain [135, 139] rfl rfl fun aa g h => ?_
      obtain ⟨_, r0, rfl⟩ := seen_in rfl h.1
      have e0 := getD_of r0
      obtain ⟨_, r1, rfl⟩ := seen_in rfl h.2.1
      have e1 := getD_of r1
      exact upon_value (v := .bool true) (by simp [go_sem, e0, r0, e1, r1]) (Below.refl _ _) rfl
    · refine ob_plain [140] rfl rfl fun aa g h => ?_
      obtain ⟨_, r0, rfl⟩ := seen_in rfl h.1
      have e0 := getD_of r0
      exact upon_value (v := .bool true) (by simp [go_sem, e0, r0]) (Below.refl _ _) rfl
    · refine ob_gtrue [17] 78 true 141 rfl rfl rfl rfl (fun v w h => h) fun aa g h => ?_
      have r0 := seen_out (v := .slice pp 2 cap) rfl rfl h.1
      have e0 := getD_of r0
      exact upon_value (v := .slice pp 2 cap) (by simp [go_sem, e0, r0]) (Below.refl _ _) (hp.grow g.h)
    · refine ob_gtrue [142] 78 true 141 rfl rfl rfl rfl (fun v w h => h) fun aa g h => ?_
      obtain ⟨v0, r0, p0⟩ := seen_in rfl h.1
      have e0 := getD_of r0
      obtain ⟨_, pa, cap, hform, hp⟩ := p0
      obtain ⟨b, o, x, rfl, hx, hb, hc⟩ := Pt.at (c := 0) (n := 0) hp (k := 1) (by decide) (Below.refl _ _)
      simp at hx
      subst hx
      subst hform
      exact upon_value (v := .pointer (some ⟨b, o + 1, none⟩)) (by simp [go_sem, e0, r0]) (Below.refl _ _) ⟨b, o + 1, rfl, hb, hc⟩
    · refine ob_gtrue [143] 78 true 141 rfl rfl rfl rfl (fun v w h => h) fun aa g h => ?_
      obtain ⟨v0, r0, p0⟩ := seen_in rfl h.1
      have e0 := getD_of r0
      obtain ⟨b, o, rfl, hb, hc⟩ := p0
      exact upon_value (v := .int .i64 327680) (by simp [go_sem, e0, r0, hc]) (Below.refl _ _) rfl
    · refine ob_gtrue [144] 78 true 141 rfl rfl rfl rfl (fun v w h => h) fun aa g h => ?_
      obtain ⟨_, r0, rfl⟩ := seen_in rfl h.1
      have e0 := getD_of r0
      exact upon_value (v := .bool true) (by simp [go_sem, e0, r0]) (Below.refl _ _) rfl
    · refine ob_plain [141, 145] rfl rfl fun aa g h => ?_
      obtain ⟨_, r0, rfl⟩ := seen_in rfl h.1
      have e0 := getD_of r0
      obtain ⟨_, r1, rfl⟩ := seen_in rfl h.2.1
      have e1 := getD_of r1
      exact upon_value (v := .bool true) (by simp [go_sem, e0, r0, e1, r1]) (Below.refl _ _) rfl
    · refine ob_plain [146] rfl rfl fun aa g h => ?_
      obtain ⟨_, r0, rfl⟩ := seen_in rfl h.1
      have e0 := getD_of r0
      exact upon_value (v := .bool true) (by simp [go_sem, e0, r0]) (Below.refl _ _) rfl
    · refine ob_gtrue [3] 84 true 147 rfl rfl rfl rfl (fun v w h => h) fun aa g h => ?_
      have r0 := seen_out (v := .slice (some ⟨w4.heap.size, 0, none⟩) 2 2) rfl rfl h.1
      have e0 := getD_of r0
      exact upon_value (v := .slice (some ⟨w4.heap.size, 0, none⟩) 2 2) (by simp [go_sem, e0, r0]) (Below.refl _ _) (hr.grow g.h)
    · refine ob_gtrue [148] 84 true 147 rfl rfl rfl rfl (fun v w h => h) fun aa g h => ?_
      obtain ⟨v0, r0, p0⟩ := seen_in rfl h.1
      have e0 := getD_of r0
      refine upon_enter (f := 50) (args := #[v0]) (by simp [go_sem, e0, r0]) rfl ?_
      exact (box_width _ [(0, 262144), (65536, 589824)] _ (p0) (by decide)).mono fun e w' ⟨he, hB⟩ => ⟨_, he, hB, congrArg (Value.int .i64) (by decide)⟩
    · refine ob_gtrue [149] 84 true 147 rfl rfl rfl rfl (fun v w h => h) fun aa g h => ?_
      obtain ⟨_, r0, rfl⟩ := seen_in rfl h.1
      have e0 := getD_of r0
      exact upon_value (v := .bool true) (by simp [go_sem, e0, r0]) (Below.refl _ _) rfl
    · refine ob_plain [147, 150] rfl rfl fun aa g h => ?_
      obtain ⟨_, r0, rfl⟩ := seen_in rfl h.1
      have e0 := getD_of r0
      obtain ⟨_, r1, rfl⟩ := seen_in rfl h.2.1
      have e1 := getD_of r1
      exact upon_value (v := .bool true) (by simp [go_sem, e0, r0, e1, r1]) (Below.refl _ _) rfl
    · refine ob_plain [151] rfl rfl fun aa g h => ?_
      obtain ⟨_, r0, rfl⟩ := seen_in rfl h.1
      have e0 := getD_of r0
      exact upon_value (v := .bool true) (by simp [go_sem, e0, r0]) (Below.refl _ _) rfl
    · refine ob_gtrue [3] 89 true 152 rfl rfl rfl rfl (fun v w h => h) fun aa g h => ?_
      have r0 := seen_out (v := .slice (some ⟨w4.heap.size, 0, none⟩) 2 2) rfl rfl h.1
      have e0 := getD_of r0
      exact upon_value (v := .slice (some ⟨w4.heap.size, 0, none⟩) 2 2) (by simp [go_sem, e0, r0]) (Below.refl _ _) (hr.grow g.h)
    · refine ob_gtrue [153] 89 true 152 rfl rfl rfl rfl (fun v w h => h) fun aa g h => ?_
      obtain ⟨v0, r0, p0⟩ := seen_in rfl h.1
      have e0 := getD_of r0
      refine upon_enter (f := 52) (args := #[v0]) (by simp [go_sem, e0, r0]) rfl ?_
      exact (box_axis _ [(0, 262144), (65536, 589824)] _ (p0) (by decide)).mono fun e w' ⟨he, hB⟩ => ⟨_, he, hB, congrArg (Value.int .i64) (by decide)⟩
    · refine ob_gtrue [154] 89 true 152 rfl rfl rfl rfl (fun v w h => h) fun aa g h => ?_
      obtain ⟨_, r0, rfl⟩ := seen_in rfl h.1
      have e0 := getD_of r0
      exact upon_value (v := .bool true) (by simp [go_sem, e0, r0]) (Below.refl _ _) rfl
    · refine ob_plain [152, 155] rfl rfl fun aa g h => ?_
      obtain ⟨_, r0, rfl⟩ := seen_in rfl h.1
      have e0 := getD_of r0
      obtain ⟨_, r1, rfl⟩ := seen_in rfl h.2.1
      have e1 := getD_of r1
      exact upon_value (v := .bool true) (by simp [go_sem, e0, r0, e1, r1]) (Below.refl _ _) rfl
    · refine ob_plain [156] rfl rfl fun aa g h => ?_
      obtain ⟨_, r0, rfl⟩ := seen_in rfl h.1
      have e0 := getD_of r0
      exact upon_value (v := .bool true) (by simp [go_sem, e0, r0]) (Below.refl _ _) rfl
    · refine ob_gtrue [1] 94 true 157 rfl rfl rfl rfl (fun v w h => h) fun aa g h => ?_
      have r0 := seen_out (v := .slice (some ⟨w1.heap.size, 0, none⟩) 1 1) rfl rfl h.1
      have e0 := getD_of r0
      exact upon_value (v := .slice (some ⟨w1.heap.size, 0, none⟩) 1 1) (by simp [go_sem, e0, r0]) (Below.refl _ _) (ha.grow g.h)
    · refine ob_gtrue [] 94 true 157 rfl rfl rfl rfl (fun v w h => h) fun aa g h => ?_
      refine upon_enter (f := 82) (args := #[]) (by simp [go_sem]) rfl ?_
      exact (lentire _).mono fun e w' ⟨he, hB⟩ => ⟨_, he, hB, rfl⟩
    · refine ob_gtrue [159] 94 true 157 rfl rfl rfl rfl (fun v w h => h) fun aa g h => ?_
      obtain ⟨_, r0, rfl⟩ := seen_in rfl h.1
      have e0 := getD_of r0
      exact upon_value (v := .slice (some ⟨g.w.heap.size, 0, none⟩) 1 1) (w1 := g.w.alloc (.cells #[.int .i64 (-2147483648), .int .i64 2147483648] 23)) (by simp [go_sem, e0, r0]) ((Below.refl _ _).alloc (Nat.le_refl _) _) (bx_lit1 _ (-2147483648) 2147483648)
    · refine ob_gtrue [158, 160] 94 true 157 rfl rfl rfl rfl (fun v w h => h) fun aa g h => ?_
      obtain ⟨v0, r0, p0⟩ := seen_in rfl h.1
      have e0 := getD_of r0
      obtain ⟨v1, r1, p1⟩ := seen_in rfl h.2.1
      have e1 := getD_of r1
      refine upon_enter (f := 33) (args := #[v0, v1]) (by simp [go_sem, e0, r0, e1, r1]) rfl ?_
      exact (box_subset _ _ [(0, 65536)] [((-2147483648), 2147483648)] _ (p0) (p1) rfl).mono fun e w' ⟨he, hB⟩ => ⟨_, he, hB, congrArg Value.bool (by decide)⟩
    · refine ob_plain [157, 161] rfl rfl fun aa g h => ?_
      obtain ⟨_, r0, rfl⟩ := seen_in rfl h.1
      have e0 := getD_of r0
      obtain ⟨_, r1, rfl⟩ := seen_in rfl h.2.1
      have e1 := getD_of r1
      exact upon_value (v := .bool true) (by simp [go_sem, e0, r0, e1, r1]) (Below.refl _ _) rfl
    · refine ob_plain [162] rfl rfl fun aa g h => ?_
      obtain ⟨_, r0, rfl⟩ := seen_in rfl h.1
      have e0 := getD_of r0
      exact upon_value (v := .bool true) (by simp [go_sem, e0, r0]) (Below.refl _ _) rfl
    · refine ob_gtrue [3] 100 true 163 rfl rfl rfl rfl (fun v w h => h) fun aa g h => ?_
      have r0 := seen_out (v := .slice (some ⟨w4.heap.size, 0, none⟩) 2 2) rfl rfl h.1
      have e0 := getD_of r0
      exact upon_value (v := .slice (some ⟨w4.heap.size, 0, none⟩) 2 2) (by simp [go_sem, e0, r0]) (Below.refl _ _) (hr.grow g.h)
    · refine ob_gtrue [] 100 true 163 rfl rfl rfl rfl (fun v w h => h) fun aa g h => ?_
      refine upon_enter (f := 81) (args := #[.int .i64 0, .int .i64 4]) (by simp [go_sem]) rfl ?_
      exact (span_any 0 4 _ (by decide) (by decide)).mono fun e w' ⟨he, hB⟩ => ⟨_, he, hB, rfl⟩
    · refine ob_gtrue [] 100 true 163 rfl rfl rfl rfl (fun v w h => h) fun aa g h => ?_
      refine upon_enter (f := 81) (args := #[.int .i64 2, .int .i64 9]) (by simp [go_sem]) rfl ?_
      exact (span_any 2 9 _ (by decide) (by decide)).mono fun e w' ⟨he, hB⟩ => ⟨_, he, hB, rfl⟩
    · refine ob_gtrue [165, 166] 100 true 163 rfl rfl rfl rfl (fun v w h => h) fun aa g h => ?_
      obtain ⟨_, r0, rfl⟩ := seen_in rfl h.1
      have e0 := getD_of r0
      obtain ⟨_, r1, rfl⟩ := seen_in rfl h.2.1
      have e1 := getD_of r1
      exact upon_value (v := .slice (some ⟨g.w.heap.size, 0, none⟩) 2 2) (w1 := g.w.alloc (.cells #[.int .i64 0, .int .i64 262144, .int .i64 131072, .int .i64 589824] 23)) (by simp [go_sem, e0, r0, e1, r1]) ((Below.refl _ _).alloc (Nat.le_refl _) _) (bx_lit2 _ 0 262144 131072 589824)
    · refine ob_gtrue [164, 167] 100 true 163 rfl rfl rfl rfl (fun v w h => h) fun aa g h => ?_
      obtain ⟨v0, r0, p0⟩ := seen_in rfl h.1
      have e0 := getD_of r0
      obtain ⟨v1, r1, p1⟩ := seen_in rfl h.2.1
      have e1 := getD_of r1
      refine upon_enter (f := 33) (args := #[v0, v1]) (by simp [go_sem, e0, r0, e1, r1]) rfl ?_
      exact (box_subset _ _ [(0, 262144), (65536, 589824)] [(0, 262144), (131072, 589824)] _ (p0) (p1) rfl).mono fun e w' ⟨he, hB⟩ => ⟨_, he, hB, congrArg Value.bool (by decide)⟩
    · refine ob_gtrue [168] 100 true 163 rfl rfl rfl rfl (fun v w h => h) fun aa g h => ?_
      obtain ⟨_, r0, rfl⟩ := seen_in rfl h.1
      have e0 := getD_of r0
      exact upon_value (v := .bool true) (by simp [go_sem, e0, r0]) (Below.refl _ _) rfl
    · refine ob_plain [163, 169] rfl rfl fun aa g h => ?_
      obtain ⟨_, r0, rfl⟩ := seen_in rfl h.1
      have e0 := getD_of r0
      obtain ⟨_, r1, rfl⟩ := seen_in rfl h.2.1
      have e1 := getD_of r1
      exact upon_value (v := .bool true) (by simp [go_sem, e0, r0, e1, r1]) (Below.refl _ _) rfl
    · refine ob_plain [170] rfl rfl fun aa g h => ?_
      obtain ⟨_, r0, rfl⟩ := seen_in rfl h.1
      have e0 := getD_of r0
      exact upon_value (v := .bool true) (by simp [go_sem, e0, r0]) (Below.refl _ _) rfl
    · refine ob_gtrue [3] 108 true 171 rfl rfl rfl rfl (fun v w h => h) fun aa g h => ?_
      have r0 := seen_out (v := .slice (some ⟨w4.heap.size, 0, none⟩) 2 2) rfl rfl h.1
      have e0 := getD_of r0
      exact upon_value (v := .slice (some ⟨w4.heap.size, 0, none⟩) 2 2) (by simp [go_sem, e0, r0]) (Below.refl _ _) (hr.grow g.h)
    · refine ob_gtrue [] 108 true 171 rfl rfl rfl rfl (fun v w h => h) fun aa g h => ?_
      exact upon_value (v := .slice (some ⟨g.w.heap.size, 0, none⟩) 2 2) (w1 := g.w.alloc (.cells #[.int .i64 0, .int .i64 65536] 2)) (by simp [go_sem]) ((Below.refl _ _).alloc (Nat.le_refl _) _) (pt_lit2 _ 0 65536)
    · refine ob_gtrue [172, 173] 108 true 171 rfl rfl rfl rfl (fun v w h => h) fun aa g h => ?_
      obtain ⟨v0, r0, p0⟩ := seen_in rfl h.1
      have e0 := getD_of r0
      obtain ⟨v1, r1, p1⟩ := seen_in rfl h.2.1
      have e1 := getD_of r1
      refine upon_enter (f := 31) (args := #[v0, v1]) (by simp [go_sem, e0, r0, e1, r1]) rfl ?_
      exact (box_contains _ _ [(0, 262144), (65536, 589824)] [0, 65536] _ (p0) (p1) rfl).mono fun e w' ⟨he, hB⟩ => ⟨_, he, hB, congrArg Value.bool (by decide)⟩
    · refine ob_plain [171, 174] rfl rfl fun aa g h => ?_
      obtain ⟨_, r0, rfl⟩ := seen_in rfl h.1
      have e0 := getD_of r0
      obtain ⟨_, r1, rfl⟩ := seen_in rfl h.2.1
      have e1 := getD_of r1
      exact upon_value (v := .bool true) (by simp [go_sem, e0, r0, e1, r1]) (Below.refl _ _) rfl
    · refine ob_plain [175] rfl rfl fun aa g h => ?_
      obtain ⟨_, r0, rfl⟩ := seen_in rfl h.1
      have e0 := getD_of r0
      exact upon_value (v := .bool true) (by simp [go_sem, e0, r0]) (Below.refl _ _) rfl
    · refine ob_gtrue [3] 113 true 176 rfl rfl rfl rfl (fun v w h => h) fun aa g h => ?_
      have r0 := seen_out (v := .slice (some ⟨w4.heap.size, 0, none⟩) 2 2) rfl rfl h.1
      have e0 := getD_of r0
      exact upon_value (v := .slice (some ⟨w4.heap.size, 0, none⟩) 2 2) (by simp [go_sem, e0, r0]) (Below.refl _ _) (hr.grow g.h)
    · refine ob_gtrue [] 113 true 176 rfl rfl rfl rfl (fun v w h => h) fun aa g h => ?_
      exact upon_value (v := .slice (some ⟨g.w.heap.size, 0, none⟩) 2 2) (w1 := g.w.alloc (.cells #[.int .i64 0, .int .i64 0] 2)) (by simp [go_sem]) ((Below.refl _ _).alloc (Nat.le_refl _) _) (pt_lit2 _ 0 0)
    · refine ob_gtrue [177, 178] 113 true 176 rfl rfl rfl rfl (fun v w h => h) fun aa g h => ?_
      obtain ⟨v0, r0, p0⟩ := seen_in rfl h.1
      have e0 := getD_of r0
      obtain ⟨v1, r1, p1⟩ := seen_in rfl h.2.1
      have e1 := getD_of r1
      refine upon_enter (f := 31) (args := #[v0, v1]) (by simp [go_sem, e0, r0, e1, r1]) rfl ?_
      exact (box_contains _ _ [(0, 262144), (65536, 589824)] [0, 0] _ (p0) (p1) rfl).mono fun e w' ⟨he, hB⟩ => ⟨_, he, hB, congrArg Value.bool (by decide)⟩
    · refine ob_gtrue [179] 113 true 176 rfl rfl rfl rfl (fun v w h => h) fun aa g h => ?_
      obtain ⟨_, r0, rfl⟩ := seen_in rfl h.1
      have e0 := getD_of r0
      exact upon_value (v := .bool true) (by simp [go_sem, e0, r0]) (Below.refl _ _) rfl
    · refine ob_plain [176, 180] rfl rfl fun aa g h => ?_
      obtain ⟨_, r0, rfl⟩ := seen_in rfl h.1
      have e0 := getD_of r0
      obtain ⟨_, r1, rfl⟩ := seen_in rfl h.2.1
      have e1 := getD_of r1
      exact upon_value (v := .bool true) (by simp [go_sem, e0, r0, e1, r1]) (Below.refl _ _) rfl
    · refine ob_plain [181] rfl rfl fun aa g h => ?_
      obtain ⟨_, r0, rfl⟩ := seen_in rfl h.1
      have e0 := getD_of r0
      exact upon_value (v := .bool true) (by simp [go_sem, e0, r0]) (Below.refl _ _) rfl
    · refine ob_gtrue [] 119 true 182 rfl rfl rfl rfl (fun v w h => h) fun aa g h => ?_
      refine upon_enter (f := 28) (args := #[.slice none 0 0]) (by simp [go_sem]) rfl ?_
      exact (box_valid _ [] _ Bx.nil).mono fun e w' ⟨he, hB⟩ => ⟨_, he, hB, congrArg Value.bool (by decide)⟩
    · refine ob_gtrue [183] 119 true 182 rfl rfl rfl rfl (fun v w h => h) fun aa g h => ?_
      obtain ⟨_, r0, rfl⟩ := seen_in rfl h.1
      have e0 := getD_of r0
      exact upon_value (v := .bool true) (by simp [go_sem, e0, r0]) (Below.refl _ _) rfl
    · refine ob_plain [182, 184] rfl rfl fun aa g h => ?_
      obtain ⟨_, r0, rfl⟩ := seen_in rfl h.1
      have e0 := getD_of r0
      obtain ⟨_, r1, rfl⟩ := seen_in rfl h.2.1
      have e1 := getD_of r1
      exact upon_value (v := .bool true) (by simp [go_sem, e0, r0, e1, r1]) (Below.refl _ _) rfl
    · refine ob_plain [185] rfl rfl fun aa g h => ?_
      obtain ⟨_, r0, rfl⟩ := seen_in rfl h.1
      have e0 := getD_of r0
      exact upon_value (v := .bool true) (by simp [go_sem, e0, r0]) (Below.refl _ _) rfl
    · refine ob_gtrue [3] 123 true 186 rfl rfl rfl rfl (fun v w h => h) fun aa g h => ?_
      have r0 := seen_out (v := .slice (some ⟨w4.heap.size, 0, none⟩) 2 2) rfl rfl h.1
      have e0 := getD_of r0
      exact upon_value (v := .slice (some ⟨w4.heap.size, 0, none⟩) 2 2) (by simp [go_sem, e0, r0]) (Below.refl _ _) (hr.grow g.h)
    · refine ob_gtrue [187] 123 true 186 rfl rfl rfl rfl (fun v w h => h) fun aa g h => ?_
      obtain ⟨v0, r0, p0⟩ := seen_in rfl h.1
      have e0 := getD_of r0
      refine upon_enter (f := 28) (args := #[v0]) (by simp [go_sem, e0, r0]) rfl ?_
      exact (box_valid _ [(0, 262144), (65536, 589824)] _ (p0)).mono fun e w' ⟨he, hB⟩ => ⟨_, he, hB, congrArg Value.bool (by decide)⟩
    · refine ob_plain [186, 188] rfl rfl fun aa g h => ?_
      obtain ⟨_, r0, rfl⟩ := seen_in rfl h.1
      have e0 := getD_of r0
      obtain ⟨_, r1, rfl⟩ := seen_in rfl h.2.1
      have e1 := getD_of r1
      exact upon_value (v := .bool true) (by simp [go_sem, e0, r0, e1, r1]) (Below.refl _ _) rfl
    · refine ob_plain [189] rfl rfl fun aa g h => ?_
      obtain ⟨_, r0, rfl⟩ := seen_in rfl h.1
      have e0 := getD_of r0
      exact upon_value (v := .bool true) (by simp [go_sem, e0, r0]) (Below.refl _ _) rfl
    · refine ob_gtrue [] 127 true 190 rfl rfl rfl rfl (fun v w h => h) fun aa g h => ?_
      exact upon_value (v := .slice (some ⟨g.w.heap.size, 0, none⟩) 1 1) (w1 := g.w.alloc (.cells #[.int .i64 7] 2)) (by simp [go_sem]) ((Below.refl _ _).alloc (Nat.le_refl _) _) (pt_lit1 _ 7)
    · refine ob_gtrue [191] 127 true 190 rfl rfl rfl rfl (fun v w h => h) fun aa g h => ?_
      obtain ⟨v0, r0, p0⟩ := seen_in rfl h.1
      have e0 := getD_of r0
      refine upon_enter (f := 44) (args := #[v0]) (by simp [go_sem, e0, r0]) rfl ?_
      exact (box_point _ [7] _ (p0) (by decide)).mono fun e w' ⟨u, he, hu, hB⟩ => ⟨u, he, hB, hu⟩
    · refine ob_gtrue [] 127 true 190 rfl rfl rfl rfl (fun v w h => h) fun aa g h => ?_
      exact upon_value (v := .agg #[.int .i64 7, .int .i64 7]) (by simp [go_sem]) (Below.refl _ _) rfl
    · refine ob_gtrue [193] 127 true 190 rfl rfl rfl rfl (fun v w h => h) fun aa g h => ?_
      obtain ⟨_, r0, rfl⟩ := seen_in rfl h.1
      have e0 := getD_of r0
      exact upon_value (v := .slice (some ⟨g.w.heap.size, 0, none⟩) 1 1) (w1 := g.w.alloc (.cells #[.int .i64 7, .int .i64 7] 23)) (by simp [go_sem, e0, r0]) ((Below.refl _ _).alloc (Nat.le_refl _) _) (bx_lit1 _ 7 7)
    · refine ob_gtrue [192, 194] 127 true 190 rfl rfl rfl rfl (fun v w h => h) fun aa g h => ?_
      obtain ⟨v0, r0, p0⟩ := seen_in rfl h.1
      have e0 := getD_of r0
      obtain ⟨v1, r1, p1⟩ := seen_in rfl h.2.1
      have e1 := getD_of r1
      refine upon_enter (f := 30) (args := #[v0, v1]) (by simp [go_sem, e0, r0, e1, r1]) rfl ?_
      exact (r3same _ _ [(7, 7)] [(7, 7)] _ (p0) (p1)).mono fun e w' ⟨he, hB⟩ => ⟨_, he, hB, congrArg Value.bool (by decide)⟩
    · refine ob_plain [190, 195] rfl rfl fun aa g h => ?_
      obtain ⟨_, r0, rfl⟩ := seen_in rfl h.1
      have e0 := getD_of r0
      obtain ⟨_, r1, rfl⟩ := seen_in rfl h.2.1
      have e1 := getD_of r1
      exact upon_value (v := .bool true) (by simp [go_sem, e0, r0, e1, r1]) (Below.refl _ _) rfl
    · refine ob_plain [196] rfl rfl fun aa g h => ?_
      obtain ⟨_, r0, rfl⟩ := seen_in rfl h.1
      have e0 := getD_of r0
      exact upon_value (v := .bool true) (by simp [go_sem, e0, r0]) (Below.refl _ _) rfl
  · intro aa w15 hB15 hdf hsz hval
    obtain ⟨u, hu, hpu⟩ := hval 0 (by decide)
    obtain rfl : u = .bool true := hpu
    rename_i K hK
    exact hK _ _ (sane_end w w15 aa hdf hu (below_then hT14 hB15))
end Go.Proofs.Ytpepgheocemjdaa
