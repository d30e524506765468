/-
  What the sanity's examples give.
  The sanity of the laws over polynomials.
-/
import Derived.Test.YtllnpamhldapdaaGreatPk5
namespace Go.Proofs.YtllnpamhldapdaaGreat
set_option linter.unusedVariables false
set_option maxRecDepth 100000
theorem se_a : mulR [(65536, [0, 0, 0, 0, 0, 0]), (65536, [1, 0, 0, 0, 0, 0])] [(65536, [0, 0, 0, 0, 0, 0]), (-65536, [1, 0, 0, 0, 0, 0])] 6 = ([(65536, [0, 0, 0, 0, 0, 0]), (-65536, [2, 0, 0, 0, 0, 0])], (0, 0)) := by decide
theorem se_b : mulR [(65536, [0, 0, 0, 0, 0, 0]), (65536, [1, 0, 0, 0, 0, 0])] [(65536, [0, 0, 0, 0, 0, 0]), (-65536, [1, 0, 0, 0, 0, 0])] 1 = ([(65536, [0, 0, 0, 0, 0, 0])], (-65536, 0)) := by decide
theorem se_c : mulR [(3, [1, 0, 0, 0, 0, 0])] (constT 32768) 6 = ([(1, [1, 0, 0, 0, 0, 0])], (-1, 1)) := by decide
theorem se_d : mulR [(1, [2, 0, 0, 0, 0, 0])] (constT 1) 6 = ([], (0, 1)) := by decide
theorem se_e1 : mergeP [(65536, [0, 0, 0, 0, 0, 0]), (65536, [1, 0, 0, 0, 0, 0])] [(65536, [0, 0, 0, 0, 0, 0]), (-65536, [1, 0, 0, 0, 0, 0])] = [(131072, [0, 0, 0, 0, 0, 0])] := by simp [mergeP, cmpE]
theorem se_e : truncP [(131072, [0, 0, 0, 0, 0, 0])] 6 (0, 0) = ([(131072, [0, 0, 0, 0, 0, 0])], (0, 0)) := by decide
theorem se_f1 : mergeP [(2147483647, [0, 1, 0, 0, 0, 0])] [(1, [0, 1, 0, 0, 0, 0])] = [(2147483648, [0, 1, 0, 0, 0, 0])] := by simp [mergeP, cmpE]
theorem se_f : truncP [(2147483648, [0, 1, 0, 0, 0, 0])] 6 (0, 0) = ([], (-2147483648, 2147483648)) := by decide
theorem se_g : truncP [(5, [0, 0, 0, 0, 0, 0]), (7, [0, 2, 0, 0, 0, 0]), (-9, [2, 0, 0, 0, 0, 0]), (4, [2, 1, 0, 0, 0, 0])] 1 (0, 0) = ([(5, [0, 0, 0, 0, 0, 0])], (-13, 11)) := by decide
theorem se_r : newR (sumR [(65536, [0, 0, 0, 0, 0, 0]), (65536, [1, 0, 0, 0, 0, 0]), (-65536, [2, 0, 0, 0, 0, 0])]) = (-65536, 131072) := by decide
theorem se_z : evalP [(-65536, 131072), (3, 4)] [(65536, [0, 1, 0, 0, 0, 0]), (65536, [2, 0, 0, 0, 0, 0])] = (3, 262148) := by
  have h2 : powX (-65536, 131072) 2 = sqI2 (-65536, 131072) := by rw [powX_even _ (by decide) (by decide), show 2 / 2 = 1 from rfl, powX_one]
  have e1 : valI [(-65536, 131072), (3, 4)] (65536, [0, 1, 0, 0, 0, 0]) 6 = mulI2 (ptI 65536) (3, 4) := by
    simp [valI, List.range_succ, varX, powX_one]
  have e2 : valI [(-65536, 131072), (3, 4)] (65536, [2, 0, 0, 0, 0, 0]) 6 = mulI2 (ptI 65536) (sqI2 (-65536, 131072)) := by
    simp [valI, List.range_succ, varX, h2]
  unfold evalP
  simp only [List.foldl_cons, List.foldl_nil, e1, e2]
  decide
end Go.Proofs.YtllnpamhldapdaaGreat

namespace Go.Proofs.YtllnpamhldapdaaGreat
open Go.ChangeShapes Go.WideShapes Go.ChangeAt Go.RowKit
set_option linter.unusedVariables false
set_option linter.unusedSimpArgs false
set_option maxRecDepth 100000
attribute [local irreducible] Calls

section
variable (p9 : Option Addr) (c9 : Nat) (p13 : Option Addr) (c13 : Nat)
def phiS : Tmp → Value → World → Prop := lk [(80, fun u _ => u = .agg #[.int .i64 (-65536), .int .u8 2, .int .u8 0, .int .u8 0, .int .u8 0, .int .u8 0, .int .u8 0]),
  (81, fun u w' => Tx w' u [(65536, [0, 0, 0, 0, 0, 0]), ((-65536), [2, 0, 0, 0, 0, 0])]),
  (82, fun u _ => u = .bool true),
  (83, fun u _ => u = .bool true),
  (84, fun u _ => u = .agg #[.int .i64 0, .int .i64 0]),
  (85, fun u _ => u = .bool true),
  (86, fun u _ => u = .bool true),
  (87, fun u _ => u = .bool true),
  (88, fun u w' => Tx w' u [(65536, [0, 0, 0, 0, 0, 0])]),
  (89, fun u _ => u = .agg #[.int .i64 65536, .int .u8 0, .int .u8 0, .int .u8 0, .int .u8 0, .int .u8 0, .int .u8 0]),
  (90, fun u w' => Tx w' u [(65536, [0, 0, 0, 0, 0, 0])]),
  (91, fun u _ => u = .bool true),
  (92, fun u _ => u = .bool true),
  (93, fun u _ => u = .bool true),
  (94, fun u _ => u = .agg #[.int .i64 (-65536), .int .i64 0]),
  (95, fun u _ => u = .bool true),
  (96, fun u _ => u = .bool true),
  (97, fun u _ => u = .bool true),
  (98, fun u w' => Tx w' u [(1, [1, 0, 0, 0, 0, 0])]),
  (99, fun u _ => u = .agg #[.int .i64 1, .int .u8 1, .int .u8 0, .int .u8 0, .int .u8 0, .int .u8 0, .int .u8 0]),
  (100, fun u w' => Tx w' u [(1, [1, 0, 0, 0, 0, 0])]),
  (101, fun u _ => u = .bool true),
  (102, fun u _ => u = .bool true),
  (103, fun u _ => u = .bool true),
  (104, fun u _ => u = .agg #[.int .i64 (-1), .int .i64 1]),
  (105, fun u _ => u = .bool true),
  (106, fun u _ => u = .bool true),
  (107, fun u _ => u = .bool true),
  (108, fun u _ => u = .slice p9 0 c9),
  (109, fun u _ => u = .int .i64 0),
  (110, fun u _ => u = .bool true),
  (111, fun u _ => u = .bool true),
  (112, fun u _ => u = .bool true),
  (113, fun u _ => u = .agg #[.int .i64 0, .int .i64 1]),
  (114, fun u _ => u = .bool true),
  (115, fun u _ => u = .bool true),
  (116, fun u _ => u = .bool true),
  (117, fun u w' => Tx w' u [(131072, [0, 0, 0, 0, 0, 0])]),
  (118, fun u _ => u = .agg #[.int .i64 131072, .int .u8 0, .int .u8 0, .int .u8 0, .int .u8 0, .int .u8 0, .int .u8 0]),
  (119, fun u w' => Tx w' u [(131072, [0, 0, 0, 0, 0, 0])]),
  (120, fun u _ => u = .bool true),
  (121, fun u _ => u = .bool true),
  (122, fun u _ => u = .bool true),
  (123, fun u _ => u = .agg #[.int .i64 0, .int .i64 0]),
  (124, fun u _ => u = .bool true),
  (125, fun u _ => u = .bool true),
  (126, fun u _ => u = .bool true),
  (127, fun u _ => u = .slice p13 0 c13),
  (128, fun u _ => u = .int .i64 0),
  (129, fun u _ => u = .bool true),
  (130, fun u _ => u = .bool true),
  (131, fun u _ => u = .bool true),
  (132, fun u _ => u = .agg #[.int .i64 (-2147483648), .int .i64 2147483648]),
  (133, fun u _ => u = .bool true),
  (134, fun u _ => u = .bool true),
  (135, fun u _ => u = .bool true),
  (136, fun u w' => Tx w' u [(5, [0, 0, 0, 0, 0, 0])]),
  (137, fun u _ => u = .agg #[.int .i64 5, .int .u8 0, .int .u8 0, .int .u8 0, .int .u8 0, .int .u8 0, .int .u8 0]),
  (138, fun u w' => Tx w' u [(5, [0, 0, 0, 0, 0, 0])]),
  (139, fun u _ => u = .bool true),
  (140, fun u _ => u = .bool true),
  (141, fun u _ => u = .bool true),
  (142, fun u _ => u = .agg #[.int .i64 (-13), .int .i64 11]),
  (143, fun u _ => u = .bool true),
  (144, fun u _ => u = .bool true),
  (145, fun u _ => u = .bool true),
  (146, fun u _ => u = .agg #[.int .i64 3, .int .i64 262148]),
  (147, fun u _ => u = .bool true),
  (148, fun u _ => u = .bool true),
  (149, fun u _ => u = .bool true),
  (150, fun u _ => u = .agg #[.int .i64 65536, .int .u8 0, .int .u8 0, .int .u8 0, .int .u8 0, .int .u8 0, .int .u8 0]),
  (151, fun u _ => u = .agg #[.int .i64 65536, .int .u8 1, .int .u8 0, .int .u8 0, .int .u8 0, .int .u8 0, .int .u8 0]),
  (152, fun u _ => u = .agg #[.int .i64 (-65536), .int .u8 2, .int .u8 0, .int .u8 0, .int .u8 0, .int .u8 0, .int .u8 0]),
  (153, fun u w' => Tx w' u [(65536, [0, 0, 0, 0, 0, 0]), (65536, [1, 0, 0, 0, 0, 0]), ((-65536), [2, 0, 0, 0, 0, 0])]),
  (154, fun u _ => u = .agg #[.int .i64 (-65536), .int .i64 131072]),
  (155, fun u _ => u = .bool true),
  (156, fun u _ => u = .bool true),
  (157, fun u _ => u = .bool true),
  (158, fun u w' => Tx w' u [(65536, [0, 1, 0, 0, 0, 0])]),
  (159, fun u _ => u = .agg #[.int .i64 65536, .int .u8 0, .int .u8 1, .int .u8 0, .int .u8 0, .int .u8 0, .int .u8 0]),
  (160, fun u w' => Tx w' u [(65536, [0, 1, 0, 0, 0, 0])]),
  (161, fun u _ => u = .bool true),
  (162, fun u _ => u = .bool true),
  (163, fun u _ => u = .bool true),
  (164, fun u w' => Tx w' u []),
  (165, fun u _ => u = .int .i64 0),
  (166, fun u _ => u = .bool true),
  (167, fun u _ => u = .bool true),
  (168, fun u _ => u = .bool true),
  (169, fun u w' => Tx w' u []),
  (170, fun u _ => u = .int .i64 0),
  (171, fun u _ => u = .bool true),
  (172, fun u _ => u = .bool true),
  (173, fun u _ => u = .bool true),
  (174, fun u _ => u = .int .i64 (-1)),
  (175, fun u _ => u = .bool true),
  (176, fun u _ => u = .bool true),
  (177, fun u _ => u = .bool true),
  (178, fun u w' => Tx w' u [(65536, [0, 0, 0, 0, 0, 0]), ((-65536), [2, 0, 0, 0, 0, 0])]),
  (179, fun u _ => u = .int .i64 2),
  (180, fun u _ => u = .bool true),
  (181, fun u _ => u = .bool true),
  (182, fun u _ => u = .bool true),
  (183, fun u w' => Tx w' u [(65536, [0, 0, 0, 0, 0, 0]), ((-65536), [2, 0, 0, 0, 0, 0])]),
  (184, fun u _ => u = .bool true),
  (185, fun u _ => u = .bool true),
  (186, fun u _ => u = .bool true),
  (187, fun u _ => u = .agg #[.int .i64 1, .int .u8 1, .int .u8 0, .int .u8 0, .int .u8 0, .int .u8 0, .int .u8 0]),
  (188, fun u _ => u = .agg #[.int .i64 1, .int .u8 0, .int .u8 1, .int .u8 0, .int .u8 0, .int .u8 0, .int .u8 0]),
  (189, fun u w' => Tx w' u [(1, [1, 0, 0, 0, 0, 0]), (1, [0, 1, 0, 0, 0, 0])]),
  (190, fun u _ => u = .bool false),
  (191, fun u _ => u = .bool true),
  (192, fun u _ => u = .bool true),
  (193, fun u _ => u = .bool true),
  (194, fun u _ => u = .agg #[.int .i64 1, .int .u8 4, .int .u8 3, .int .u8 0, .int .u8 0, .int .u8 0, .int .u8 0]),
  (195, fun u w' => Tx w' u [(1, [4, 3, 0, 0, 0, 0])]),
  (196, fun u _ => u = .bool false),
  (197, fun u _ => u = .bool true),
  (198, fun u _ => u = .bool true),
  (199, fun u _ => u = .bool true),
  (200, fun u _ => u = .agg #[.int .i64 0, .int .u8 1, .int .u8 0, .int .u8 0, .int .u8 0, .int .u8 0, .int .u8 0]),
  (201, fun u w' => Tx w' u [(0, [1, 0, 0, 0, 0, 0])]),
  (202, fun u _ => u = .bool false),
  (203, fun u _ => u = .bool true),
  (204, fun u _ => u = .bool true),
  (0, fun u _ => u = .bool true)]
theorem sane_end (w w15 : World) (aa : Act) (hdf : aa.defers = []) (hu : aa.tmps[0]? = some (.bool true)) (hT : Below w.heap.size w w15) : Code.ret.wp Tryz.prog (bodyPost Tryz.prog Tryz.f4 fun e w' => e = .returned (.bool true) ∧ Below w.heap.size w w') aa w15 :=
  wp_ret (bodyPost_ret (v := .bool true) (by simp [results, Tryz.results4, go_sem, hu]) hdf ⟨rfl, hT⟩)
theorem tv_big : ∀ t ∈ ([(2147483648, [0, 1, 0, 0, 0, 0])] : List Tm), TV t := by
  intro t ht
  simp at ht
  subst ht
  exact ⟨⟨rfl, fun x hx => by simp at hx; omega⟩, by dsimp only; omega, by dsimp only; omega⟩
theorem r2isent_yes (w : World) : Calls Tryz.prog 31 #[.agg #[.int .i64 (-2147483648), .int .i64 2147483648]] w fun e w' => e = .returned (.bool true) ∧ Below w.heap.size w w' := r2ent_yes w
theorem phiS_steady : ∀ t v w1 w2, Below w1.heap.size w1 w2 → phiS p9 c9 p13 c13 t v w1 → phiS p9 c9 p13 c13 t v w2 := lk_steady _ ⟨steady_eq _, steady_tx _, steady_eq _, steady_eq _, steady_eq _, steady_eq _, steady_eq _, steady_eq _, steady_tx _, steady_eq _, steady_tx _, steady_eq _, steady_eq _, steady_eq _, steady_eq _, steady_eq _, steady_eq _, steady_eq _, steady_tx _, steady_eq _, steady_tx _, steady_eq _, steady_eq _, steady_eq _, steady_eq _, steady_eq _, steady_eq _, steady_eq _, steady_eq _, steady_eq _, steady_eq _, steady_eq _, steady_eq _, steady_eq _, steady_eq _, steady_eq _, steady_eq _, steady_tx _, steady_eq _, steady_tx _, steady_eq _, steady_eq _, steady_eq _, steady_eq _, steady_eq _, steady_eq _, steady_eq _, steady_eq _, steady_eq _, steady_eq _, steady_eq _, steady_eq _, steady_eq _, steady_eq _, steady_eq _, steady_eq _, steady_tx _, steady_eq _, steady_tx _, steady_eq _, steady_eq _, steady_eq _, steady_eq _, steady_eq _, steady_eq _, steady_eq _, steady_eq _, steady_eq _, steady_eq _, steady_eq _, steady_eq _, steady_eq _, steady_eq _, steady_tx _, steady_eq _, steady_eq _, steady_eq _, steady_eq _, steady_tx _, steady_eq _, steady_tx _, steady_eq _, steady_eq _, steady_eq _, steady_tx _, steady_eq _, steady_eq _, steady_eq _, steady_eq _, steady_tx _, steady_eq _, steady_eq _, steady_eq _, steady_eq _, steady_eq _, steady_eq _, steady_eq _, steady_eq _, steady_tx _, steady_eq _, steady_eq _, steady_eq _, steady_eq _, steady_tx _, steady_eq _, steady_eq _, steady_eq _, steady_eq _, steady_eq _, steady_tx _, steady_eq _, steady_eq _, steady_eq _, steady_eq _, steady_eq _, steady_tx _, steady_eq _, steady_eq _, steady_eq _, steady_eq _, steady_eq _, steady_tx _, steady_eq _, steady_eq _, steady_eq _, steady_eq _, trivial⟩
end

set_option maxHeartbeats 16000000 in
theorem sanity5 (w : World) : Calls Tryz.prog 4 #[] w fun e w' => e = .returned (.bool true) ∧ Below w.heap.size w w' := by
  go_enter Tryz.func4, Tryz.ntmps4
  have hT : Below w.heap.size w w := Below.refl _ _
  go_wp2_with (fail)
  refine (t_any 65536 0 0 _).mono ?_
  rintro e w1 ⟨rfl, hB⟩
  replace hT := below_then hT hB
  clear hB
  go_wp2_with (fail)
  refine (t_any 65536 1 0 _).mono ?_
  rintro e w2 ⟨rfl, hB⟩
  replace hT := below_then hT hB
  clear hB
  have h1 : Tx (w2.alloc (.cells #[.int .i64 65536, .int .u8 0, .int .u8 0, .int .u8 0, .int .u8 0, .int .u8 0, .int .u8 0, .int .i64 65536, .int .u8 1, .int .u8 0, .int .u8 0, .int .u8 0, .int .u8 0, .int .u8 0] 50)) (.slice (some ⟨w2.heap.size, 0, none⟩) 2 2) [(65536, [0, 0, 0, 0, 0, 0]), (65536, [1, 0, 0, 0, 0, 0])] := tx_cells w2 [(65536, [0, 0, 0, 0, 0, 0]), (65536, [1, 0, 0, 0, 0, 0])] (len6_ok (by decide)) (by unfold maxLen; decide)
  have hA := (Below.refl w2.heap.size w2).alloc (Nat.le_refl _) (.cells #[.int .i64 65536, .int .u8 0, .int .u8 0, .int .u8 0, .int .u8 0, .int .u8 0, .int .u8 0, .int .i64 65536, .int .u8 1, .int .u8 0, .int .u8 0, .int .u8 0, .int .u8 0, .int .u8 0] 50)
  replace hT := below_then hT hA
  clear hA
  go_wp2_with (fail)
  refine (t_any 65536 0 0 _).mono ?_
  rintro e w3 ⟨rfl, hB⟩
  replace h1 := h1.grow hB
  replace hT := below_then hT hB
  clear hB
  go_wp2_with (fail)
  refine (t_any (-65536) 1 0 _).mono ?_
  rintro e w4 ⟨rfl, hB⟩
  replace h1 := h1.grow hB
  replace hT := below_then hT hB
  clear hB
  have h2 : Tx (w4.alloc (.cells #[.int .i64 65536, .int .u8 0, .int .u8 0, .int .u8 0, .int .u8 0, .int .u8 0, .int .u8 0, .int .i64 (-65536), .int .u8 1, .int .u8 0, .int .u8 0, .int .u8 0, .int .u8 0, .int .u8 0] 50)) (.slice (some ⟨w4.heap.size, 0, none⟩) 2 2) [(65536, [0, 0, 0, 0, 0, 0]), ((-65536), [1, 0, 0, 0, 0, 0])] := tx_cells w4 [(65536, [0, 0, 0, 0, 0, 0]), ((-65536), [1, 0, 0, 0, 0, 0])] (len6_ok (by decide)) (by unfold maxLen; decide)
  have hA := (Below.refl w4.heap.size w4).alloc (Nat.le_refl _) (.cells #[.int .i64 65536, .int .u8 0, .int .u8 0, .int .u8 0, .int .u8 0, .int .u8 0, .int .u8 0, .int .i64 (-65536), .int .u8 1, .int .u8 0, .int .u8 0, .int .u8 0, .int .u8 0, .int .u8 0] 50)
  replace h1 := h1.grow hA
  replace hT := below_then hT hA
  clear hA
  go_wp2_with (fail)
  refine (mul_ok _ _ [(65536, [0, 0, 0, 0, 0, 0]), (65536, [1, 0, 0, 0, 0, 0])] [(65536, [0, 0, 0, 0, 0, 0]), ((-65536), [1, 0, 0, 0, 0, 0])] 6 _ h1 h2 (tn_ok (by decide)) (tn_ok (by decide)) (by decide)).mono ?_
  rintro e w5 ⟨v3, he, h3, _, hB⟩
  rw [se_a] at h3
  obtain rfl : e = .returned (.tuple #[v3, .agg #[.int .i64 0, .int .i64 0]]) := he.trans (by rw [se_a])
  clear he
  dsimp only at h3
  replace h1 := h1.grow hB
  replace h2 := h2.grow hB
  replace hT := below_then hT hB
  clear hB
  have h4 : IvC (w5.alloc (.cells #[.int .i64 0, .int .i64 0] 27)) w5.heap.size (0, 0) := IvC.new _ _ _
  have hA := (Below.refl w5.heap.size w5).alloc (Nat.le_refl _) (.cells #[.int .i64 0, .int .i64 0] 27)
  replace h1 := h1.grow hA
  replace h2 := h2.grow hA
  replace h3 := h3.grow hA
  replace hT := below_then hT hA
  clear hA
  go_wp2_with (fail)
  refine (mul_ok _ _ [(65536, [0, 0, 0, 0, 0, 0]), (65536, [1, 0, 0, 0, 0, 0])] [(65536, [0, 0, 0, 0, 0, 0]), ((-65536), [1, 0, 0, 0, 0, 0])] 1 _ h1 h2 (tn_ok (by decide)) (tn_ok (by decide)) (by decide)).mono ?_
  rintro e w6 ⟨v5, he, h5, _, hB⟩
  rw [se_b] at h5
  obtain rfl : e = .returned (.tuple #[v5, .agg #[.int .i64 (-65536), .int .i64 0]]) := he.trans (by rw [se_b])
  clear he
  dsimp only at h5
  replace h1 := h1.grow hB
  replace h2 := h2.grow hB
  replace h3 := h3.grow hB
  replace h4 := h4.grow hB
  replace hT := below_then hT hB
  clear hB
  have h6 : IvC (w6.alloc (.cells #[.int .i64 (-65536), .int .i64 0] 27)) w6.heap.size ((-65536), 0) := IvC.new _ _ _
  have hA := (Below.refl w6.heap.size w6).alloc (Nat.le_refl _) (.cells #[.int .i64 (-65536), .int .i64 0] 27)
  replace h1 := h1.grow hA
  replace h2 := h2.grow hA
  replace h3 := h3.grow hA
  replace h4 := h4.grow hA
  replace h5 := h5.grow hA
  replace hT := below_then hT hA
  clear hA
  go_wp2_with (fail)
  refine (t_any 3 1 0 _).mono ?_
  rintro e w7 ⟨rfl, hB⟩
  replace h1 := h1.grow hB
  replace h2 := h2.grow hB
  replace h3 := h3.grow hB
  replace h4 := h4.grow hB
  replace h5 := h5.grow hB
  replace h6 := h6.grow hB
  replace hT := below_then hT hB
  clear hB
  have hq : Tx (w7.alloc (.cells #[.int .i64 3, .int .u8 1, .int .u8 0, .int .u8 0, .int .u8 0, .int .u8 0, .int .u8 0] 50)) (.slice (some ⟨w7.heap.size, 0, none⟩) 1 1) [(3, [1, 0, 0, 0, 0, 0])] := tx_cells w7 [(3, [1, 0, 0, 0, 0, 0])] (len6_ok (by decide)) (by unfold maxLen; decide)
  have hA := (Below.refl w7.heap.size w7).alloc (Nat.le_refl _) (.cells #[.int .i64 3, .int .u8 1, .int .u8 0, .int .u8 0, .int .u8 0, .int .u8 0, .int .u8 0] 50)
  replace h1 := h1.grow hA
  replace h2 := h2.grow hA
  replace h3 := h3.grow hA
  replace h4 := h4.grow hA
  replace h5 := h5.grow hA
  replace h6 := h6.grow hA
  replace hT := below_then hT hA
  clear hA
  go_wp2_with (fail)
  refine (scale_ok _ [(3, [1, 0, 0, 0, 0, 0])] 32768 _ hq (tn_ok (by decide)) (by unfold Num; decide) (by decide)).mono ?_
  rintro e w8 ⟨v7, he, h7, _, hB⟩
  rw [se_c] at h7
  obtain rfl : e = .returned (.tuple #[v7, .agg #[.int .i64 (-1), .int .i64 1]]) := he.trans (by rw [se_c])
  clear he
  dsimp only at h7
  replace h1 := h1.grow hB
  replace h2 := h2.grow hB
  replace h3 := h3.grow hB
  replace h4 := h4.grow hB
  replace h5 := h5.grow hB
  replace h6 := h6.grow hB
  replace hq := hq.grow hB
  replace hT := below_then hT hB
  clear hB
  clear hq
  have h8 : IvC (w8.alloc (.cells #[.int .i64 (-1), .int .i64 1] 27)) w8.heap.size ((-1), 1) := IvC.new _ _ _
  have hA := (Below.refl w8.heap.size w8).alloc (Nat.le_refl _) (.cells #[.int .i64 (-1), .int .i64 1] 27)
  replace h1 := h1.grow hA
  replace h2 := h2.grow hA
  replace h3 := h3.grow hA
  replace h4 := h4.grow hA
  replace h5 := h5.grow hA
  replace h6 := h6.grow hA
  replace h7 := h7.grow hA
  replace hT := below_then hT hA
  clear hA
  go_wp2_with (fail)
  refine (t_any 1 2 0 _).mono ?_
  rintro e w9 ⟨rfl, hB⟩
  replace h1 := h1.grow hB
  replace h2 := h2.grow hB
  replace h3 := h3.grow hB
  replace h4 := h4.grow hB
  replace h5 := h5.grow hB
  replace h6 := h6.grow hB
  replace h7 := h7.grow hB
  replace h8 := h8.grow hB
  replace hT := below_then hT hB
  clear hB
  have hq : Tx (w9.alloc (.cells #[.int .i64 1, .int .u8 2, .int .u8 0, .int .u8 0, .int .u8 0, .int .u8 0, .int .u8 0] 50)) (.slice (some ⟨w9.heap.size, 0, none⟩) 1 1) [(1, [2, 0, 0, 0, 0, 0])] := tx_cells w9 [(1, [2, 0, 0, 0, 0, 0])] (len6_ok (by decide)) (by unfold maxLen; decide)
  have hA := (Below.refl w9.heap.size w9).alloc (Nat.le_refl _) (.cells #[.int .i64 1, .int .u8 2, .int .u8 0, .int .u8 0, .int .u8 0, .int .u8 0, .int .u8 0] 50)
  replace h1 := h1.grow hA
  replace h2 := h2.grow hA
  replace h3 := h3.grow hA
  replace h4 := h4.grow hA
  replace h5 := h5.grow hA
  replace h6 := h6.grow hA
  replace h7 := h7.grow hA
  replace h8 := h8.grow hA
  replace hT := below_then hT hA
  clear hA
  go_wp2_with (fail)
  refine (scale_ok _ [(1, [2, 0, 0, 0, 0, 0])] 1 _ hq (tn_ok (by decide)) (by unfold Num; decide) (by decide)).mono ?_
  rintro e w10 ⟨v9, he, h9, _, hB⟩
  rw [se_d] at h9
  obtain rfl : e = .returned (.tuple #[v9, .agg #[.int .i64 0, .int .i64 1]]) := he.trans (by rw [se_d])
  clear he
  dsimp only at h9
  obtain ⟨p9, c9, rfl⟩ := h9.cut
  clear h9
  replace h1 := h1.grow hB
  replace h2 := h2.grow hB
  replace h3 := h3.grow hB
  replace h4 := h4.grow hB
  replace h5 := h5.grow hB
  replace h6 := h6.grow hB
  replace h7 := h7.grow hB
  replace h8 := h8.grow hB
  replace hq := hq.grow hB
  replace hT := below_then hT hB
  clear hB
  clear hq
  have h10 : IvC (w10.alloc (.cells #[.int .i64 0, .int .i64 1] 27)) w10.heap.size (0, 1) := IvC.new _ _ _
  have hA := (Below.refl w10.heap.size w10).alloc (Nat.le_refl _) (.cells #[.int .i64 0, .int .i64 1] 27)
  replace h1 := h1.grow hA
  replace h2 := h2.grow hA
  replace h3 := h3.grow hA
  replace h4 := h4.grow hA
  replace h5 := h5.grow hA
  replace h6 := h6.grow hA
  replace h7 := h7.grow hA
  replace h8 := h8.grow hA
  replace hT := below_then hT hA
  clear hA
  go_wp2_with (fail)
  refine (add_ok _ _ [(65536, [0, 0, 0, 0, 0, 0]), (65536, [1, 0, 0, 0, 0, 0])] [(65536, [0, 0, 0, 0, 0, 0]), ((-65536), [1, 0, 0, 0, 0, 0])] _ h1 h2 ⟨_, _, _, rfl, Nat.le_refl _, fun h => by cases h⟩ ⟨_, _, _, rfl, Nat.le_refl _, fun h => by cases h⟩ (ts_ok (by decide)) (ts_ok (by decide)) (by rw [se_e1]; exact tv_ok (by decide)) (by rw [se_e1]; decide) (by decide)).mono ?_
  rintro e w11 ⟨v11, he, h11, _, hB⟩
  rw [se_e1, se_e] at h11
  obtain rfl : e = .returned (.tuple #[v11, .agg #[.int .i64 0, .int .i64 0]]) := he.trans (by rw [se_e1, se_e])
  clear he
  dsimp only at h11
  replace h1 := h1.grow hB
  replace h2 := h2.grow hB
  replace h3 := h3.grow hB
  replace h4 := h4.grow hB
  replace h5 := h5.grow hB
  replace h6 := h6.grow hB
  replace h7 := h7.grow hB
  replace h8 := h8.grow hB
  replace h10 := h10.grow hB
  replace hT := below_then hT hB
  clear hB
  clear h1
  clear h2
  have h12 : IvC (w11.alloc (.cells #[.int .i64 0, .int .i64 0] 27)) w11.heap.size (0, 0) := IvC.new _ _ _
  have hA := (Below.refl w11.heap.size w11).alloc (Nat.le_refl _) (.cells #[.int .i64 0, .int .i64 0] 27)
  replace h3 := h3.grow hA
  replace h4 := h4.grow hA
  replace h5 := h5.grow hA
  replace h6 := h6.grow hA
  replace h7 := h7.grow hA
  replace h8 := h8.grow hA
  replace h10 := h10.grow hA
  replace h11 := h11.grow hA
  replace hT := below_then hT hA
  clear hA
  go_wp2_with (fail)
  refine (t_any 2147483647 0 1 _).mono ?_
  rintro e w12 ⟨rfl, hB⟩
  replace h3 := h3.grow hB
  replace h4 := h4.grow hB
  replace h5 := h5.grow hB
  replace h6 := h6.grow hB
  replace h7 := h7.grow hB
  replace h8 := h8.grow hB
  replace h10 := h10.grow hB
  replace h11 := h11.grow hB
  replace h12 := h12.grow hB
  replace hT := below_then hT hB
  clear hB
  have hq : Tx (w12.alloc (.cells #[.int .i64 2147483647, .int .u8 0, .int .u8 1, .int .u8 0, .int .u8 0, .int .u8 0, .int .u8 0] 50)) (.slice (some ⟨w12.heap.size, 0, none⟩) 1 1) [(2147483647, [0, 1, 0, 0, 0, 0])] := tx_cells w12 [(2147483647, [0, 1, 0, 0, 0, 0])] (len6_ok (by decide)) (by unfold maxLen; decide)
  have hA := (Below.refl w12.heap.size w12).alloc (Nat.le_refl _) (.cells #[.int .i64 2147483647, .int .u8 0, .int .u8 1, .int .u8 0, .int .u8 0, .int .u8 0, .int .u8 0] 50)
  replace h3 := h3.grow hA
  replace h4 := h4.grow hA
  replace h5 := h5.grow hA
  replace h6 := h6.grow hA
  replace h7 := h7.grow hA
  replace h8 := h8.grow hA
  replace h10 := h10.grow hA
  replace h11 := h11.grow hA
  replace h12 := h12.grow hA
  replace hT := below_then hT hA
  clear hA
  go_wp2_with (fail)
  refine (t_any 1 0 1 _).mono ?_
  rintro e w13 ⟨rfl, hB⟩
  replace h3 := h3.grow hB
  replace h4 := h4.grow hB
  replace h5 := h5.grow hB
  replace h6 := h6.grow hB
  replace h7 := h7.grow hB
  replace h8 := h8.grow hB
  replace h10 := h10.grow hB
  replace h11 := h11.grow hB
  replace h12 := h12.grow hB
  replace hq := hq.grow hB
  replace hT := below_then hT hB
  clear hB
  have hp : Tx (w13.alloc (.cells #[.int .i64 1, .int .u8 0, .int .u8 1, .int .u8 0, .int .u8 0, .int .u8 0, .int .u8 0] 50)) (.slice (some ⟨w13.heap.size, 0, none⟩) 1 1) [(1, [0, 1, 0, 0, 0, 0])] := tx_cells w13 [(1, [0, 1, 0, 0, 0, 0])] (len6_ok (by decide)) (by unfold maxLen; decide)
  have hA := (Below.refl w13.heap.size w13).alloc (Nat.le_refl _) (.cells #[.int .i64 1, .int .u8 0, .int .u8 1, .int .u8 0, .int .u8 0, .int .u8 0, .int .u8 0] 50)
  replace h3 := h3.grow hA
  replace h4 := h4.grow hA
  replace h5 := h5.grow hA
  replace h6 := h6.grow hA
  replace h7 := h7.grow hA
  replace h8 := h8.grow hA
  replace h10 := h10.grow hA
  replace h11 := h11.grow hA
  replace h12 := h12.grow hA
  replace hq := hq.grow hA
  replace hT := below_then hT hA
  clear hA
  go_wp2_with (fail)
  refine (add_ok _ _ [(2147483647, [0, 1, 0, 0, 0, 0])] [(1, [0, 1, 0, 0, 0, 0])] _ hq hp ⟨_, _, _, rfl, Nat.le_refl _, fun h => by cases h⟩ ⟨_, _, _, rfl, Nat.le_refl _, fun h => by cases h⟩ (ts_ok (by decide)) (ts_ok (by decide)) (by rw [se_f1]; exact tv_big) (by rw [se_f1]; decide) (by decide)).mono ?_
  rintro e w14 ⟨v13, he, h13, _, hB⟩
  rw [se_f1, se_f] at h13
  obtain rfl : e = .returned (.tuple #[v13, .agg #[.int .i64 (-2147483648), .int .i64 2147483648]]) := he.trans (by rw [se_f1, se_f])
  clear he
  dsimp only at h13
  obtain ⟨p13, c13, rfl⟩ := h13.cut
  clear h13
  replace h3 := h3.grow hB
  replace h4 := h4.grow hB
  replace h5 := h5.grow hB
  replace h6 := h6.grow hB
  replace h7 := h7.grow hB
  replace h8 := h8.grow hB
  replace h10 := h10.grow hB
  replace h11 := h11.grow hB
  replace h12 := h12.grow hB
  replace hq := hq.grow hB
  replace hp := hp.grow hB
  replace hT := below_then hT hB
  clear hB
  clear hq
  clear hp
  have h14 : IvC (w14.alloc (.cells #[.int .i64 (-2147483648), .int .i64 2147483648] 27)) w14.heap.size ((-2147483648), 2147483648) := IvC.new _ _ _
  have hA := (Below.refl w14.heap.size w14).alloc (Nat.le_refl _) (.cells #[.int .i64 (-2147483648), .int .i64 2147483648] 27)
  replace h3 := h3.grow hA
  replace h4 := h4.grow hA
  replace h5 := h5.grow hA
  replace h6 := h6.grow hA
  replace h7 := h7.grow hA
  replace h8 := h8.grow hA
  replace h10 := h10.grow hA
  replace h11 := h11.grow hA
  replace h12 := h12.grow hA
  replace hT := below_then hT hA
  clear hA
  go_wp2_with (fail)
  refine (t_any 5 0 0 _).mono ?_
  rintro e w15 ⟨rfl, hB⟩
  replace h3 := h3.grow hB
  replace h4 := h4.grow hB
  replace h5 := h5.grow hB
  replace h6 := h6.grow hB
  replace h7 := h7.grow hB
  replace h8 := h8.grow hB
  replace h10 := h10.grow hB
  replace h11 := h11.grow hB
  replace h12 := h12.grow hB
  replace h14 := h14.grow hB
  replace hT := below_then hT hB
  clear hB
  go_wp2_with (fail)
  refine (t_any 7 0 2 _).mono ?_
  rintro e w16 ⟨rfl, hB⟩
  replace h3 := h3.grow hB
  replace h4 := h4.grow hB
  replace h5 := h5.grow hB
  replace h6 := h6.grow hB
  replace h7 := h7.grow hB
  replace h8 := h8.grow hB
  replace h10 := h10.grow hB
  replace h11 := h11.grow hB
  replace h12 := h12.grow hB
  replace h14 := h14.grow hB
  replace hT := below_then hT hB
  clear hB
  go_wp2_with (fail)
  refine (t_any (-9) 2 0 _).mono ?_
  rintro e w17 ⟨rfl, hB⟩
  replace h3 := h3.grow hB
  replace h4 := h4.grow hB
  replace h5 := h5.grow hB
  replace h6 := h6.grow hB
  replace h7 := h7.grow hB
  replace h8 := h8.grow hB
  replace h10 := h10.grow hB
  replace h11 := h11.grow hB
  replace h12 := h12.grow hB
  replace h14 := h14.grow hB
  replace hT := below_then hT hB
  clear hB
  go_wp2_with (fail)
  refine (t_any 4 2 1 _).mono ?_
  rintro e w18 ⟨rfl, hB⟩
  replace h3 := h3.grow hB
  replace h4 := h4.grow hB
  replace h5 := h5.grow hB
  replace h6 := h6.grow hB
  replace h7 := h7.grow hB
  replace h8 := h8.grow hB
  replace h10 := h10.grow hB
  replace h11 := h11.grow hB
  replace h12 := h12.grow hB
  replace h14 := h14.grow hB
  replace hT := below_then hT hB
  clear hB
  have hq : Tx (w18.alloc (.cells #[.int .i64 5, .int .u8 0, .int .u8 0, .int .u8 0, .int .u8 0, .int .u8 0, .int .u8 0, .int .i64 7, .int .u8 0, .int .u8 2, .int .u8 0, .int .u8 0, .int .u8 0, .int .u8 0, .int .i64 (-9), .int .u8 2, .int .u8 0, .int .u8 0, .int .u8 0, .int .u8 0, .int .u8 0, .int .i64 4, .int .u8 2, .int .u8 1, .int .u8 0, .int .u8 0, .int .u8 0, .int .u8 0] 50)) (.slice (some ⟨w18.heap.size, 0, none⟩) 4 4) [(5, [0, 0, 0, 0, 0, 0]), (7, [0, 2, 0, 0, 0, 0]), ((-9), [2, 0, 0, 0, 0, 0]), (4, [2, 1, 0, 0, 0, 0])] := tx_cells w18 [(5, [0, 0, 0, 0, 0, 0]), (7, [0, 2, 0, 0, 0, 0]), ((-9), [2, 0, 0, 0, 0, 0]), (4, [2, 1, 0, 0, 0, 0])] (len6_ok (by decide)) (by unfold maxLen; decide)
  have hA := (Below.refl w18.heap.size w18).alloc (Nat.le_refl _) (.cells #[.int .i64 5, .int .u8 0, .int .u8 0, .int .u8 0, .int .u8 0, .int .u8 0, .int .u8 0, .int .i64 7, .int .u8 0, .int .u8 2, .int .u8 0, .int .u8 0, .int .u8 0, .int .u8 0, .int .i64 (-9), .int .u8 2, .int .u8 0, .int .u8 0, .int .u8 0, .int .u8 0, .int .u8 0, .int .i64 4, .int .u8 2, .int .u8 1, .int .u8 0, .int .u8 0, .int .u8 0, .int .u8 0] 50)
  replace h3 := h3.grow hA
  replace h4 := h4.grow hA
  replace h5 := h5.grow hA
  replace h6 := h6.grow hA
  replace h7 := h7.grow hA
  replace h8 := h8.grow hA
  replace h10 := h10.grow hA
  replace h11 := h11.grow hA
  replace h12 := h12.grow hA
  replace h14 := h14.grow hA
  replace hT := below_then hT hA
  clear hA
  go_wp2_with (fail)
  refine (truncate_ok _ [(5, [0, 0, 0, 0, 0, 0]), (7, [0, 2, 0, 0, 0, 0]), ((-9), [2, 0, 0, 0, 0, 0]), (4, [2, 1, 0, 0, 0, 0])] 1 _ hq (tv_ok (by decide)) (by decide)).mono ?_
  rintro e w19 ⟨v15, he, h15, _, hB⟩
  rw [se_g] at h15
  obtain rfl : e = .returned (.tuple #[v15, .agg #[.int .i64 (-13), .int .i64 11]]) := he.trans (by rw [se_g])
  clear he
  dsimp only at h15
  replace h3 := h3.grow hB
  replace h4 := h4.grow hB
  replace h5 := h5.grow hB
  replace h6 := h6.grow hB
  replace h7 := h7.grow hB
  replace h8 := h8.grow hB
  replace h10 := h10.grow hB
  replace h11 := h11.grow hB
  replace h12 := h12.grow hB
  replace h14 := h14.grow hB
  replace hq := hq.grow hB
  replace hT := below_then hT hB
  clear hB
  clear hq
  have h16 : IvC (w19.alloc (.cells #[.int .i64 (-13), .int .i64 11] 27)) w19.heap.size ((-13), 11) := IvC.new _ _ _
  have hA := (Below.refl w19.heap.size w19).alloc (Nat.le_refl _) (.cells #[.int .i64 (-13), .int .i64 11] 27)
  replace h3 := h3.grow hA
  replace h4 := h4.grow hA
  replace h5 := h5.grow hA
  replace h6 := h6.grow hA
  replace h7 := h7.grow hA
  replace h8 := h8.grow hA
  replace h10 := h10.grow hA
  replace h11 := h11.grow hA
  replace h12 := h12.grow hA
  replace h14 := h14.grow hA
  replace h15 := h15.grow hA
  replace hT := below_then hT hA
  clear hA
  go_wp2_with (fail)
  refine (t_any 65536 0 1 _).mono ?_
  rintro e w20 ⟨rfl, hB⟩
  replace h3 := h3.grow hB
  replace h4 := h4.grow hB
  replace h5 := h5.grow hB
  replace h6 := h6.grow hB
  replace h7 := h7.grow hB
  replace h8 := h8.grow hB
  replace h10 := h10.grow hB
  replace h11 := h11.grow hB
  replace h12 := h12.grow hB
  replace h14 := h14.grow hB
  replace h15 := h15.grow hB
  replace h16 := h16.grow hB
  replace hT := below_then hT hB
  clear hB
  go_wp2_with (fail)
  refine (t_any 65536 2 0 _).mono ?_
  rintro e w21 ⟨rfl, hB⟩
  replace h3 := h3.grow hB
  replace h4 := h4.grow hB
  replace h5 := h5.grow hB
  replace h6 := h6.grow hB
  replace h7 := h7.grow hB
  replace h8 := h8.grow hB
  replace h10 := h10.grow hB
  replace h11 := h11.grow hB
  replace h12 := h12.grow hB
  replace h14 := h14.grow hB
  replace h15 := h15.grow hB
  replace h16 := h16.grow hB
  replace hT := below_then hT hB
  clear hB
  have hq : Tx (w21.alloc (.cells #[.int .i64 65536, .int .u8 0, .int .u8 1, .int .u8 0, .int .u8 0, .int .u8 0, .int .u8 0, .int .i64 65536, .int .u8 2, .int .u8 0, .int .u8 0, .int .u8 0, .int .u8 0, .int .u8 0] 50)) (.slice (some ⟨w21.heap.size, 0, none⟩) 2 2) [(65536, [0, 1, 0, 0, 0, 0]), (65536, [2, 0, 0, 0, 0, 0])] := tx_cells w21 [(65536, [0, 1, 0, 0, 0, 0]), (65536, [2, 0, 0, 0, 0, 0])] (len6_ok (by decide)) (by unfold maxLen; decide)
  have hA := (Below.refl w21.heap.size w21).alloc (Nat.le_refl _) (.cells #[.int .i64 65536, .int .u8 0, .int .u8 1, .int .u8 0, .int .u8 0, .int .u8 0, .int .u8 0, .int .i64 65536, .int .u8 2, .int .u8 0, .int .u8 0, .int .u8 0, .int .u8 0, .int .u8 0] 50)
  replace h3 := h3.grow hA
  replace h4 := h4.grow hA
  replace h5 := h5.grow hA
  replace h6 := h6.grow hA
  replace h7 := h7.grow hA
  replace h8 := h8.grow hA
  replace h10 := h10.grow hA
  replace h11 := h11.grow hA
  replace h12 := h12.grow hA
  replace h14 := h14.grow hA
  replace h15 := h15.grow hA
  replace h16 := h16.grow hA
  replace hT := below_then hT hA
  clear hA
  have hp : Bx ((w21.alloc (.cells #[.int .i64 65536, .int .u8 0, .int .u8 1, .int .u8 0, .int .u8 0, .int .u8 0, .int .u8 0, .int .i64 65536, .int .u8 2, .int .u8 0, .int .u8 0, .int .u8 0, .int .u8 0, .int .u8 0] 50)).alloc (.cells #[.int .i64 (-65536), .int .i64 131072, .int .i64 3, .int .i64 4] 27)) (.slice (some ⟨(w21.alloc (.cells #[.int .i64 65536, .int .u8 0, .int .u8 1, .int .u8 0, .int .u8 0, .int .u8 0, .int .u8 0, .int .i64 65536, .int .u8 2, .int .u8 0, .int .u8 0, .int .u8 0, .int .u8 0, .int .u8 0] 50)).heap.size, 0, none⟩) 2 2) [(-65536, 131072), (3, 4)] := bx_lit2 _ _ _ _ _
  have hA := (Below.refl (w21.alloc (.cells #[.int .i64 65536, .int .u8 0, .int .u8 1, .int .u8 0, .int .u8 0, .int .u8 0, .int .u8 0, .int .i64 65536, .int .u8 2, .int .u8 0, .int .u8 0, .int .u8 0, .int .u8 0, .int .u8 0] 50)).heap.size (w21.alloc (.cells #[.int .i64 65536, .int .u8 0, .int .u8 1, .int .u8 0, .int .u8 0, .int .u8 0, .int .u8 0, .int .i64 65536, .int .u8 2, .int .u8 0, .int .u8 0, .int .u8 0, .int .u8 0, .int .u8 0] 50))).alloc (Nat.le_refl _) (.cells #[.int .i64 (-65536), .int .i64 131072, .int .i64 3, .int .i64 4] 27)
  replace h3 := h3.grow hA
  replace h4 := h4.grow hA
  replace h5 := h5.grow hA
  replace h6 := h6.grow hA
  replace h7 := h7.grow hA
  replace h8 := h8.grow hA
  replace h10 := h10.grow hA
  replace h11 := h11.grow hA
  replace h12 := h12.grow hA
  replace h14 := h14.grow hA
  replace h15 := h15.grow hA
  replace h16 := h16.grow hA
  replace hq := hq.grow hA
  replace hT := below_then hT hA
  clear hA
  simp only [World.size_alloc] at hp
  go_wp2_with (fail)
  refine (eval_ok _ _ [(65536, [0, 1, 0, 0, 0, 0]), (65536, [2, 0, 0, 0, 0, 0])] [(-65536, 131072), (3, 4)] _ hq hp (tv_ok (by decide)) (by intro p hp; simp at hp; rcases hp with rfl | rfl <;> exact .inr (by unfold Num; decide)) (by decide)).mono ?_
  rintro e w22 ⟨he, hB⟩
  obtain rfl : e = .returned (.agg #[.int .i64 3, .int .i64 262148]) := he.trans (by rw [se_z])
  clear he
  replace h3 := h3.grow hB
  replace h4 := h4.grow hB
  replace h5 := h5.grow hB
  replace h6 := h6.grow hB
  replace h7 := h7.grow hB
  replace h8 := h8.grow hB
  replace h10 := h10.grow hB
  replace h11 := h11.grow hB
  replace h12 := h12.grow hB
  replace h14 := h14.grow hB
  replace h15 := h15.grow hB
  replace h16 := h16.grow hB
  replace hq := hq.grow hB
  replace hp := hp.grow hB
  replace hT := below_then hT hB
  clear hB
  clear hq
  clear hp
  have h17 : IvC (w22.alloc (.cells #[.int .i64 3, .int .i64 262148] 27)) w22.heap.size (3, 262148) := IvC.new _ _ _
  have hA := (Below.refl w22.heap.size w22).alloc (Nat.le_refl _) (.cells #[.int .i64 3, .int .i64 262148] 27)
  replace h3 := h3.grow hA
  replace h4 := h4.grow hA
  replace h5 := h5.grow hA
  replace h6 := h6.grow hA
  replace h7 := h7.grow hA
  replace h8 := h8.grow hA
  replace h10 := h10.grow hA
  replace h11 := h11.grow hA
  replace h12 := h12.grow hA
  replace h14 := h14.grow hA
  replace h15 := h15.grow hA
  replace h16 := h16.grow hA
  replace hT := below_then hT hA
  clear hA
  go_wp2_with (fail)
  refine (t_any 65536 0 0 _).mono ?_
  rintro e w23 ⟨rfl, hB⟩
  replace h3 := h3.grow hB
  replace h4 := h4.grow hB
  replace h5 := h5.grow hB
  replace h6 := h6.grow hB
  replace h7 := h7.grow hB
  replace h8 := h8.grow hB
  replace h10 := h10.grow hB
  replace h11 := h11.grow hB
  replace h12 := h12.grow hB
  replace h14 := h14.grow hB
  replace h15 := h15.grow hB
  replace h16 := h16.grow hB
  replace h17 := h17.grow hB
  replace hT := below_then hT hB
  clear hB
  rename_i K hK
  refine hK _ _ ?_
  clear hK K
  refine list_pred (phiS p9 c9 p13 c13) (by as_aux_lemma => kernel_rfl) (phiS_steady p9 c9 p13 c13) ?_ ?_
  · have c4 := fun g : Grown w23 => (h4.grow g.h).c0
    have d4 := fun g : Grown w23 => (h4.grow g.h).c1
    dsimp only at c4 d4
    have c6 := fun g : Grown w23 => (h6.grow g.h).c0
    have d6 := fun g : Grown w23 => (h6.grow g.h).c1
    dsimp only at c6 d6
    have c8 := fun g : Grown w23 => (h8.grow g.h).c0
    have d8 := fun g : Grown w23 => (h8.grow g.h).c1
    dsimp only at c8 d8
    have c10 := fun g : Grown w23 => (h10.grow g.h).c0
    have d10 := fun g : Grown w23 => (h10.grow g.h).c1
    dsimp only at c10 d10
    have c12 := fun g : Grown w23 => (h12.grow g.h).c0
    have d12 := fun g : Grown w23 => (h12.grow g.h).c1
    dsimp only at c12 d12
    have c14 := fun g : Grown w23 => (h14.grow g.h).c0
    have d14 := fun g : Grown w23 => (h14.grow g.h).c1
    dsimp only at c14 d14
    have c16 := fun g : Grown w23 => (h16.grow g.h).c0
    have d16 := fun g : Grown w23 => (h16.grow g.h).c1
    dsimp only at c16 d16
    have c17 := fun g : Grown w23 => (h17.grow g.h).c0
    have d17 := fun g : Grown w23 => (h17.grow g.h).c1
    dsimp only at c17 d17
    refine ⟨?_, ?_, ?_, ?_, ?_, ?_, ?_, ?_, ?_, ?_, ?_, ?_, ?_, ?_, ?_, ?_, ?_, ?_, ?_, ?_, ?_, ?_, ?_, ?_, ?_, ?_, ?_, ?_, ?_, ?_, ?_, ?_, ?_, ?_, ?_, ?_, ?_, ?_, ?_, ?_, ?_, ?_, ?_, ?_, ?_, ?_, ?_, ?_, ?_, ?_, ?_, ?_, ?_, ?_, ?_, ?_, ?_, ?_, ?_, ?_, ?_, ?_, ?_, ?_, ?_, ?_, ?_, ?_, ?_, ?_, ?_, ?_, ?_, ?_, ?_, ?_, ?_, ?_, ?_, ?_, ?_, ?_, ?_, ?_, ?_, ?_, ?_, ?_, ?_, ?_, ?_, ?_, ?_, ?_, ?_, ?_, ?_, ?_, ?_, ?_, ?_, ?_, ?_, ?_, ?_, ?_, ?_, ?_, ?_, ?_, ?_, ?_, ?_, ?_, ?_, ?_, ?_, ?_, ?_, ?_, ?_, ?_, ?_, ?_, ?_, ?_, trivial⟩
    · refine ob_plain [] rfl rfl fun aa g h => ?_
      refine upon_enter (f := 29) (args := #[.int .i64 (-65536), .int .u8 2, .int .u8 0]) (by simp [go_sem]) rfl ?_
      exact (t_any (-65536) 2 0 _).mono fun e w' ⟨he, hB⟩ => ⟨_, he, hB, rfl⟩
    · refine ob_plain [79, 80] rfl rfl fun aa g h => ?_
      have r0 := seen_out (v := .agg #[.int .i64 65536, .int .u8 0, .int .u8 0, .int .u8 0, .int .u8 0, .int .u8 0, .int .u8 0]) rfl rfl h.1
      have e0 := getD_of r0
      obtain ⟨_, r1, rfl⟩ := seen_in rfl h.2.1
      have e1 := getD_of r1
      exact upon_value (v := .slice (some ⟨g.w.heap.size, 0, none⟩) 2 2) (w1 := g.w.alloc (.cells #[.int .i64 65536, .int .u8 0, .int .u8 0, .int .u8 0, .int .u8 0, .int .u8 0, .int .u8 0, .int .i64 (-65536), .int .u8 2, .int .u8 0, .int .u8 0, .int .u8 0, .int .u8 0, .int .u8 0] 50)) (by simp [go_sem, e0, r0, e1, r1]) ((Below.refl _ _).alloc (Nat.le_refl _) _) (tx_cells g.w [(65536, [0, 0, 0, 0, 0, 0]), ((-65536), [2, 0, 0, 0, 0, 0])] (len6_ok (by decide)) (by unfold maxLen; decide))
    · refine ob_plain [78, 81] rfl rfl fun aa g h => ?_
      have r0 := seen_out (v := v3) rfl rfl h.1
      have e0 := getD_of r0
      obtain ⟨v1, r1, p1⟩ := seen_in rfl h.2.1
      have e1 := getD_of r1
      refine upon_enter (f := 17) (args := #[v3, v1]) (by simp [go_sem, e0, r0, e1, r1]) rfl ?_
      exact (r5same _ _ [(65536, [0, 0, 0, 0, 0, 0]), ((-65536), [2, 0, 0, 0, 0, 0])] [(65536, [0, 0, 0, 0, 0, 0]), ((-65536), [2, 0, 0, 0, 0, 0])] _ (h3.grow g.h) (p1) (tv_ok (by decide)) (tv_ok (by decide))).mono fun e w' ⟨he, hB⟩ => ⟨_, he, hB, congrArg Value.bool (by decide)⟩
    · refine ob_plain [82] rfl rfl fun aa g h => ?_
      obtain ⟨_, r0, rfl⟩ := seen_in rfl h.1
      have e0 := getD_of r0
      exact upon_value (v := .bool true) (by simp [go_sem, e0, r0]) (Below.refl _ _) rfl
    · refine ob_gtrue [4] 5 true 83 rfl rfl rfl rfl (fun v w h => h) fun aa g h => ?_
      have r0 := seen_out (v := .pointer (some ⟨w5.heap.size, 0, none⟩)) rfl rfl h.1
      have e0 := getD_of r0
      exact upon_value (v := .agg #[.int .i64 0, .int .i64 0]) (by simp [go_sem, e0, r0, c4 g, d4 g]) (Below.refl _ _) rfl
    · refine ob_gtrue [84] 5 true 83 rfl rfl rfl rfl (fun v w h => h) fun aa g h => ?_
      obtain ⟨_, r0, rfl⟩ := seen_in rfl h.1
      have e0 := getD_of r0
      refine upon_enter (f := 30) (args := #[.agg #[.int .i64 0, .int .i64 0], .int .i64 0, .int .i64 0]) (by simp [go_sem, e0, r0]) rfl ?_
      exact (equals_ok 0 0 0 0 _).mono fun e w' ⟨he, hB⟩ => ⟨_, he, hB, congrArg Value.bool (by decide)⟩
    · refine ob_plain [83, 85] rfl rfl fun aa g h => ?_
      obtain ⟨_, r0, rfl⟩ := seen_in rfl h.1
      have e0 := getD_of r0
      obtain ⟨_, r1, rfl⟩ := seen_in rfl h.2.1
      have e1 := getD_of r1
      exact upon_value (v := .bool true) (by simp [go_sem, e0, r0, e1, r1]) (Below.refl _ _) rfl
    · refine ob_plain [86] rfl rfl fun aa g h => ?_
      obtain ⟨_, r0, rfl⟩ := seen_in rfl h.1
      have e0 := getD_of r0
      exact upon_value (v := .bool true) (by simp [go_sem, e0, r0]) (Below.refl _ _) rfl
    · refine ob_gtrue [5] 9 true 87 rfl rfl rfl rfl (fun v w h => h) fun aa g h => ?_
      have r0 := seen_out (v := v5) rfl rfl h.1
      have e0 := getD_of r0
      exact upon_value (v := v5) (by simp [go_sem, e0, r0]) (Below.refl _ _) (h5.grow g.h)
    · refine ob_gtrue [] 9 true 87 rfl rfl rfl rfl (fun v w h => h) fun aa g h => ?_
      refine upon_enter (f := 29) (args := #[.int .i64 65536, .int .u8 0, .int .u8 0]) (by simp [go_sem]) rfl ?_
      exact (t_any 65536 0 0 _).mono fun e w' ⟨he, hB⟩ => ⟨_, he, hB, rfl⟩
    · refine ob_gtrue [89] 9 true 87 rfl rfl rfl rfl (fun v w h => h) fun aa g h => ?_
      obtain ⟨_, r0, rfl⟩ := seen_in rfl h.1
      have e0 := getD_of r0
      exact upon_value (v := .slice (some ⟨g.w.heap.size, 0, none⟩) 1 1) (w1 := g.w.alloc (.cells #[.int .i64 65536, .int .u8 0, .int .u8 0, .int .u8 0, .int .u8 0, .int .u8 0, .int .u8 0] 50)) (by simp [go_sem, e0, r0]) ((Below.refl _ _).alloc (Nat.le_refl _) _) (tx_cells g.w [(65536, [0, 0, 0, 0, 0, 0])] (len6_ok (by decide)) (by unfold maxLen; decide))
    · refine ob_gtrue [88, 90] 9 true 87 rfl rfl rfl rfl (fun v w h => h) fun aa g h => ?_
      obtain ⟨v0, r0, p0⟩ := seen_in rfl h.1
      have e0 := getD_of r0
      obtain ⟨v1, r1, p1⟩ := seen_in rfl h.2.1
      have e1 := getD_of r1
      refine upon_enter (f := 17) (args := #[v0, v1]) (by simp [go_sem, e0, r0, e1, r1]) rfl ?_
      exact (r5same _ _ [(65536, [0, 0, 0, 0, 0, 0])] [(65536, [0, 0, 0, 0, 0, 0])] _ (p0) (p1) (tv_ok (by decide)) (tv_ok (by decide))).mono fun e w' ⟨he, hB⟩ => ⟨_, he, hB, congrArg Value.bool (by decide)⟩
    · refine ob_plain [87, 91] rfl rfl fun aa g h => ?_
      obtain ⟨_, r0, rfl⟩ := seen_in rfl h.1
      have e0 := getD_of r0
      obtain ⟨_, r1, rfl⟩ := seen_in rfl h.2.1
      have e1 := getD_of r1
      exact upon_value (v := .bool true) (by simp [go_sem, e0, r0, e1, r1]) (Below.refl _ _) rfl
    · refine ob_plain [92] rfl rfl fun aa g h => ?_
      obtain ⟨_, r0, rfl⟩ := seen_in rfl h.1
      have e0 := getD_of r0
      exact upon_value (v := .bool true) (by simp [go_sem, e0, r0]) (Below.refl _ _) rfl
    · refine ob_gtrue [6] 15 true 93 rfl rfl rfl rfl (fun v w h => h) fun aa g h => ?_
      have r0 := seen_out (v := .pointer (some ⟨w6.heap.size, 0, none⟩)) rfl rfl h.1
      have e0 := getD_of r0
      exact upon_value (v := .agg #[.int .i64 (-65536), .int .i64 0]) (by simp [go_sem, e0, r0, c6 g, d6 g]) (Below.refl _ _) rfl
    · refine ob_gtrue [94] 15 true 93 rfl rfl rfl rfl (fun v w h => h) fun aa g h => ?_
      obtain ⟨_, r0, rfl⟩ := seen_in rfl h.1
      have e0 := getD_of r0
      refine upon_enter (f := 30) (args := #[.agg #[.int .i64 (-65536), .int .i64 0], .int .i64 (-65536), .int .i64 0]) (by simp [go_sem, e0, r0]) rfl ?_
      exact (equals_ok (-65536) 0 (-65536) 0 _).mono fun e w' ⟨he, hB⟩ => ⟨_, he, hB, congrArg Value.bool (by decide)⟩
    · refine ob_plain [93, 95] rfl rfl fun aa g h => ?_
      obtain ⟨_, r0, rfl⟩ := seen_in rfl h.1
      have e0 := getD_of r0
      obtain ⟨_, r1, rfl⟩ := seen_in rfl h.2.1
      have e1 := getD_of r1
      exact upon_value (v := .bool true) (by simp [go_sem, e0, r0, e1, r1]) (Below.refl _ _) rfl
    · refine ob_plain [96] rfl rfl fun aa g h => ?_
      obtain ⟨_, r0, rfl⟩ := seen_in rfl h.1
      have e0 := getD_of r0
      exact upon_value (v := .bool true) (by simp [go_sem, e0, r0]) (Below.refl _ _) rfl
    · refine ob_gtrue [7] 19 true 97 rfl rfl rfl rfl (fun v w h => h) fun aa g h => ?_
      have r0 := seen_out (v := v7) rfl rfl h.1
      have e0 := getD_of r0
      exact upon_value (v := v7) (by simp [go_sem, e0, r0]) (Below.refl _ _) (h7.grow g.h)
    · refine ob_gtrue [] 19 true 97 rfl rfl rfl rfl (fun v w h => h) fun aa g h => ?_
      refine upon_enter (f := 29) (args := #[.int .i64 1, .int .u8 1, .int .u8 0]) (by simp [go_sem]) rfl ?_
      exact (t_any 1 1 0 _).mono fun e w' ⟨he, hB⟩ => ⟨_, he, hB, rfl⟩
    · refine ob_gtrue [99] 19 true 97 rfl rfl rfl rfl (fun v w h => h) fun aa g h => ?_
      obtain ⟨_, r0, rfl⟩ := seen_in rfl h.1
      have e0 := getD_of r0
      exact upon_value (v := .slice (some ⟨g.w.heap.size, 0, none⟩) 1 1) (w1 := g.w.alloc (.cells #[.int .i64 1, .int .u8 1, .int .u8 0, .int .u8 0, .int .u8 0, .int .u8 0, .int .u8 0] 50)) (by simp [go_sem, e0, r0]) ((Below.refl _ _).alloc (Nat.le_refl _) _) (tx_cells g.w [(1, [1, 0, 0, 0, 0, 0])] (len6_ok (by decide)) (by unfold maxLen; decide))
    · refine ob_gtrue [98, 100] 19 true 97 rfl rfl rfl rfl (fun v w h => h) fun aa g h => ?_
      obtain ⟨v0, r0, p0⟩ := seen_in rfl h.1
      have e0 := getD_of r0
      obtain ⟨v1, r1, p1⟩ := seen_in rfl h.2.1
      have e1 := getD_of r1
      refine upon_enter (f := 17) (args := #[v0, v1]) (by simp [go_sem, e0, r0, e1, r1]) rfl ?_
      exact (r5same _ _ [(1, [1, 0, 0, 0, 0, 0])] [(1, [1, 0, 0, 0, 0, 0])] _ (p0) (p1) (tv_ok (by decide)) (tv_ok (by decide))).mono fun e w' ⟨he, hB⟩ => ⟨_, he, hB, congrArg Value.bool (by decide)⟩
    · refine ob_plain [97, 101] rfl rfl fun aa g h => ?_
      obtain ⟨_, r0, rfl⟩ := seen_in rfl h.1
      have e0 := getD_of r0
      obtain ⟨_, r1, rfl⟩ := seen_in rfl h.2.1
      have e1 := getD_of r1
      exact upon_value (v := .bool true) (by simp [go_sem, e0, r0, e1, r1]) (Below.refl _ _) rfl
    · refine ob_plain [102] rfl rfl fun aa g h => ?_
      obtain ⟨_, r0, rfl⟩ := seen_in rfl h.1
      have e0 := getD_of r0
      exact upon_value (v := .bool true) (by simp [go_sem, e0, r0]) (Below.refl _ _) rfl
    · refine ob_gtrue [8] 25 true 103 rfl rfl rfl rfl (fun v w h => h) fun aa g h => ?_
      have r0 := seen_out (v := .pointer (some ⟨w8.heap.size, 0, none⟩)) rfl rfl h.1
      have e0 := getD_of r0
      exact upon_value (v := .agg #[.int .i64 (-1), .int .i64 1]) (by simp [go_sem, e0, r0, c8 g, d8 g]) (Below.refl _ _) rfl
    · refine ob_gtrue [104] 25 true 103 rfl rfl rfl rfl (fun v w h => h) fun aa g h => ?_
      obtain ⟨_, r0, rfl⟩ := seen_in rfl h.1
      have e0 := getD_of r0
      refine upon_enter (f := 30) (args := #[.agg #[.int .i64 (-1), .int .i64 1], .int .i64 (-1), .int .i64 1]) (by simp [go_sem, e0, r0]) rfl ?_
      exact (equals_ok (-1) 1 (-1) 1 _).mono fun e w' ⟨he, hB⟩ => ⟨_, he, hB, congrArg Value.bool (by decide)⟩
    · refine ob_plain [103, 105] rfl rfl fun aa g h => ?_
      obtain ⟨_, r0, rfl⟩ := seen_in rfl h.1
      have e0 := getD_of r0
      obtain ⟨_, r1, rfl⟩ := seen_in rfl h.2.1
      have e1 := getD_of r1
      exact upon_value (v := .bool true) (by simp [go_sem, e0, r0, e1, r1]) (Below.refl _ _) rfl
    · refine ob_plain [106] rfl rfl fun aa g h => ?_
      obtain ⟨_, r0, rfl⟩ := seen_in rfl h.1
      have e0 := getD_of r0
      exact upon_value (v := .bool true) (by simp [go_sem, e0, r0]) (Below.refl _ _) rfl
    · refine ob_gtrue [9] 29 true 107 rfl rfl rfl rfl (fun v w h => h) fun aa g h => ?_
      have r0 := seen_out (v := .slice p9 0 c9) rfl rfl h.1
      have e0 := getD_of r0
      exact upon_value (v := .slice p9 0 c9) (by simp [go_sem, e0, r0]) (Below.refl _ _) rfl
    · refine ob_gtrue [108] 29 true 107 rfl rfl rfl rfl (fun v w h => h) fun aa g h => ?_
      obtain ⟨_, r0, rfl⟩ := seen_in rfl h.1
      have e0 := getD_of r0
      exact upon_value (v := .int .i64 0) (by simp [go_sem, e0, r0]) (Below.refl _ _) rfl
    · refine ob_gtrue [109] 29 true 107 rfl rfl rfl rfl (fun v w h => h) fun aa g h => ?_
      obtain ⟨_, r0, rfl⟩ := seen_in rfl h.1
      have e0 := getD_of r0
      exact upon_value (v := .bool true) (by simp [go_sem, e0, r0]) (Below.refl _ _) rfl
    · refine ob_plain [107, 110] rfl rfl fun aa g h => ?_
      obtain ⟨_, r0, rfl⟩ := seen_in rfl h.1
      have e0 := getD_of r0
      obtain ⟨_, r1, rfl⟩ := seen_in rfl h.2.1
      have e1 := getD_of r1
      exact upon_value (v := .bool true) (by simp [go_sem, e0, r0, e1, r1]) (Below.refl _ _) rfl
    · refine ob_plain [111] rfl rfl fun aa g h => ?_
      obtain ⟨_, r0, rfl⟩ := seen_in rfl h.1
      have e0 := getD_of r0
      exact upon_value (v := .bool true) (by simp [go_sem, e0, r0]) (Below.refl _ _) rfl
    · refine ob_gtrue [10] 34 true 112 rfl rfl rfl rfl (fun v w h => h) fun aa g h => ?_
      have r0 := seen_out (v := .pointer (some ⟨w10.heap.size, 0, none⟩)) rfl rfl h.1
      have e0 := getD_of r0
      exact upon_value (v := .agg #[.int .i64 0, .int .i64 1]) (by simp [go_sem, e0, r0, c10 g, d10 g]) (Below.refl _ _) rfl
    · refine ob_gtrue [113] 34 true 112 rfl rfl rfl rfl (fun v w h => h) fun aa g h => ?_
      obtain ⟨_, r0, rfl⟩ := seen_in rfl h.1
      have e0 := getD_of r0
      refine upon_enter (f := 30) (args := #[.agg #[.int .i64 0, .int .i64 1], .int .i64 0, .int .i64 1]) (by simp [go_sem, e0, r0]) rfl ?_
      exact (equals_ok 0 1 0 1 _).mono fun e w' ⟨he, hB⟩ => ⟨_, he, hB, congrArg Value.bool (by decide)⟩
    · refine ob_plain [112, 114] rfl rfl fun aa g h => ?_
      obtain ⟨_, r0, rfl⟩ := seen_in rfl h.1
      have e0 := getD_of r0
      obtain ⟨_, r1, rfl⟩ := seen_in rfl h.2.1
      have e1 := getD_of r1
      exact upon_value (v := .bool true) (by simp [go_sem, e0, r0, e1, r1]) (Below.refl _ _) rfl
    · refine ob_plain [115] rfl rfl fun aa g h => ?_
      obtain ⟨_, r0, rfl⟩ := seen_in rfl h.1
      have e0 := getD_of r0
      exact upon_value (v := .bool true) (by simp [go_sem, e0, r0]) (Below.refl _ _) rfl
    · refine ob_gtrue [11] 38 true 116 rfl rfl rfl rfl (fun v w h => h) fun aa g h => ?_
      have r0 := seen_out (v := v11) rfl rfl h.1
      have e0 := getD_of r0
      exact upon_value (v := v11) (by simp [go_sem, e0, r0]) (Below.refl _ _) (h11.grow g.h)
    · refine ob_gtrue [] 38 true 116 rfl rfl rfl rfl (fun v w h => h) fun aa g h => ?_
      refine upon_enter (f := 29) (args := #[.int .i64 131072, .int .u8 0, .int .u8 0]) (by simp [go_sem]) rfl ?_
      exact (t_any 131072 0 0 _).mono fun e w' ⟨he, hB⟩ => ⟨_, he, hB, rfl⟩
    · refine ob_gtrue [118] 38 true 116 rfl rfl rfl rfl (fun v w h => h) fun aa g h => ?_
      obtain ⟨_, r0, rfl⟩ := seen_in rfl h.1
      have e0 := getD_of r0
      exact upon_value (v := .slice (some ⟨g.w.heap.size, 0, none⟩) 1 1) (w1 := g.w.alloc (.cells #[.int .i64 131072, .int .u8 0, .int .u8 0, .int .u8 0, .int .u8 0, .int .u8 0, .int .u8 0] 50)) (by simp [go_sem, e0, r0]) ((Below.refl _ _).alloc (Nat.le_refl _) _) (tx_cells g.w [(131072, [0, 0, 0, 0, 0, 0])] (len6_ok (by decide)) (by unfold maxLen; decide))
    · refine ob_gtrue [117, 119] 38 true 116 rfl rfl rfl rfl (fun v w h => h) fun aa g h => ?_
      obtain ⟨v0, r0, p0⟩ := seen_in rfl h.1
      have e0 := getD_of r0
      obtain ⟨v1, r1, p1⟩ := seen_in rfl h.2.1
      have e1 := getD_of r1
      refine upon_enter (f := 17) (args := #[v0, v1]) (by simp [go_sem, e0, r0, e1, r1]) rfl ?_
      exact (r5same _ _ [(131072, [0, 0, 0, 0, 0, 0])] [(131072, [0, 0, 0, 0, 0, 0])] _ (p0) (p1) (tv_ok (by decide)) (tv_ok (by decide))).mono fun e w' ⟨he, hB⟩ => ⟨_, he, hB, congrArg Value.bool (by decide)⟩
    · refine ob_plain [116, 120] rfl rfl fun aa g h => ?_
      obtain ⟨_, r0, rfl⟩ := seen_in rfl h.1
      have e0 := getD_of r0
      obtain ⟨_, r1, rfl⟩ := seen_in rfl h.2.1
      have e1 := getD_of r1
      exact upon_value (v := .bool true) (by simp [go_sem, e0, r0, e1, r1]) (Below.refl _ _) rfl
    · refine ob_plain [121] rfl rfl fun aa g h => ?_
      obtain ⟨_, r0, rfl⟩ := seen_in rfl h.1
      have e0 := getD_of r0
      exact upon_value (v := .bool true) (by simp [go_sem, e0, r0]) (Below.refl _ _) rfl
    · refine ob_gtrue [12] 44 true 122 rfl rfl rfl rfl (fun v w h => h) fun aa g h => ?_
      have r0 := seen_out (v := .pointer (some ⟨w11.heap.size, 0, none⟩)) rfl rfl h.1
      have e0 := getD_of r0
      exact upon_value (v := .agg #[.int .i64 0, .int .i64 0]) (by simp [go_sem, e0, r0, c12 g, d12 g]) (Below.refl _ _) rfl
    · refine ob_gtrue [123] 44 true 122 rfl rfl rfl rfl (fun v w h => h) fun aa g h => ?_
      obtain ⟨_, r0, rfl⟩ := seen_in rfl h.1
      have e0 := getD_of r0
      refine upon_enter (f := 30) (args := #[.agg #[.int .i64 0, .int .i64 0], .int .i64 0, .int .i64 0]) (by simp [go_sem, e0, r0]) rfl ?_
      exact (equals_ok 0 0 0 0 _).mono fun e w' ⟨he, hB⟩ => ⟨_, he, hB, congrArg Value.bool (by decide)⟩
    · refine ob_plain [122, 124] rfl rfl fun aa g h => ?_
      obtain ⟨_, r0, rfl⟩ := seen_in rfl h.1
      have e0 := getD_of r0
      obtain ⟨_, r1, rfl⟩ := seen_in rfl h.2.1
      have e1 := getD_of r1
      exact upon_value (v := .bool true) (by simp [go_sem, e0, r0, e1, r1]) (Below.refl _ _) rfl
    · refine ob_plain [125] rfl rfl fun aa g h => ?_
      obtain ⟨_, r0, rfl⟩ := seen_in rfl h.1
      have e0 := getD_of r0
      exact upon_value (v := .bool true) (by simp [go_sem, e0, r0]) (Below.refl _ _) rfl
    · refine ob_gtrue [13] 48 true 126 rfl rfl rfl rfl (fun v w h => h) fun aa g h => ?_
      have r0 := seen_out (v := .slice p13 0 c13) rfl rfl h.1
      have e0 := getD_of r0
      exact upon_value (v := .slice p13 0 c13) (by simp [go_sem, e0, r0]) (Below.refl _ _) rfl
    · refine ob_gtrue [127] 48 true 126 rfl rfl rfl rfl (fun v w h => h) fun aa g h => ?_
      obtain ⟨_, r0, rfl⟩ := seen_in rfl h.1
      have e0 := getD_of r0
      exact upon_value (v := .int .i64 0) (by simp [go_sem, e0, r0]) (Below.refl _ _) rfl
    · refine ob_gtrue [128] 48 true 126 rfl rfl rfl rfl (fun v w h => h) fun aa g h => ?_
      obtain ⟨_, r0, rfl⟩ := seen_in rfl h.1
      have e0 := getD_of r0
      exact upon_value (v := .bool true) (by simp [go_sem, e0, r0]) (Below.refl _ _) rfl
    · refine ob_plain [126, 129] rfl rfl fun aa g h => ?_
      obtain ⟨_, r0, rfl⟩ := seen_in rfl h.1
      have e0 := getD_of r0
      obtain ⟨_, r1, rfl⟩ := seen_in rfl h.2.1
      have e1 := getD_of r1
      exact upon_value (v := .bool true) (by simp [go_sem, e0, r0, e1, r1]) (Below.refl _ _) rfl
    · refine ob_plain [130] rfl rfl fun aa g h => ?_
      obtain ⟨_, r0, rfl⟩ := seen_in rfl h.1
      have e0 := getD_of r0
      exact upon_value (v := .bool true) (by simp [go_sem, e0, r0]) (Below.refl _ _) rfl
    · refine ob_gtrue [14] 53 true 131 rfl rfl rfl rfl (fun v w h => h) fun aa g h => ?_
      have r0 := seen_out (v := .pointer (some ⟨w14.heap.size, 0, none⟩)) rfl rfl h.1
      have e0 := getD_of r0
      exact upon_value (v := .agg #[.int .i64 (-2147483648), .int .i64 2147483648]) (by simp [go_sem, e0, r0, c14 g, d14 g]) (Below.refl _ _) rfl
    · refine ob_gtrue [132] 53 true 131 rfl rfl rfl rfl (fun v w h => h) fun aa g h => ?_
      obtain ⟨_, r0, rfl⟩ := seen_in rfl h.1
      have e0 := getD_of r0
      refine upon_enter (f := 31) (args := #[.agg #[.int .i64 (-2147483648), .int .i64 2147483648]]) (by simp [go_sem, e0, r0]) rfl ?_
      exact (r2isent_yes _).mono fun e w' ⟨he, hB⟩ => ⟨_, he, hB, rfl⟩
    · refine ob_plain [131, 133] rfl rfl fun aa g h => ?_
      obtain ⟨_, r0, rfl⟩ := seen_in rfl h.1
      have e0 := getD_of r0
      obtain ⟨_, r1, rfl⟩ := seen_in rfl h.2.1
      have e1 := getD_of r1
      exact upon_value (v := .bool true) (by simp [go_sem, e0, r0, e1, r1]) (Below.refl _ _) rfl
    · refine ob_plain [134] rfl rfl fun aa g h => ?_
      obtain ⟨_, r0, rfl⟩ := seen_in rfl h.1
      have e0 := getD_of r0
      exact upon_value (v := .bool true) (by simp [go_sem, e0, r0]) (Below.refl _ _) rfl
    · refine ob_gtrue [15] 57 true 135 rfl rfl rfl rfl (fun v w h => h) fun aa g h => ?_
      have r0 := seen_out (v := v15) rfl rfl h.1
      have e0 := getD_of r0
      exact upon_value (v := v15) (by simp [go_sem, e0, r0]) (Below.refl _ _) (h15.grow g.h)
    · refine ob_gtrue [] 57 true 135 rfl rfl rfl rfl (fun v w h => h) fun aa g h => ?_
      refine upon_enter (f := 29) (args := #[.int .i64 5, .int .u8 0, .int .u8 0]) (by simp [go_sem]) rfl ?_
      exact (t_any 5 0 0 _).mono fun e w' ⟨he, hB⟩ => ⟨_, he, hB, rfl⟩
    · refine ob_gtrue [137] 57 true 135 rfl rfl rfl rfl (fun v w h => h) fun aa g h => ?_
      obtain ⟨_, r0, rfl⟩ := seen_in rfl h.1
      have e0 := getD_of r0
      exact upon_value (v := .slice (some ⟨g.w.heap.size, 0, none⟩) 1 1) (w1 := g.w.alloc (.cells #[.int .i64 5, .int .u8 0, .int .u8 0, .int .u8 0, .int .u8 0, .int .u8 0, .int .u8 0] 50)) (by simp [go_sem, e0, r0]) ((Below.refl _ _).alloc (Nat.le_refl _) _) (tx_cells g.w [(5, [0, 0, 0, 0, 0, 0])] (len6_ok (by decide)) (by unfold maxLen; decide))
    · refine ob_gtrue [136, 138] 57 true 135 rfl rfl rfl rfl (fun v w h => h) fun aa g h => ?_
      obtain ⟨v0, r0, p0⟩ := seen_in rfl h.1
      have e0 := getD_of r0
      obtain ⟨v1, r1, p1⟩ := seen_in rfl h.2.1
      have e1 := getD_of r1
      refine upon_enter (f := 17) (args := #[v0, v1]) (by simp [go_sem, e0, r0, e1, r1]) rfl ?_
      exact (r5same _ _ [(5, [0, 0, 0, 0, 0, 0])] [(5, [0, 0, 0, 0, 0, 0])] _ (p0) (p1) (tv_ok (by decide)) (tv_ok (by decide))).mono fun e w' ⟨he, hB⟩ => ⟨_, he, hB, congrArg Value.bool (by decide)⟩
    · refine ob_plain [135, 139] rfl rfl fun aa g h => ?_
      obtain ⟨_, r0, rfl⟩ := seen_in rfl h.1
      have e0 := getD_of r0
      obtain ⟨_, r1, rfl⟩ := seen_in rfl h.2.1
      have e1 := getD_of r1
      exact upon_value (v := .bool true) (by simp [go_sem, e0, r0, e1, r1]) (Below.refl _ _) rfl
    · refine ob_plain [140] rfl rfl fun aa g h => ?_
      obtain ⟨_, r0, rfl⟩ := seen_in rfl h.1
      have e0 := getD_of r0
      exact upon_value (v := .bool true) (by simp [go_sem, e0, r0]) (Below.refl _ _) rfl
    · refine ob_gtrue [16] 63 true 141 rfl rfl rfl rfl (fun v w h => h) fun aa g h => ?_
      have r0 := seen_out (v := .pointer (some ⟨w19.heap.size, 0, none⟩)) rfl rfl h.1
      have e0 := getD_of r0
      exact upon_value (v := .agg #[.int .i64 (-13), .int .i64 11]) (by simp [go_sem, e0, r0, c16 g, d16 g]) (Below.refl _ _) rfl
    · refine ob_gtrue [142] 63 true 141 rfl rfl rfl rfl (fun v w h => h) fun aa g h => ?_
      obtain ⟨_, r0, rfl⟩ := seen_in rfl h.1
      have e0 := getD_of r0
      refine upon_enter (f := 30) (args := #[.agg #[.int .i64 (-13), .int .i64 11], .int .i64 (-13), .int .i64 11]) (by simp [go_sem, e0, r0]) rfl ?_
      exact (equals_ok (-13) 11 (-13) 11 _).mono fun e w' ⟨he, hB⟩ => ⟨_, he, hB, congrArg Value.bool (by decide)⟩
    · refine ob_plain [141, 143] rfl rfl fun aa g h => ?_
      obtain ⟨_, r0, rfl⟩ := seen_in rfl h.1
      have e0 := getD_of r0
      obtain ⟨_, r1, rfl⟩ := seen_in rfl h.2.1
      have e1 := getD_of r1
      exact upon_value (v := .bool true) (by simp [go_sem, e0, r0, e1, r1]) (Below.refl _ _) rfl
    · refine ob_plain [144] rfl rfl fun aa g h => ?_
      obtain ⟨_, r0, rfl⟩ := seen_in rfl h.1
      have e0 := getD_of r0
      exact upon_value (v := .bool true) (by simp [go_sem, e0, r0]) (Below.refl _ _) rfl
    · refine ob_gtrue [17] 67 true 145 rfl rfl rfl rfl (fun v w h => h) fun aa g h => ?_
      have r0 := seen_out (v := .pointer (some ⟨w22.heap.size, 0, none⟩)) rfl rfl h.1
      have e0 := getD_of r0
      exact upon_value (v := .agg #[.int .i64 3, .int .i64 262148]) (by simp [go_sem, e0, r0, c17 g, d17 g]) (Below.refl _ _) rfl
    · refine ob_gtrue [146] 67 true 145 rfl rfl rfl rfl (fun v w h => h) fun aa g h => ?_
      obtain ⟨_, r0, rfl⟩ := seen_in rfl h.1
      have e0 := getD_of r0
      refine upon_enter (f := 30) (args := #[.agg #[.int .i64 3, .int .i64 262148], .int .i64 3, .int .i64 262148]) (by simp [go_sem, e0, r0]) rfl ?_
      exact (equals_ok 3 262148 3 262148 _).mono fun e w' ⟨he, hB⟩ => ⟨_, he, hB, congrArg Value.bool (by decide)⟩
    · refine ob_plain [145, 147] rfl rfl fun aa g h => ?_
      obtain ⟨_, r0, rfl⟩ := seen_in rfl h.1
      have e0 := getD_of r0
      obtain ⟨_, r1, rfl⟩ := seen_in rfl h.2.1
      have e1 := getD_of r1
      exact upon_value (v := .bool true) (by simp [go_sem, e0, r0, e1, r1]) (Below.refl _ _) rfl
    · refine ob_plain [148] rfl rfl fun aa g h => ?_
      obtain ⟨_, r0, rfl⟩ := seen_in rfl h.1
      have e0 := getD_of r0
      exact upon_value (v := .bool true) (by simp [go_sem, e0, r0]) (Below.refl _ _) rfl
    · refine ob_gtrue [] 71 true 149 rfl rfl rfl rfl (fun v w h => h) fun aa g h => ?_
      refine upon_enter (f := 29) (args := #[.int .i64 65536, .int .u8 0, .int .u8 0]) (by simp [go_sem]) rfl ?_
      exact (t_any 65536 0 0 _).mono fun e w' ⟨he, hB⟩ => ⟨_, he, hB, rfl⟩
    · refine ob_gtrue [] 71 true 149 rfl rfl rfl rfl (fun v w h => h) fun aa g h => ?_
      refine upon_enter (f := 29) (args := #[.int .i64 65536, .int .u8 1, .int .u8 0]) (by simp [go_sem]) rfl ?_
      exact (t_any 65536 1 0 _).mono fun e w' ⟨he, hB⟩ => ⟨_, he, hB, rfl⟩
    · refine ob_gtrue [] 71 true 149 rfl rfl rfl rfl (fun v w h => h) fun aa g h => ?_
      refine upon_enter (f := 29) (args := #[.int .i64 (-65536), .int .u8 2, .int .u8 0]) (by simp [go_sem]) rfl ?_
      exact (t_any (-65536) 2 0 _).mono fun e w' ⟨he, hB⟩ => ⟨_, he, hB, rfl⟩
    · refine ob_gtrue [150, 151, 152] 71 true 149 rfl rfl rfl rfl (fun v w h => h) fun aa g h => ?_
      obtain ⟨_, r0, rfl⟩ := seen_in rfl h.1
      have e0 := getD_of r0
      obtain ⟨_, r1, rfl⟩ := seen_in rfl h.2.1
      have e1 := getD_of r1
      obtain ⟨_, r2, rfl⟩ := seen_in rfl h.2.2.1
      have e2 := getD_of r2
      exact upon_value (v := .slice (some ⟨g.w.heap.size, 0, none⟩) 3 3) (w1 := g.w.alloc (.cells #[.int .i64 65536, .int .u8 0, .int .u8 0, .int .u8 0, .int .u8 0, .int .u8 0, .int .u8 0, .int .i64 65536, .int .u8 1, .int .u8 0, .int .u8 0, .int .u8 0, .int .u8 0, .int .u8 0, .int .i64 (-65536), .int .u8 2, .int .u8 0, .int .u8 0, .int .u8 0, .int .u8 0, .int .u8 0] 50)) (by simp [go_sem, e0, r0, e1, r1, e2, r2]) ((Below.refl _ _).alloc (Nat.le_refl _) _) (tx_cells g.w [(65536, [0, 0, 0, 0, 0, 0]), (65536, [1, 0, 0, 0, 0, 0]), ((-65536), [2, 0, 0, 0, 0, 0])] (len6_ok (by decide)) (by unfold maxLen; decide))
    · refine ob_gtrue [153] 71 true 149 rfl rfl rfl rfl (fun v w h => h) fun aa g h => ?_
      obtain ⟨v0, r0, p0⟩ := seen_in rfl h.1
      have e0 := getD_of r0
      refine upon_enter (f := 19) (args := #[v0]) (by simp [go_sem, e0, r0]) rfl ?_
      exact (range_ok _ [(65536, [0, 0, 0, 0, 0, 0]), (65536, [1, 0, 0, 0, 0, 0]), ((-65536), [2, 0, 0, 0, 0, 0])] _ (p0) (tn_ok (by decide)) (by decide)).mono fun e w' ⟨he, hB⟩ => ⟨_, he, hB, by rw [se_r]; rfl⟩
    · refine ob_gtrue [154] 71 true 149 rfl rfl rfl rfl (fun v w h => h) fun aa g h => ?_
      obtain ⟨_, r0, rfl⟩ := seen_in rfl h.1
      have e0 := getD_of r0
      refine upon_enter (f := 30) (args := #[.agg #[.int .i64 (-65536), .int .i64 131072], .int .i64 (-65536), .int .i64 131072]) (by simp [go_sem, e0, r0]) rfl ?_
      exact (equals_ok (-65536) 131072 (-65536) 131072 _).mono fun e w' ⟨he, hB⟩ => ⟨_, he, hB, congrArg Value.bool (by decide)⟩
    · refine ob_plain [149, 155] rfl rfl fun aa g h => ?_
      obtain ⟨_, r0, rfl⟩ := seen_in rfl h.1
      have e0 := getD_of r0
      obtain ⟨_, r1, rfl⟩ := seen_in rfl h.2.1
      have e1 := getD_of r1
      exact upon_value (v := .bool true) (by simp [go_sem, e0, r0, e1, r1]) (Below.refl _ _) rfl
    · refine ob_plain [156] rfl rfl fun aa g h => ?_
      obtain ⟨_, r0, rfl⟩ := seen_in rfl h.1
      have e0 := getD_of r0
      exact upon_value (v := .bool true) (by simp [go_sem, e0, r0]) (Below.refl _ _) rfl
    · refine ob_gtrue [] 79 true 157 rfl rfl rfl rfl (fun v w h => h) fun aa g h => ?_
      refine upon_enter (f := 27) (args := #[.int .i64 1]) (by simp [go_sem]) rfl ?_
      exact (var_ok 1 _).mono fun e w' ⟨u, he, hu, hB⟩ => ⟨u, he, hB, hu⟩
    · refine ob_gtrue [] 79 true 157 rfl rfl rfl rfl (fun v w h => h) fun aa g h => ?_
      refine upon_enter (f := 29) (args := #[.int .i64 65536, .int .u8 0, .int .u8 1]) (by simp [go_sem]) rfl ?_
      exact (t_any 65536 0 1 _).mono fun e w' ⟨he, hB⟩ => ⟨_, he, hB, rfl⟩
    · refine ob_gtrue [159] 79 true 157 rfl rfl rfl rfl (fun v w h => h) fun aa g h => ?_
      obtain ⟨_, r0, rfl⟩ := seen_in rfl h.1
      have e0 := getD_of r0
      exact upon_value (v := .slice (some ⟨g.w.heap.size, 0, none⟩) 1 1) (w1 := g.w.alloc (.cells #[.int .i64 65536, .int .u8 0, .int .u8 1, .int .u8 0, .int .u8 0, .int .u8 0, .int .u8 0] 50)) (by simp [go_sem, e0, r0]) ((Below.refl _ _).alloc (Nat.le_refl _) _) (tx_cells g.w [(65536, [0, 1, 0, 0, 0, 0])] (len6_ok (by decide)) (by unfold maxLen; decide))
    · refine ob_gtrue [158, 160] 79 true 157 rfl rfl rfl rfl (fun v w h => h) fun aa g h => ?_
      obtain ⟨v0, r0, p0⟩ := seen_in rfl h.1
      have e0 := getD_of r0
      obtain ⟨v1, r1, p1⟩ := seen_in rfl h.2.1
      have e1 := getD_of r1
      refine upon_enter (f := 17) (args := #[v0, v1]) (by simp [go_sem, e0, r0, e1, r1]) rfl ?_
      exact (r5same _ _ [(65536, [0, 1, 0, 0, 0, 0])] [(65536, [0, 1, 0, 0, 0, 0])] _ (p0) (p1) (tv_ok (by decide)) (tv_ok (by decide))).mono fun e w' ⟨he, hB⟩ => ⟨_, he, hB, congrArg Value.bool (by decide)⟩
    · refine ob_plain [157, 161] rfl rfl fun aa g h => ?_
      obtain ⟨_, r0, rfl⟩ := seen_in rfl h.1
      have e0 := getD_of r0
      obtain ⟨_, r1, rfl⟩ := seen_in rfl h.2.1
      have e1 := getD_of r1
      exact upon_value (v := .bool true) (by simp [go_sem, e0, r0, e1, r1]) (Below.refl _ _) rfl
    · refine ob_plain [162] rfl rfl fun aa g h => ?_
      obtain ⟨_, r0, rfl⟩ := seen_in rfl h.1
      have e0 := getD_of r0
      exact upon_value (v := .bool true) (by simp [go_sem, e0, r0]) (Below.refl _ _) rfl
    · refine ob_gtrue [] 85 true 163 rfl rfl rfl rfl (fun v w h => h) fun aa g h => ?_
      refine upon_enter (f := 27) (args := #[.int .i64 6]) (by simp [go_sem]) rfl ?_
      exact (var_ok 6 _).mono fun e w' ⟨u, he, hu, hB⟩ => ⟨u, he, hB, hu⟩
    · refine ob_gtrue [164] 85 true 163 rfl rfl rfl rfl (fun v w h => h) fun aa g h => ?_
      obtain ⟨v0, r0, p0⟩ := seen_in rfl h.1
      have e0 := getD_of r0
      obtain ⟨pq, cq, rfl⟩ := p0.cut
      exact upon_value (v := .int .i64 0) (by simp [go_sem, e0, r0]) (Below.refl _ _) rfl
    · refine ob_gtrue [165] 85 true 163 rfl rfl rfl rfl (fun v w h => h) fun aa g h => ?_
      obtain ⟨_, r0, rfl⟩ := seen_in rfl h.1
      have e0 := getD_of r0
      exact upon_value (v := .bool true) (by simp [go_sem, e0, r0]) (Below.refl _ _) rfl
    · refine ob_plain [163, 166] rfl rfl fun aa g h => ?_
      obtain ⟨_, r0, rfl⟩ := seen_in rfl h.1
      have e0 := getD_of r0
      obtain ⟨_, r1, rfl⟩ := seen_in rfl h.2.1
      have e1 := getD_of r1
      exact upon_value (v := .bool true) (by simp [go_sem, e0, r0, e1, r1]) (Below.refl _ _) rfl
    · refine ob_plain [167] rfl rfl fun aa g h => ?_
      obtain ⟨_, r0, rfl⟩ := seen_in rfl h.1
      have e0 := getD_of r0
      exact upon_value (v := .bool true) (by simp [go_sem, e0, r0]) (Below.refl _ _) rfl
    · refine ob_gtrue [] 90 true 168 rfl rfl rfl rfl (fun v w h => h) fun aa g h => ?_
      refine upon_enter (f := 25) (args := #[.int .i64 0]) (by simp [go_sem]) rfl ?_
      exact (const_ok 0 _).mono fun e w' ⟨u, he, hu, hB⟩ => ⟨u, he, hB, hu⟩
    · refine ob_gtrue [169] 90 true 168 rfl rfl rfl rfl (fun v w h => h) fun aa g h => ?_
      obtain ⟨v0, r0, p0⟩ := seen_in rfl h.1
      have e0 := getD_of r0
      obtain ⟨pq, cq, rfl⟩ := p0.cut
      exact upon_value (v := .int .i64 0) (by simp [go_sem, e0, r0]) (Below.refl _ _) rfl
    · refine ob_gtrue [170] 90 true 168 rfl rfl rfl rfl (fun v w h => h) fun aa g h => ?_
      obtain ⟨_, r0, rfl⟩ := seen_in rfl h.1
      have e0 := getD_of r0
      exact upon_value (v := .bool true) (by simp [go_sem, e0, r0]) (Below.refl _ _) rfl
    · refine ob_plain [168, 171] rfl rfl fun aa g h => ?_
      obtain ⟨_, r0, rfl⟩ := seen_in rfl h.1
      have e0 := getD_of r0
      obtain ⟨_, r1, rfl⟩ := seen_in rfl h.2.1
      have e1 := getD_of r1
      exact upon_value (v := .bool true) (by simp [go_sem, e0, r0, e1, r1]) (Below.refl _ _) rfl
    · refine ob_plain [172] rfl rfl fun aa g h => ?_
      obtain ⟨_, r0, rfl⟩ := seen_in rfl h.1
      have e0 := getD_of r0
      exact upon_value (v := .bool true) (by simp [go_sem, e0, r0]) (Below.refl _ _) rfl
    · refine ob_gtrue [] 95 true 173 rfl rfl rfl rfl (fun v w h => h) fun aa g h => ?_
      refine upon_enter (f := 23) (args := #[.slice none 0 0]) (by simp [go_sem]) rfl ?_
      exact (pdeg_ok _ [] _ (Tx.nil _ _ _) (fun t h => by simp at h)).mono fun e w' ⟨he, hB⟩ => ⟨_, he, hB, rfl⟩
    · refine ob_gtrue [174] 95 true 173 rfl rfl rfl rfl (fun v w h => h) fun aa g h => ?_
      obtain ⟨_, r0, rfl⟩ := seen_in rfl h.1
      have e0 := getD_of r0
      exact upon_value (v := .bool true) (by simp [go_sem, e0, r0]) (Below.refl _ _) rfl
    · refine ob_plain [173, 175] rfl rfl fun aa g h => ?_
      obtain ⟨_, r0, rfl⟩ := seen_in rfl h.1
      have e0 := getD_of r0
      obtain ⟨_, r1, rfl⟩ := seen_in rfl h.2.1
      have e1 := getD_of r1
      exact upon_value (v := .bool true) (by simp [go_sem, e0, r0, e1, r1]) (Below.refl _ _) rfl
    · refine ob_plain [176] rfl rfl fun aa g h => ?_
      obtain ⟨_, r0, rfl⟩ := seen_in rfl h.1
      have e0 := getD_of r0
      exact upon_value (v := .bool true) (by simp [go_sem, e0, r0]) (Below.refl _ _) rfl
    · refine ob_gtrue [3] 99 true 177 rfl rfl rfl rfl (fun v w h => h) fun aa g h => ?_
      have r0 := seen_out (v := v3) rfl rfl h.1
      have e0 := getD_of r0
      exact upon_value (v := v3) (by simp [go_sem, e0, r0]) (Below.refl _ _) (h3.grow g.h)
    · refine ob_gtrue [178] 99 true 177 rfl rfl rfl rfl (fun v w h => h) fun aa g h => ?_
      obtain ⟨v0, r0, p0⟩ := seen_in rfl h.1
      have e0 := getD_of r0
      refine upon_enter (f := 23) (args := #[v0]) (by simp [go_sem, e0, r0]) rfl ?_
      exact (pdeg_ok _ [(65536, [0, 0, 0, 0, 0, 0]), ((-65536), [2, 0, 0, 0, 0, 0])] _ (p0) (tv_ok (by decide))).mono fun e w' ⟨he, hB⟩ => ⟨_, he, hB, congrArg (Value.int .i64) (by decide)⟩
    · refine ob_gtrue [179] 99 true 177 rfl rfl rfl rfl (fun v w h => h) fun aa g h => ?_
      obtain ⟨_, r0, rfl⟩ := seen_in rfl h.1
      have e0 := getD_of r0
      exact upon_value (v := .bool true) (by simp [go_sem, e0, r0]) (Below.refl _ _) rfl
    · refine ob_plain [177, 180] rfl rfl fun aa g h => ?_
      obtain ⟨_, r0, rfl⟩ := seen_in rfl h.1
      have e0 := getD_of r0
      obtain ⟨_, r1, rfl⟩ := seen_in rfl h.2.1
      have e1 := getD_of r1
      exact upon_value (v := .bool true) (by simp [go_sem, e0, r0, e1, r1]) (Below.refl _ _) rfl
    · refine ob_plain [181] rfl rfl fun aa g h => ?_
      obtain ⟨_, r0, rfl⟩ := seen_in rfl h.1
      have e0 := getD_of r0
      exact upon_value (v := .bool true) (by simp [go_sem, e0, r0]) (Below.refl _ _) rfl
    · refine ob_gtrue [3] 104 true 182 rfl rfl rfl rfl (fun v w h => h) fun aa g h => ?_
      have r0 := seen_out (v := v3) rfl rfl h.1
      have e0 := getD_of r0
      exact upon_value (v := v3) (by simp [go_sem, e0, r0]) (Below.refl _ _) (h3.grow g.h)
    · refine ob_gtrue [183] 104 true 182 rfl rfl rfl rfl (fun v w h => h) fun aa g h => ?_
      obtain ⟨v0, r0, p0⟩ := seen_in rfl h.1
      have e0 := getD_of r0
      refine upon_enter (f := 5) (args := #[v0]) (by simp [go_sem, e0, r0]) rfl ?_
      exact (pvalid_b _ [(65536, [0, 0, 0, 0, 0, 0]), ((-65536), [2, 0, 0, 0, 0, 0])] _ (p0) (tv_ok (by decide))).mono fun e w' ⟨he, hB⟩ => ⟨_, he, hB, congrArg Value.bool (by decide)⟩
    · refine ob_plain [182, 184] rfl rfl fun aa g h => ?_
      obtain ⟨_, r0, rfl⟩ := seen_in rfl h.1
      have e0 := getD_of r0
      obtain ⟨_, r1, rfl⟩ := seen_in rfl h.2.1
      have e1 := getD_of r1
      exact upon_value (v := .bool true) (by simp [go_sem, e0, r0, e1, r1]) (Below.refl _ _) rfl
    · refine ob_plain [185] rfl rfl fun aa g h => ?_
      obtain ⟨_, r0, rfl⟩ := seen_in rfl h.1
      have e0 := getD_of r0
      exact upon_value (v := .bool true) (by simp [go_sem, e0, r0]) (Below.refl _ _) rfl
    · refine ob_gtrue [] 108 true 186 rfl rfl rfl rfl (fun v w h => h) fun aa g h => ?_
      refine upon_enter (f := 29) (args := #[.int .i64 1, .int .u8 1, .int .u8 0]) (by simp [go_sem]) rfl ?_
      exact (t_any 1 1 0 _).mono fun e w' ⟨he, hB⟩ => ⟨_, he, hB, rfl⟩
    · refine ob_gtrue [] 108 true 186 rfl rfl rfl rfl (fun v w h => h) fun aa g h => ?_
      refine upon_enter (f := 29) (args := #[.int .i64 1, .int .u8 0, .int .u8 1]) (by simp [go_sem]) rfl ?_
      exact (t_any 1 0 1 _).mono fun e w' ⟨he, hB⟩ => ⟨_, he, hB, rfl⟩
    · refine ob_gtrue [187, 188] 108 true 186 rfl rfl rfl rfl (fun v w h => h) fun aa g h => ?_
      obtain ⟨_, r0, rfl⟩ := seen_in rfl h.1
      have e0 := getD_of r0
      obtain ⟨_, r1, rfl⟩ := seen_in rfl h.2.1
      have e1 := getD_of r1
      exact upon_value (v := .slice (some ⟨g.w.heap.size, 0, none⟩) 2 2) (w1 := g.w.alloc (.cells #[.int .i64 1, .int .u8 1, .int .u8 0, .int .u8 0, .int .u8 0, .int .u8 0, .int .u8 0, .int .i64 1, .int .u8 0, .int .u8 1, .int .u8 0, .int .u8 0, .int .u8 0, .int .u8 0] 50)) (by simp [go_sem, e0, r0, e1, r1]) ((Below.refl _ _).alloc (Nat.le_refl _) _) (tx_cells g.w [(1, [1, 0, 0, 0, 0, 0]), (1, [0, 1, 0, 0, 0, 0])] (len6_ok (by decide)) (by unfold maxLen; decide))
    · refine ob_gtrue [189] 108 true 186 rfl rfl rfl rfl (fun v w h => h) fun aa g h => ?_
      obtain ⟨v0, r0, p0⟩ := seen_in rfl h.1
      have e0 := getD_of r0
      refine upon_enter (f := 5) (args := #[v0]) (by simp [go_sem, e0, r0]) rfl ?_
      exact (pvalid_b _ [(1, [1, 0, 0, 0, 0, 0]), (1, [0, 1, 0, 0, 0, 0])] _ (p0) (tv_ok (by decide))).mono fun e w' ⟨he, hB⟩ => ⟨_, he, hB, congrArg Value.bool (by decide)⟩
    · refine ob_gtrue [190] 108 true 186 rfl rfl rfl rfl (fun v w h => h) fun aa g h => ?_
      obtain ⟨_, r0, rfl⟩ := seen_in rfl h.1
      have e0 := getD_of r0
      exact upon_value (v := .bool true) (by simp [go_sem, e0, r0]) (Below.refl _ _) rfl
    · refine ob_plain [186, 191] rfl rfl fun aa g h => ?_
      obtain ⟨_, r0, rfl⟩ := seen_in rfl h.1
      have e0 := getD_of r0
      obtain ⟨_, r1, rfl⟩ := seen_in rfl h.2.1
      have e1 := getD_of r1
      exact upon_value (v := .bool true) (by simp [go_sem, e0, r0, e1, r1]) (Below.refl _ _) rfl
    · refine ob_plain [192] rfl rfl fun aa g h => ?_
      obtain ⟨_, r0, rfl⟩ := seen_in rfl h.1
      have e0 := getD_of r0
      exact upon_value (v := .bool true) (by simp [go_sem, e0, r0]) (Below.refl _ _) rfl
    · refine ob_gtrue [] 115 true 193 rfl rfl rfl rfl (fun v w h => h) fun aa g h => ?_
      refine upon_enter (f := 29) (args := #[.int .i64 1, .int .u8 4, .int .u8 3]) (by simp [go_sem]) rfl ?_
      exact (t_any 1 4 3 _).mono fun e w' ⟨he, hB⟩ => ⟨_, he, hB, rfl⟩
    · refine ob_gtrue [194] 115 true 193 rfl rfl rfl rfl (fun v w h => h) fun aa g h => ?_
      obtain ⟨_, r0, rfl⟩ := seen_in rfl h.1
      have e0 := getD_of r0
      exact upon_value (v := .slice (some ⟨g.w.heap.size, 0, none⟩) 1 1) (w1 := g.w.alloc (.cells #[.int .i64 1, .int .u8 4, .int .u8 3, .int .u8 0, .int .u8 0, .int .u8 0, .int .u8 0] 50)) (by simp [go_sem, e0, r0]) ((Below.refl _ _).alloc (Nat.le_refl _) _) (tx_cells g.w [(1, [4, 3, 0, 0, 0, 0])] (len6_ok (by decide)) (by unfold maxLen; decide))
    · refine ob_gtrue [195] 115 true 193 rfl rfl rfl rfl (fun v w h => h) fun aa g h => ?_
      obtain ⟨v0, r0, p0⟩ := seen_in rfl h.1
      have e0 := getD_of r0
      refine upon_enter (f := 5) (args := #[v0]) (by simp [go_sem, e0, r0]) rfl ?_
      exact (pvalid_b _ [(1, [4, 3, 0, 0, 0, 0])] _ (p0) (tv_ok (by decide))).mono fun e w' ⟨he, hB⟩ => ⟨_, he, hB, congrArg Value.bool (by decide)⟩
    · refine ob_gtrue [196] 115 true 193 rfl rfl rfl rfl (fun v w h => h) fun aa g h => ?_
      obtain ⟨_, r0, rfl⟩ := seen_in rfl h.1
      have e0 := getD_of r0
      exact upon_value (v := .bool true) (by simp [go_sem, e0, r0]) (Below.refl _ _) rfl
    · refine ob_plain [193, 197] rfl rfl fun aa g h => ?_
      obtain ⟨_, r0, rfl⟩ := seen_in rfl h.1
      have e0 := getD_of r0
      obtain ⟨_, r1, rfl⟩ := seen_in rfl h.2.1
      have e1 := getD_of r1
      exact upon_value (v := .bool true) (by simp [go_sem, e0, r0, e1, r1]) (Below.refl _ _) rfl
    · refine ob_plain [198] rfl rfl fun aa g h => ?_
      obtain ⟨_, r0, rfl⟩ := seen_in rfl h.1
      have e0 := getD_of r0
      exact upon_value (v := .bool true) (by simp [go_sem, e0, r0]) (Below.refl _ _) rfl
    · refine ob_gtrue [] 121 true 199 rfl rfl rfl rfl (fun v w h => h) fun aa g h => ?_
      refine upon_enter (f := 29) (args := #[.int .i64 0, .int .u8 1, .int .u8 0]) (by simp [go_sem]) rfl ?_
      exact (t_any 0 1 0 _).mono fun e w' ⟨he, hB⟩ => ⟨_, he, hB, rfl⟩
    · refine ob_gtrue [200] 121 true 199 rfl rfl rfl rfl (fun v w h => h) fun aa g h => ?_
      obtain ⟨_, r0, rfl⟩ := seen_in rfl h.1
      have e0 := getD_of r0
      exact upon_value (v := .slice (some ⟨g.w.heap.size, 0, none⟩) 1 1) (w1 := g.w.alloc (.cells #[.int .i64 0, .int .u8 1, .int .u8 0, .int .u8 0, .int .u8 0, .int .u8 0, .int .u8 0] 50)) (by simp [go_sem, e0, r0]) ((Below.refl _ _).alloc (Nat.le_refl _) _) (tx_cells g.w [(0, [1, 0, 0, 0, 0, 0])] (len6_ok (by decide)) (by unfold maxLen; decide))
    · refine ob_gtrue [201] 121 true 199 rfl rfl rfl rfl (fun v w h => h) fun aa g h => ?_
      obtain ⟨v0, r0, p0⟩ := seen_in rfl h.1
      have e0 := getD_of r0
      refine upon_enter (f := 5) (args := #[v0]) (by simp [go_sem, e0, r0]) rfl ?_
      exact (pvalid_b _ [(0, [1, 0, 0, 0, 0, 0])] _ (p0) (tv_ok (by decide))).mono fun e w' ⟨he, hB⟩ => ⟨_, he, hB, congrArg Value.bool (by decide)⟩
    · refine ob_gtrue [202] 121 true 199 rfl rfl rfl rfl (fun v w h => h) fun aa g h => ?_
      obtain ⟨_, r0, rfl⟩ := seen_in rfl h.1
      have e0 := getD_of r0
      exact upon_value (v := .bool true) (by simp [go_sem, e0, r0]) (Below.refl _ _) rfl
    · refine ob_plain [199, 203] rfl rfl fun aa g h => ?_
      obtain ⟨_, r0, rfl⟩ := seen_in rfl h.1
      have e0 := getD_of r0
      obtain ⟨_, r1, rfl⟩ := seen_in rfl h.2.1
      have e1 := getD_of r1
      exact upon_value (v := .bool true) (by simp [go_sem, e0, r0, e1, r1]) (Below.refl _ _) rfl
    · refine ob_plain [204] rfl rfl fun aa g h => ?_
      obtain ⟨_, r0, rfl⟩ := seen_in rfl h.1
      have e0 := getD_of r0
      exact upon_value (v := .bool true) (by simp [go_sem, e0, r0]) (Below.refl _ _) rfl
  · intro aa w15 hB15 hdf hsz hval
    obtain ⟨u, hu, hpu⟩ := hval 0 (by decide)
    obtain rfl : u = .bool true := hpu
    rename_i K hK
    exact hK _ _ (sane_end w w15 aa hdf hu (below_then hT hB15))
end Go.Proofs.YtllnpamhldapdaaGreat
