/-
  The sanity of the laws over Taylor models.
-/
import Derived.Test.YthakeeinhgfbbaaGreatYd
import Derived.Test.YthakeeinhgfbbaaGreatPredL
namespace Go.Proofs.YthakeeinhgfbbaaGreat
open Go.ChangeShapes Go.WideShapes Go.ChangeAt Go.RowKit
set_option linter.unusedVariables false
set_option linter.unusedSimpArgs false
set_option maxRecDepth 100000
attribute [local irreducible] Calls
instance (p : Int × Int) : Decidable (VB2 p) := inferInstanceAs (Decidable (VI _ _))
theorem spanc (a b x y : Int) (w : World) (ha : -1000000 ≤ a ∧ a ≤ 1000000) (hb : -1000000 ≤ b ∧ b ≤ 1000000) (hx : a * 65536 = x) (hy : b * 65536 = y) :
    Calls Tryz.prog 43 #[.int .i64 a, .int .i64 b] w fun e w' => e = .returned (.agg #[.int .i64 x, .int .i64 y]) ∧ Below w.heap.size w w' := by
  subst hx hy
  exact span_ok a b w ha hb
theorem termc (c a b x : Int) (w : World) (hc : -1000000 ≤ c ∧ c ≤ 1000000) (hx : c * 65536 = x) :
    Calls Tryz.prog 47 #[.int .i64 c, .int .u8 a, .int .u8 b] w fun e w' => e = .returned (.agg #[.int .i64 x, .int .u8 a, .int .u8 b, .int .u8 0, .int .u8 0, .int .u8 0, .int .u8 0]) ∧ Below w.heap.size w w' := by
  subst hx
  exact term_ok c a b w hc
theorem rsamec (u v : Value) (a b : Int) (l : List Tm) (w : World) (hu : Tx w u l) (hv : Tx w v l) (hl : l.all tnB = true) :
    Calls Tryz.prog 16 #[.agg #[u, .int .i64 a, .int .i64 b], .agg #[v, .int .i64 a, .int .i64 b]] w fun e w' => e = .returned (.bool true) ∧ Below w.heap.size w w' := by
  have := rsame_ok u v a b a b l l w hu hv (tv_ok hl) (tv_ok hl)
  simpa using this
theorem iso {P : Program} {f : FuncId} {args : Array Value} {w : World} {m k : Mo} (h : Calls P f args w fun e w' => ∃ r, e = .returned (.agg #[r, .int .i64 m.2.1, .int .i64 m.2.2]) ∧ Tx w' r m.1 ∧ CapOk r ∧ Below w.heap.size w w') (e : m = k) : Calls P f args w fun e w' => ∃ r, e = .returned (.agg #[r, .int .i64 k.2.1, .int .i64 k.2.2]) ∧ Tx w' r k.1 ∧ CapOk r ∧ Below w.heap.size w w' := by
  subst e
  exact h
theorem sx_v : varM 0 (65536, 196608) = ([(131072, [0, 0, 0, 0, 0, 0]), (65536, [1, 0, 0, 0, 0, 0])], (0, 0)) := by
  have h : varM 0 (65536, 196608) = normM (truncP (mergeP [(131072, [0, 0, 0, 0, 0, 0])] [(65536, [1, 0, 0, 0, 0, 0])]) 6 (0, 0)).1 (addI2 (truncP (mergeP [(131072, [0, 0, 0, 0, 0, 0])] [(65536, [1, 0, 0, 0, 0, 0])]) 6 (0, 0)).2 (0, 0)) := by
    unfold varM
    rw [if_neg (by decide), show midI (65536, 196608) = 131072 by decide, show linM 0 (((65536, 196608) : Int × Int).2 - 131072) = ([(65536, [1, 0, 0, 0, 0, 0])], (0, 0)) by decide, show constT 131072 = [(131072, [0, 0, 0, 0, 0, 0])] by decide]
  rw [h, show mergeP [(131072, [0, 0, 0, 0, 0, 0])] [(65536, [1, 0, 0, 0, 0, 0])] = [(131072, [0, 0, 0, 0, 0, 0]), (65536, [1, 0, 0, 0, 0, 0])] by simp [mergeP, cmpE]]
  decide
theorem sx_s : mulM ([(131072, [0, 0, 0, 0, 0, 0]), (65536, [1, 0, 0, 0, 0, 0])], (0, 0)) ([(131072, [0, 0, 0, 0, 0, 0]), (65536, [1, 0, 0, 0, 0, 0])], (0, 0)) 1 = ([(262144, [0, 0, 0, 0, 0, 0]), (262144, [1, 0, 0, 0, 0, 0])], (0, 65536)) := by decide
theorem sx_c : constM (65536, 196608) = ([(131072, [0, 0, 0, 0, 0, 0])], ((-65536), 65536)) := by decide
theorem sx_w : addM ([(131072, [0, 0, 0, 0, 0, 0]), (65536, [1, 0, 0, 0, 0, 0])], (0, 0)) ([((-131072), [0, 0, 0, 0, 0, 0]), ((-65536), [1, 0, 0, 0, 0, 0])], (0, 0)) = ([], (0, 0)) := by
  unfold addM
  rw [show mergeP ([(131072, [0, 0, 0, 0, 0, 0]), (65536, [1, 0, 0, 0, 0, 0])], (0, 0)).1 ([((-131072), [0, 0, 0, 0, 0, 0]), ((-65536), [1, 0, 0, 0, 0, 0])], (0, 0)).1 = [] by simp [mergeP, cmpE]]
  decide
theorem sx_r : rangeM ([(262144, [0, 0, 0, 0, 0, 0]), (262144, [1, 0, 0, 0, 0, 0])], (0, 65536)) = (0, 589824) := by decide
theorem sx_e : constM (-2147483648, 2147483648) = ([], (-2147483648, 2147483648)) := by decide
theorem sx_u : addM ([], (-2147483648, 2147483648)) (negM ([(131072, [0, 0, 0, 0, 0, 0]), (65536, [1, 0, 0, 0, 0, 0])], (0, 0))) = ([], (-2147483648, 2147483648)) := by
  unfold addM
  rw [show mergeP (([], (-2147483648, 2147483648)) : Mo).1 (negM ([(131072, [0, 0, 0, 0, 0, 0]), (65536, [1, 0, 0, 0, 0, 0])], (0, 0))).1 = [((-131072), [0, 0, 0, 0, 0, 0]), ((-65536), [1, 0, 0, 0, 0, 0])] by simp [mergeP, negM, negT]]
  decide
theorem sx_k : cornerB [1] = [(65536, 65536), (0, 0), (0, 0), (0, 0), (0, 0), (0, 0)] := by decide
theorem sx_l : evalM ([(262144, [0, 0, 0, 0, 0, 0]), (262144, [1, 0, 0, 0, 0, 0])], (0, 65536)) [(65536, 65536), (0, 0), (0, 0), (0, 0), (0, 0), (0, 0)] = (524288, 589824) := by
  have e1 : valI [(65536, 65536), (0, 0), (0, 0), (0, 0), (0, 0), (0, 0)] (262144, [0, 0, 0, 0, 0, 0]) 6 = ptI 262144 := by simp [valI, List.range_succ]
  have e2 : valI [(65536, 65536), (0, 0), (0, 0), (0, 0), (0, 0), (0, 0)] (262144, [1, 0, 0, 0, 0, 0]) 6 = mulI2 (ptI 262144) (65536, 65536) := by simp [valI, List.range_succ, varX, powX_one]
  unfold evalM evalP
  simp only [List.foldl_cons, List.foldl_nil, e1, e2]
  decide
theorem sx_t : truncM ([(131072, [0, 0, 0, 0, 0, 0]), (65536, [1, 0, 0, 0, 0, 0])], (0, 0)) 0 = ([(131072, [0, 0, 0, 0, 0, 0])], ((-65536), 65536)) := by decide
theorem sx_m : mulM ([(131072, [0, 0, 0, 0, 0, 0]), (65536, [1, 0, 0, 0, 0, 0])], (0, 0)) (constM (131072, 131072)) 6 = ([(262144, [0, 0, 0, 0, 0, 0]), (131072, [1, 0, 0, 0, 0, 0])], (0, 0)) := by decide
theorem vp_s : vpB [(262144, [0, 0, 0, 0, 0, 0]), (262144, [1, 0, 0, 0, 0, 0])] = true := by decide
theorem moc_set {W : World} {b : Nat} {u : Value} {p : Int × Int} (h : MoC W b u p) (v : Value) (x y : Int) : MoC (((W.setCell ⟨b, 0, none⟩ v).setCell ⟨b, 1, none⟩ (.int .i64 x)).setCell ⟨b, 2, none⟩ (.int .i64 y)) b v (x, y) := cellsT_set (o := 2) (u := .int .i64 y) (cellsT_set (o := 1) (u := .int .i64 x) (cellsT_set (o := 0) (u := v) h))
theorem sane6_end (w w15 : World) (aa : Act) (hdf : aa.defers = []) (hu : aa.tmps[0]? = some (.bool true)) (hT : Below w.heap.size w w15) : Code.ret.wp Tryz.prog (bodyPost Tryz.prog Tryz.f11 fun e w' => e = .returned (.bool true) ∧ Below w.heap.size w w') aa w15 :=
  wp_ret (bodyPost_ret (v := .bool true) (by simp [results, Tryz.results11, go_sem, hu]) hdf ⟨rfl, hT⟩)
section
variable (X5 : Nat) (w w2 w3 w5 : World) (pv ps pc p17 : Option Addr) (nv cv ns cs nc cc c17 : Nat)
def phi6 : Tmp → Value → World → Prop := lk [(18, fun z_ _ => z_ = .agg #[.slice pv nv cv, .int .i64 0, .int .i64 0]), (19, fun z_ _ => z_ = .agg #[.int .i64 131072, .int .u8 0, .int .u8 0, .int .u8 0, .int .u8 0, .int .u8 0, .int .u8 0]), (20, fun z_ _ => z_ = .agg #[.int .i64 65536, .int .u8 1, .int .u8 0, .int .u8 0, .int .u8 0, .int .u8 0, .int .u8 0]), (21, fun z_ w' => ∃ p n c, z_ = .slice p n c ∧ Tx w' (.slice p n c) [(131072, [0, 0, 0, 0, 0, 0]), (65536, [1, 0, 0, 0, 0, 0])]), (22, fun z_ w' => ∃ p n c, z_ = .agg #[.slice p n c, .int .i64 0, .int .i64 0] ∧ Tx w' (.slice p n c) [(131072, [0, 0, 0, 0, 0, 0]), (65536, [1, 0, 0, 0, 0, 0])]), (23, fun z_ _ => z_ = .bool true), (24, fun z_ _ => z_ = .bool true), (25, fun z_ _ => z_ = .agg #[.slice ps ns cs, .int .i64 0, .int .i64 65536]), (26, fun z_ _ => z_ = .agg #[.int .i64 262144, .int .u8 0, .int .u8 0, .int .u8 0, .int .u8 0, .int .u8 0, .int .u8 0]), (27, fun z_ _ => z_ = .agg #[.int .i64 262144, .int .u8 1, .int .u8 0, .int .u8 0, .int .u8 0, .int .u8 0, .int .u8 0]), (28, fun z_ w' => ∃ p n c, z_ = .slice p n c ∧ Tx w' (.slice p n c) [(262144, [0, 0, 0, 0, 0, 0]), (262144, [1, 0, 0, 0, 0, 0])]), (29, fun z_ _ => z_ = .agg #[.int .i64 0, .int .i64 65536]), (30, fun z_ w' => ∃ p n c, z_ = .agg #[.slice p n c, .int .i64 0, .int .i64 65536] ∧ Tx w' (.slice p n c) [(262144, [0, 0, 0, 0, 0, 0]), (262144, [1, 0, 0, 0, 0, 0])]), (31, fun z_ _ => z_ = .bool true), (32, fun z_ _ => z_ = .bool true), (33, fun z_ _ => z_ = .bool true), (34, fun z_ _ => z_ = .agg #[.slice ps ns cs, .int .i64 0, .int .i64 65536]), (35, fun z_ _ => z_ = .agg #[.int .i64 0, .int .i64 589824]), (36, fun z_ _ => z_ = .agg #[.int .i64 0, .int .i64 589824]), (37, fun z_ _ => z_ = .bool true), (38, fun z_ _ => z_ = .bool true), (39, fun z_ _ => z_ = .bool true), (40, fun z_ _ => z_ = .agg #[.slice pc nc cc, .int .i64 (-65536), .int .i64 65536]), (41, fun z_ _ => z_ = .agg #[.int .i64 131072, .int .u8 0, .int .u8 0, .int .u8 0, .int .u8 0, .int .u8 0, .int .u8 0]), (42, fun z_ w' => ∃ p n c, z_ = .slice p n c ∧ Tx w' (.slice p n c) [(131072, [0, 0, 0, 0, 0, 0])]), (43, fun z_ _ => z_ = .agg #[.int .i64 (-65536), .int .i64 65536]), (44, fun z_ w' => ∃ p n c, z_ = .agg #[.slice p n c, .int .i64 (-65536), .int .i64 65536] ∧ Tx w' (.slice p n c) [(131072, [0, 0, 0, 0, 0, 0])]), (45, fun z_ _ => z_ = .bool true), (46, fun z_ _ => z_ = .bool true), (47, fun z_ _ => z_ = .bool true), (48, fun z_ _ => z_ = .pointer (some ⟨X5, 0, none⟩)), (49, fun z_ _ => z_ = .slice p17 0 c17), (50, fun z_ _ => z_ = .int .i64 0), (51, fun z_ _ => z_ = .bool true), (52, fun z_ _ => z_ = .bool true), (53, fun z_ _ => z_ = .bool true), (54, fun z_ _ => z_ = .pointer (some ⟨X5, 1, none⟩)), (55, fun z_ _ => z_ = .agg #[.int .i64 0, .int .i64 0]), (56, fun z_ _ => z_ = .agg #[.int .i64 0, .int .i64 0]), (57, fun z_ _ => z_ = .bool true), (58, fun z_ _ => z_ = .bool true), (59, fun z_ _ => z_ = .bool true), (60, fun z_ _ => z_ = .agg #[.int .i64 (-2147483648), .int .i64 2147483648]), (61, fun z_ w' => ∃ p n c, z_ = .agg #[.slice p n c, .int .i64 (-2147483648), .int .i64 2147483648] ∧ Tx w' (.slice p n c) [] ∧ CapOk (.slice p n c)), (62, fun z_ _ => z_ = .agg #[.int .i64 (-2147483648), .int .i64 2147483648]), (63, fun z_ _ => z_ = .agg #[.slice none 0 0, .int .i64 (-2147483648), .int .i64 2147483648]), (64, fun z_ _ => z_ = .bool true), (65, fun z_ _ => z_ = .bool true), (66, fun z_ _ => z_ = .bool true), (67, fun z_ _ => z_ = .agg #[.int .i64 (-2147483648), .int .i64 2147483648]), (68, fun z_ w' => ∃ p n c, z_ = .agg #[.slice p n c, .int .i64 (-2147483648), .int .i64 2147483648] ∧ Tx w' (.slice p n c) [] ∧ CapOk (.slice p n c)), (69, fun z_ _ => z_ = .agg #[.slice pv nv cv, .int .i64 0, .int .i64 0]), (70, fun z_ w' => ∃ p n c, z_ = .agg #[.slice p n c, .int .i64 (-2147483648), .int .i64 2147483648] ∧ Tx w' (.slice p n c) [] ∧ CapOk (.slice p n c)), (71, fun z_ _ => z_ = .agg #[.int .i64 (-2147483648), .int .i64 2147483648]), (72, fun z_ _ => z_ = .agg #[.slice none 0 0, .int .i64 (-2147483648), .int .i64 2147483648]), (73, fun z_ _ => z_ = .bool true), (74, fun z_ _ => z_ = .bool true), (75, fun z_ _ => z_ = .bool true), (76, fun z_ _ => z_ = .agg #[.slice ps ns cs, .int .i64 0, .int .i64 65536]), (77, fun z_ _ => z_ = .bool true), (78, fun z_ _ => z_ = .bool true), (79, fun z_ _ => z_ = .bool true), (80, fun z_ _ => z_ = .pointer (some ⟨w3.heap.size, 0, none⟩)), (81, fun z_ _ => z_ = .slice ps ns cs), (82, fun z_ _ => z_ = .agg #[.int .i64 (-2147483648), .int .i64 2147483648]), (83, fun z_ _ => z_ = .agg #[.slice ps ns cs, .int .i64 (-2147483648), .int .i64 2147483648]), (84, fun z_ _ => z_ = .bool false), (85, fun z_ _ => z_ = .bool true), (86, fun z_ _ => z_ = .bool true), (87, fun z_ _ => z_ = .bool true), (88, fun z_ _ => z_ = .agg #[.slice ps ns cs, .int .i64 0, .int .i64 65536]), (89, fun z_ w' => S8 w' z_ [1]), (90, fun z_ w' => Bx w' z_ [(65536, 65536), (0, 0), (0, 0), (0, 0), (0, 0), (0, 0)]), (91, fun z_ _ => z_ = .agg #[.int .i64 524288, .int .i64 589824]), (92, fun z_ _ => z_ = .agg #[.int .i64 524288, .int .i64 589824]), (93, fun z_ _ => z_ = .bool true), (94, fun z_ _ => z_ = .bool true), (95, fun z_ _ => z_ = .bool true), (96, fun z_ _ => z_ = .agg #[.slice pv nv cv, .int .i64 0, .int .i64 0]), (97, fun z_ w' => ∃ p n c, z_ = .agg #[.slice p n c, .int .i64 (-65536), .int .i64 65536] ∧ Tx w' (.slice p n c) [(131072, [0, 0, 0, 0, 0, 0])] ∧ CapOk (.slice p n c)), (98, fun z_ _ => z_ = .agg #[.int .i64 131072, .int .u8 0, .int .u8 0, .int .u8 0, .int .u8 0, .int .u8 0, .int .u8 0]), (99, fun z_ w' => ∃ p n c, z_ = .slice p n c ∧ Tx w' (.slice p n c) [(131072, [0, 0, 0, 0, 0, 0])]), (100, fun z_ _ => z_ = .agg #[.int .i64 (-65536), .int .i64 65536]), (101, fun z_ w' => ∃ p n c, z_ = .agg #[.slice p n c, .int .i64 (-65536), .int .i64 65536] ∧ Tx w' (.slice p n c) [(131072, [0, 0, 0, 0, 0, 0])]), (102, fun z_ _ => z_ = .bool true), (103, fun z_ _ => z_ = .bool true), (104, fun z_ _ => z_ = .bool true), (105, fun z_ _ => z_ = .agg #[.slice pv nv cv, .int .i64 0, .int .i64 0]), (106, fun z_ _ => z_ = .agg #[.int .i64 131072, .int .i64 131072]), (107, fun z_ w' => ∃ p n c, z_ = .agg #[.slice p n c, .int .i64 0, .int .i64 0] ∧ Tx w' (.slice p n c) [(262144, [0, 0, 0, 0, 0, 0]), (131072, [1, 0, 0, 0, 0, 0])] ∧ CapOk (.slice p n c)), (108, fun z_ _ => z_ = .agg #[.int .i64 262144, .int .u8 0, .int .u8 0, .int .u8 0, .int .u8 0, .int .u8 0, .int .u8 0]), (109, fun z_ _ => z_ = .agg #[.int .i64 131072, .int .u8 1, .int .u8 0, .int .u8 0, .int .u8 0, .int .u8 0, .int .u8 0]), (110, fun z_ w' => ∃ p n c, z_ = .slice p n c ∧ Tx w' (.slice p n c) [(262144, [0, 0, 0, 0, 0, 0]), (131072, [1, 0, 0, 0, 0, 0])]), (111, fun z_ w' => ∃ p n c, z_ = .agg #[.slice p n c, .int .i64 0, .int .i64 0] ∧ Tx w' (.slice p n c) [(262144, [0, 0, 0, 0, 0, 0]), (131072, [1, 0, 0, 0, 0, 0])]), (112, fun z_ _ => z_ = .bool true), (113, fun z_ _ => z_ = .bool true), (0, fun z_ _ => z_ = .bool true)]
theorem phi6_steady : ∀ t v w1 w2, Below w1.heap.size w1 w2 → phi6 X5 w3 pv ps pc p17 nv cv ns cs nc cc c17 t v w1 → phi6 X5 w3 pv ps pc p17 nv cv ns cs nc cc c17 t v w2 := lk_steady _ ⟨steady_eq _, steady_eq _, steady_eq _, fun u w1 w2 hb ⟨p, n, c, e, h⟩ => ⟨p, n, c, e, h.grow hb⟩, fun u w1 w2 hb ⟨p, n, c, e, h⟩ => ⟨p, n, c, e, h.grow hb⟩, steady_eq _, steady_eq _, steady_eq _, steady_eq _, steady_eq _, fun u w1 w2 hb ⟨p, n, c, e, h⟩ => ⟨p, n, c, e, h.grow hb⟩, steady_eq _, fun u w1 w2 hb ⟨p, n, c, e, h⟩ => ⟨p, n, c, e, h.grow hb⟩, steady_eq _, steady_eq _, steady_eq _, steady_eq _, steady_eq _, steady_eq _, steady_eq _, steady_eq _, steady_eq _, steady_eq _, steady_eq _, fun u w1 w2 hb ⟨p, n, c, e, h⟩ => ⟨p, n, c, e, h.grow hb⟩, steady_eq _, fun u w1 w2 hb ⟨p, n, c, e, h⟩ => ⟨p, n, c, e, h.grow hb⟩, steady_eq _, steady_eq _, steady_eq _, steady_eq _, steady_eq _, steady_eq _, steady_eq _, steady_eq _, steady_eq _, steady_eq _, steady_eq _, steady_eq _, steady_eq _, steady_eq _, steady_eq _, steady_eq _, fun u w1 w2 hb ⟨p, n, c, e, h, h2⟩ => ⟨p, n, c, e, h.grow hb, h2⟩, steady_eq _, steady_eq _, steady_eq _, steady_eq _, steady_eq _, steady_eq _, fun u w1 w2 hb ⟨p, n, c, e, h, h2⟩ => ⟨p, n, c, e, h.grow hb, h2⟩, steady_eq _, fun u w1 w2 hb ⟨p, n, c, e, h, h2⟩ => ⟨p, n, c, e, h.grow hb, h2⟩, steady_eq _, steady_eq _, steady_eq _, steady_eq _, steady_eq _, steady_eq _, steady_eq _, steady_eq _, steady_eq _, steady_eq _, steady_eq _, steady_eq _, steady_eq _, steady_eq _, steady_eq _, steady_eq _, steady_eq _, steady_eq _, fun u w1 w2 hb h => h.grow hb, fun u w1 w2 hb h => h.grow hb, steady_eq _, steady_eq _, steady_eq _, steady_eq _, steady_eq _, steady_eq _, fun u w1 w2 hb ⟨p, n, c, e, h, h2⟩ => ⟨p, n, c, e, h.grow hb, h2⟩, steady_eq _, fun u w1 w2 hb ⟨p, n, c, e, h⟩ => ⟨p, n, c, e, h.grow hb⟩, steady_eq _, fun u w1 w2 hb ⟨p, n, c, e, h⟩ => ⟨p, n, c, e, h.grow hb⟩, steady_eq _, steady_eq _, steady_eq _, steady_eq _, steady_eq _, fun u w1 w2 hb ⟨p, n, c, e, h, h2⟩ => ⟨p, n, c, e, h.grow hb, h2⟩, steady_eq _, steady_eq _, fun u w1 w2 hb ⟨p, n, c, e, h⟩ => ⟨p, n, c, e, h.grow hb⟩, fun u w1 w2 hb ⟨p, n, c, e, h⟩ => ⟨p, n, c, e, h.grow hb⟩, steady_eq _, steady_eq _, steady_eq _, trivial⟩
end
theorem s8_one (W : World) (x : Int) : S8 (W.alloc (.cells #[.int .i8 x] 58)) (.slice (some ⟨W.heap.size, 0, none⟩) 1 1) [x] := by
  have hb : (W.alloc (.cells #[.int .i8 x] 58)).heap[W.heap.size]? = some (.cells #[.int .i8 x] 58 (0, 0)) := World.alloc_heap_new W _
  refine ⟨by simp [maxLen], _, 1, rfl, fun k p hk => ?_⟩
  match k with
  | 0 => simp at hk; subst hk; exact ⟨_, 0, rfl, by simp, heapT_cell hb rfl⟩
  | k + 1 => simp at hk
set_option maxHeartbeats 32000000 in
theorem sanity6 (w : World) : Calls Tryz.prog 11 #[] w fun e w' => e = .returned (.bool true) ∧ Below w.heap.size w w' := by
  go_enter Tryz.func11, Tryz.ntmps11
  have hb0 : Below w.heap.size w (w.alloc (.cells #[.int .i64 (-2147483648), .int .i64 2147483648] 24)) := (Below.refl _ _).alloc (Nat.le_refl _) _
  have H1 := Lib.hid (IvC.new w (-2147483648) 2147483648)
  go_wp2_with (fail)
  refine (spanc 1 3 65536 196608 _ (by decide) (by decide) (by decide) (by decide)).mono ?_
  rintro e w1 ⟨rfl, hB⟩
  have hb1 := below_then hb0 hB
  have H1 := Lib.hid (H1.out.grow hB)
  clear hB hb0
  go_wp2_with (fail)
  refine (iso (tvar_ok 0 65536 196608 _ (by decide)) sx_v).mono ?_
  rintro e w2 ⟨rv, rfl, hxv, ⟨pv, nv, cv, rfl, hv1, hv2⟩, hB⟩
  have CV : Hid (CapOk (.slice pv nv cv)) := Lib.hid ⟨pv, nv, cv, rfl, hv1, hv2⟩
  have hg2 := (Below.refl w2.heap.size w2).alloc (Nat.le_refl _) (.cells #[.slice pv nv cv, .int .i64 0, .int .i64 0] 26)
  have XV := Lib.hid (hxv.grow hg2)
  have B2 := Lib.hid (MoC.new w2 (.slice pv nv cv) 0 0)
  have H1 := Lib.hid ((H1.out.grow hB).grow hg2)
  have hb2 := below_then (below_then hb1 hB) hg2
  clear hB hg2 hb1 hxv hv1 hv2
  dsimp only at XV
  go_wp2_with (fail)
  refine (iso (tmul_ok (.slice pv nv cv) (.slice pv nv cv) 0 0 0 0 1 [(131072, [0, 0, 0, 0, 0, 0]), (65536, [1, 0, 0, 0, 0, 0])] [(131072, [0, 0, 0, 0, 0, 0]), (65536, [1, 0, 0, 0, 0, 0])] _ XV.out (tn_ok (by decide)) (by decide) XV.out (tn_ok (by decide)) (by decide) (by decide) (by decide)) sx_s).mono ?_
  rintro e w3 ⟨rs, rfl, hxs, ⟨ps, ns, cs, rfl, hs1, hs2⟩, hB⟩
  have CS : Hid (CapOk (.slice ps ns cs)) := Lib.hid ⟨ps, ns, cs, rfl, hs1, hs2⟩
  have hg3 := (Below.refl w3.heap.size w3).alloc (Nat.le_refl _) (.cells #[.slice ps ns cs, .int .i64 0, .int .i64 65536] 26)
  have XS := Lib.hid (hxs.grow hg3)
  have B3 := Lib.hid (MoC.new w3 (.slice ps ns cs) 0 65536)
  have XV := Lib.hid ((XV.out.grow hB).grow hg3)
  have B2 := Lib.hid ((B2.out.grow hB).grow hg3)
  have H1 := Lib.hid ((H1.out.grow hB).grow hg3)
  have hb3 := below_then (below_then hb2 hB) hg3
  clear hB hg3 hb2 hxs hs1 hs2
  dsimp only at XS
  go_wp2_with (fail)
  refine (spanc 1 3 65536 196608 _ (by decide) (by decide) (by decide) (by decide)).mono ?_
  rintro e w4 ⟨rfl, hB⟩
  have XV := Lib.hid (XV.out.grow hB)
  have XS := Lib.hid (XS.out.grow hB)
  have B2 := Lib.hid (B2.out.grow hB)
  have B3 := Lib.hid (B3.out.grow hB)
  have H1 := Lib.hid (H1.out.grow hB)
  have hb4 := below_then hb3 hB
  clear hB hb3
  go_wp2_with (fail)
  refine (iso (tconst_ok 65536 196608 _ (by decide)) sx_c).mono ?_
  rintro e w5 ⟨rc, rfl, hxc, ⟨pc, nc, cc, rfl, hc1, hc2⟩, hB⟩
  have CC : Hid (CapOk (.slice pc nc cc)) := Lib.hid ⟨pc, nc, cc, rfl, hc1, hc2⟩
  have hg5 := (Below.refl w5.heap.size w5).alloc (Nat.le_refl _) (.cells #[.slice pc nc cc, .int .i64 (-65536), .int .i64 65536] 26)
  have XC := Lib.hid (hxc.grow hg5)
  have B4 := Lib.hid (MoC.new w5 (.slice pc nc cc) (-65536) 65536)
  have XV := Lib.hid ((XV.out.grow hB).grow hg5)
  have XS := Lib.hid ((XS.out.grow hB).grow hg5)
  have B2 := Lib.hid ((B2.out.grow hB).grow hg5)
  have B3 := Lib.hid ((B3.out.grow hB).grow hg5)
  have H1 := Lib.hid ((H1.out.grow hB).grow hg5)
  have HT := Lib.hid (below_then (below_then hb4 hB) hg5)
  clear hB hg5 hb4 hxc hc1 hc2
  dsimp only at XC
  go_wp2_with (fail)
  generalize hWR : World.alloc w5 _ = WR at *
  clear hWR
  have k1a := fun g : Grown WR => (H1.out.grow g.h).c0
  have k1b := fun g : Grown WR => (H1.out.grow g.h).c1
  try dsimp only at k1a k1b
  have k2a := fun g : Grown WR => (B2.out.grow g.h).c0
  have k2b := fun g : Grown WR => (B2.out.grow g.h).c1
  have k2c := fun g : Grown WR => (B2.out.grow g.h).c2
  try dsimp only at k2a k2b k2c
  have k3a := fun g : Grown WR => (B3.out.grow g.h).c0
  have k3b := fun g : Grown WR => (B3.out.grow g.h).c1
  have k3c := fun g : Grown WR => (B3.out.grow g.h).c2
  try dsimp only at k3a k3b k3c
  have k4a := fun g : Grown WR => (B4.out.grow g.h).c0
  have k4b := fun g : Grown WR => (B4.out.grow g.h).c1
  have k4c := fun g : Grown WR => (B4.out.grow g.h).c2
  try dsimp only at k4a k4b k4c
  refine region_pred_l (lk [(14, fun z_ _ => z_ = .agg #[.slice pv nv cv, .int .i64 0, .int .i64 0]), (15, fun z_ _ => z_ = .agg #[.slice pv nv cv, .int .i64 0, .int .i64 0]), (16, fun z_ w' => ∃ p n c, z_ = .agg #[.slice p n c, .int .i64 0, .int .i64 0] ∧ Tx w' (.slice p n c) [((-131072), [0, 0, 0, 0, 0, 0]), ((-65536), [1, 0, 0, 0, 0, 0])] ∧ CapOk (.slice p n c)), (17, fun z_ w' => ∃ p n c, z_ = .agg #[.slice p n c, .int .i64 0, .int .i64 0] ∧ Tx w' (.slice p n c) [] ∧ CapOk (.slice p n c)), (5, fun z_ w' => ∃ X, z_ = .pointer (some ⟨X, 0, none⟩) ∧ WR.heap.size ≤ X ∧ MoC w' X (.slice none 0 0) (0, 0))]) 5 _ rfl (by kernel_rfl) (by kernel_rfl) (by kernel_rfl) (lk_steady _ ⟨steady_eq _, steady_eq _, fun u w1 w2 hb ⟨p, n, c, e, h, h2⟩ => ⟨p, n, c, e, h.grow hb, h2⟩, fun u w1 w2 hb ⟨p, n, c, e, h, h2⟩ => ⟨p, n, c, e, h.grow hb, h2⟩, fun u w1 w2 hb ⟨X, e, h1, h2⟩ => ⟨X, e, h1, h2.grow hb⟩, trivial⟩) ?_ ?_
  · refine ⟨?_, ?_, ?_, ?_, ?_, ?_, trivial⟩
    · intro _
      refine ob_plain [2] rfl rfl fun aa g h => ?_
      have yy0 := seen_out (v := .pointer (some ⟨w2.heap.size, 0, none⟩)) rfl rfl h.1
      have ee0 := getD_of yy0
      exact tupon_value (v := .agg #[.slice pv nv cv, .int .i64 0, .int .i64 0]) (by simp [go_sem, ee0, yy0, k2a g, k2b g, k2c g]) (Below.refl _ _) rfl
    · intro _
      refine ob_plain [2] rfl rfl fun aa g h => ?_
      have yy0 := seen_out (v := .pointer (some ⟨w2.heap.size, 0, none⟩)) rfl rfl h.1
      have ee0 := getD_of yy0
      exact tupon_value (v := .agg #[.slice pv nv cv, .int .i64 0, .int .i64 0]) (by simp [go_sem, ee0, yy0, k2a g, k2b g, k2c g]) (Below.refl _ _) rfl
    · intro _
      refine ob_plain [15] rfl rfl fun aa g h => ?_
      obtain ⟨_, yy0, rfl⟩ := seen_in rfl h.1
      have ee0 := getD_of yy0
      refine tupon_enter (f := 21) (args := #[.agg #[.slice pv nv cv, .int .i64 0, .int .i64 0]]) (by simp [go_sem, ee0, yy0]) rfl ?_
      exact (iso (m := ([((-131072), [0, 0, 0, 0, 0, 0]), ((-65536), [1, 0, 0, 0, 0, 0])], (0, 0))) (tneg_ok (.slice pv nv cv) 0 0 [(131072, [0, 0, 0, 0, 0, 0]), (65536, [1, 0, 0, 0, 0, 0])] g.w (XV.out.grow g.h) (tn_ok (by decide)) (by decide) CV.out (by decide)) rfl).mono fun e w' ⟨r, he, hx, hc, hB⟩ => ⟨_, he, hB, by obtain ⟨p, n, c, e1, e2⟩ := hc; subst e1; exact ⟨p, n, c, rfl, hx, ⟨p, n, c, rfl, e2⟩⟩⟩
    · intro _
      refine ob_plain [14, 16] rfl rfl fun aa g h => ?_
      obtain ⟨_, yy0, rfl⟩ := seen_in rfl h.1
      have ee0 := getD_of yy0
      obtain ⟨_, yy1, ⟨p16, n16, c16, rfl, tx16, cp16⟩⟩ := seen_in rfl h.2.1
      have ee1 := getD_of yy1
      refine tupon_enter (f := 17) (args := #[.agg #[.slice pv nv cv, .int .i64 0, .int .i64 0], .agg #[.slice p16 n16 c16, .int .i64 0, .int .i64 0]]) (by simp [go_sem, ee0, yy0, ee1, yy1]) rfl ?_
      exact (iso (tadd_ok (.slice pv nv cv) (.slice p16 n16 c16) 0 0 0 0 [(131072, [0, 0, 0, 0, 0, 0]), (65536, [1, 0, 0, 0, 0, 0])] [((-131072), [0, 0, 0, 0, 0, 0]), ((-65536), [1, 0, 0, 0, 0, 0])] g.w (XV.out.grow g.h) (tn_ok (by decide)) (by decide) CV.out tx16 (tn_ok (by decide)) (by decide) cp16 (by decide) (by decide)) sx_w).mono fun e w' ⟨r, he, hx, hc, hB⟩ => ⟨_, he, hB, by obtain ⟨p, n, c, e1, e2⟩ := hc; subst e1; exact ⟨p, n, c, rfl, hx, ⟨p, n, c, rfl, e2⟩⟩⟩
    · intro _
      refine ob_plain [] rfl rfl fun aa g h => ?_
      exact tupon_value (v := .pointer (some ⟨g.w.heap.size, 0, none⟩)) (w1 := g.w.alloc (.cells #[.slice none 0 0, .int .i64 0, .int .i64 0] 26)) (by simp [go_sem]) ((Below.refl _ _).alloc (Nat.le_refl _) _) ⟨_, rfl, g.h.size, MoC.new _ _ _ _⟩
    · exact fun h => absurd rfl h
  rintro w6 hB6 _ rfl _ rfl _ ⟨p16, n16, c16, rfl, tx16, cp16⟩ _ ⟨p17, n17, c17, rfl, tx17, cp17⟩ _ ⟨X5, rfl, hX, hM⟩
  simp only [Act.put, List.setIfInBounds_toArray, List.set_cons_succ, List.set_cons_zero, List.filterMap_nil, finP]
  obtain ⟨p, c, e17⟩ := tx17.cut
  simp only [Value.slice.injEq, List.length_nil] at e17
  obtain ⟨rfl, rfl, rfl⟩ := e17
  have q0 := hM.c0
  have q1 := hM.c1
  have q2 := hM.c2
  have z0 := hM.frozen 0
  have z1 := hM.frozen 1
  have z2 := hM.frozen 2
  dsimp only at q0 q1 q2
  have hM5 := Lib.hid (moc_set hM (.slice p17 0 c17) 0 0)
  have hB7 := ((hB6.setCell (p := ⟨X5, 0, none⟩) hX (.slice p17 0 c17)).setCell (p := ⟨X5, 1, none⟩) hX (.int .i64 0)).setCell (p := ⟨X5, 2, none⟩) hX (.int .i64 0)
  have XV := Lib.hid (XV.out.grow hB7)
  have XS := Lib.hid (XS.out.grow hB7)
  have XC := Lib.hid (XC.out.grow hB7)
  have H1 := Lib.hid (H1.out.grow hB7)
  have B2 := Lib.hid (B2.out.grow hB7)
  have B3 := Lib.hid (B3.out.grow hB7)
  have B4 := Lib.hid (B4.out.grow hB7)
  have HT := Lib.hid (below_then HT.out hB7)
  refine ⟨_, by simp [go_sem, q0, q1, q2, z0, z1, z2]; rfl, ?_⟩
  clear q0 q1 q2 z0 z1 z2 hM hX hB6 hB7 k1a k1b k2a k2b k2c k3a k3b k3c k4a k4b k4c
  obtain ⟨WS, hWS⟩ : ∃ W, ((w6.setCell ⟨X5, 0, none⟩ (.slice p17 0 c17)).setCell ⟨X5, 1, none⟩ (.int .i64 0)).setCell ⟨X5, 2, none⟩ (.int .i64 0) = W := ⟨_, rfl⟩
  rw [hWS] at XV XS XC H1 B2 B3 B4 HT hM5
  rw [hWS]
  clear hWS
  have B5 := hM5
  clear hM5
  go_wp2_with (fail)
  have k1a := fun g : Grown WS => (H1.out.grow g.h).c0
  have k1b := fun g : Grown WS => (H1.out.grow g.h).c1
  try dsimp only at k1a k1b
  have k2a := fun g : Grown WS => (B2.out.grow g.h).c0
  have k2b := fun g : Grown WS => (B2.out.grow g.h).c1
  have k2c := fun g : Grown WS => (B2.out.grow g.h).c2
  try dsimp only at k2a k2b k2c
  have k3a := fun g : Grown WS => (B3.out.grow g.h).c0
  have k3b := fun g : Grown WS => (B3.out.grow g.h).c1
  have k3c := fun g : Grown WS => (B3.out.grow g.h).c2
  try dsimp only at k3a k3b k3c
  have k4a := fun g : Grown WS => (B4.out.grow g.h).c0
  have k4b := fun g : Grown WS => (B4.out.grow g.h).c1
  have k4c := fun g : Grown WS => (B4.out.grow g.h).c2
  try dsimp only at k4a k4b k4c
  have k5a := fun g : Grown WS => (B5.out.grow g.h).c0
  have k5b := fun g : Grown WS => (B5.out.grow g.h).c1
  have k5c := fun g : Grown WS => (B5.out.grow g.h).c2
  try dsimp only at k5a k5b k5c
  refine region_pred_raw (phi6 X5 w3 pv ps pc p17 nv cv ns cs nc cc c17) (by kernel_rfl) (by kernel_rfl) (phi6_steady X5 w3 pv ps pc p17 nv cv ns cs nc cc c17) ?_ ?_
  · refine ⟨?_, ?_, ?_, ?_, ?_, ?_, ?_, ?_, ?_, ?_, ?_, ?_, ?_, ?_, ?_, ?_, ?_, ?_, ?_, ?_, ?_, ?_, ?_, ?_, ?_, ?_, ?_, ?_, ?_, ?_, ?_, ?_, ?_, ?_, ?_, ?_, ?_, ?_, ?_, ?_, ?_, ?_, ?_, ?_, ?_, ?_, ?_, ?_, ?_, ?_, ?_, ?_, ?_, ?_, ?_, ?_, ?_, ?_, ?_, ?_, ?_, ?_, ?_, ?_, ?_, ?_, ?_, ?_, ?_, ?_, ?_, ?_, ?_, ?_, ?_, ?_, ?_, ?_, ?_, ?_, ?_, ?_, ?_, ?_, ?_, ?_, ?_, ?_, ?_, ?_, ?_, ?_, ?_, ?_, ?_, ?_, ?_, trivial⟩
    · refine ob_plain [2] rfl rfl fun aa g h => ?_
      have yy0 := seen_out (v := .pointer (some ⟨w2.heap.size, 0, none⟩)) rfl rfl h.1
      have ee0 := getD_of yy0
      exact tupon_value (v := .agg #[.slice pv nv cv, .int .i64 0, .int .i64 0]) (by simp [go_sem, ee0, yy0, k2a g, k2b g, k2c g]) (Below.refl _ _) rfl
    · refine ob_plain [] rfl rfl fun aa g h => ?_
      refine tupon_enter (f := 47) (args := #[.int .i64 2, .int .u8 0, .int .u8 0]) (by simp [go_sem]) rfl ?_
      exact (termc 2 0 0 131072 g.w (by decide) (by decide)).mono fun e w' ⟨he, hB⟩ => ⟨_, he, hB, rfl⟩
    · refine ob_plain [] rfl rfl fun aa g h => ?_
      refine tupon_enter (f := 47) (args := #[.int .i64 1, .int .u8 1, .int .u8 0]) (by simp [go_sem]) rfl ?_
      exact (termc 1 1 0 65536 g.w (by decide) (by decide)).mono fun e w' ⟨he, hB⟩ => ⟨_, he, hB, rfl⟩
    · refine ob_plain [19, 20] rfl rfl fun aa g h => ?_
      obtain ⟨_, yy0, rfl⟩ := seen_in rfl h.1
      have ee0 := getD_of yy0
      obtain ⟨_, yy1, rfl⟩ := seen_in rfl h.2.1
      have ee1 := getD_of yy1
      exact tupon_value (v := .slice (some ⟨g.w.heap.size, 0, none⟩) 2 2) (w1 := g.w.alloc (.cells #[.int .i64 131072, .int .u8 0, .int .u8 0, .int .u8 0, .int .u8 0, .int .u8 0, .int .u8 0, .int .i64 65536, .int .u8 1, .int .u8 0, .int .u8 0, .int .u8 0, .int .u8 0, .int .u8 0] 63)) (by simp [go_sem, ee0, yy0, ee1, yy1]) ((Below.refl _ _).alloc (Nat.le_refl _) _) ⟨_, _, _, rfl, tx_cells g.w [(131072, [0, 0, 0, 0, 0, 0]), (65536, [1, 0, 0, 0, 0, 0])] (len6_ok (by decide)) (by unfold maxLen; decide)⟩
    · refine ob_plain [21] rfl rfl fun aa g h => ?_
      obtain ⟨_, yy0, ⟨p21, n21, c21, rfl, tx21⟩⟩ := seen_in rfl h.1
      have ee0 := getD_of yy0
      exact tupon_value (v := .agg #[.slice p21 n21 c21, .int .i64 0, .int .i64 0]) (by simp [go_sem, ee0, yy0]) (Below.refl _ _) ⟨_, _, _, rfl, tx21⟩
    · refine ob_plain [18, 22] rfl rfl fun aa g h => ?_
      obtain ⟨_, yy0, rfl⟩ := seen_in rfl h.1
      have ee0 := getD_of yy0
      obtain ⟨_, yy1, ⟨p22, n22, c22, rfl, tx22⟩⟩ := seen_in rfl h.2.1
      have ee1 := getD_of yy1
      refine tupon_enter (f := 16) (args := #[.agg #[.slice pv nv cv, .int .i64 0, .int .i64 0], .agg #[.slice p22 n22 c22, .int .i64 0, .int .i64 0]]) (by simp [go_sem, ee0, yy0, ee1, yy1]) rfl ?_
      exact (rsamec (.slice pv nv cv) (.slice p22 n22 c22) 0 0 [(131072, [0, 0, 0, 0, 0, 0]), (65536, [1, 0, 0, 0, 0, 0])] g.w (XV.out.grow g.h) tx22 (by decide)).mono fun e w' ⟨he, hB⟩ => ⟨_, he, hB, rfl⟩
    · refine ob_plain [23] rfl rfl fun aa g h => ?_
      obtain ⟨_, yy0, rfl⟩ := seen_in rfl h.1
      have ee0 := getD_of yy0
      exact tupon_value (v := .bool true) (by simp [go_sem, ee0, yy0]) (Below.refl _ _) rfl
    · refine ob_gtrue [3] _ _ 24 rfl rfl rfl rfl (fun v w h => h) fun aa g h => ?_
      have yy0 := seen_out (v := .pointer (some ⟨w3.heap.size, 0, none⟩)) rfl rfl h.1
      have ee0 := getD_of yy0
      exact tupon_value (v := .agg #[.slice ps ns cs, .int .i64 0, .int .i64 65536]) (by simp [go_sem, ee0, yy0, k3a g, k3b g, k3c g]) (Below.refl _ _) rfl
    · refine ob_gtrue [] _ _ 24 rfl rfl rfl rfl (fun v w h => h) fun aa g h => ?_
      refine tupon_enter (f := 47) (args := #[.int .i64 4, .int .u8 0, .int .u8 0]) (by simp [go_sem]) rfl ?_
      exact (termc 4 0 0 262144 g.w (by decide) (by decide)).mono fun e w' ⟨he, hB⟩ => ⟨_, he, hB, rfl⟩
    · refine ob_gtrue [] _ _ 24 rfl rfl rfl rfl (fun v w h => h) fun aa g h => ?_
      refine tupon_enter (f := 47) (args := #[.int .i64 4, .int .u8 1, .int .u8 0]) (by simp [go_sem]) rfl ?_
      exact (termc 4 1 0 262144 g.w (by decide) (by decide)).mono fun e w' ⟨he, hB⟩ => ⟨_, he, hB, rfl⟩
    · refine ob_gtrue [26, 27] _ _ 24 rfl rfl rfl rfl (fun v w h => h) fun aa g h => ?_
      obtain ⟨_, yy0, rfl⟩ := seen_in rfl h.1
      have ee0 := getD_of yy0
      obtain ⟨_, yy1, rfl⟩ := seen_in rfl h.2.1
      have ee1 := getD_of yy1
      exact tupon_value (v := .slice (some ⟨g.w.heap.size, 0, none⟩) 2 2) (w1 := g.w.alloc (.cells #[.int .i64 262144, .int .u8 0, .int .u8 0, .int .u8 0, .int .u8 0, .int .u8 0, .int .u8 0, .int .i64 262144, .int .u8 1, .int .u8 0, .int .u8 0, .int .u8 0, .int .u8 0, .int .u8 0] 63)) (by simp [go_sem, ee0, yy0, ee1, yy1]) ((Below.refl _ _).alloc (Nat.le_refl _) _) ⟨_, _, _, rfl, tx_cells g.w [(262144, [0, 0, 0, 0, 0, 0]), (262144, [1, 0, 0, 0, 0, 0])] (len6_ok (by decide)) (by unfold maxLen; decide)⟩
    · refine ob_gtrue [] _ _ 24 rfl rfl rfl rfl (fun v w h => h) fun aa g h => ?_
      refine tupon_enter (f := 43) (args := #[.int .i64 0, .int .i64 1]) (by simp [go_sem]) rfl ?_
      exact (spanc 0 1 0 65536 g.w (by decide) (by decide) (by decide) (by decide)).mono fun e w' ⟨he, hB⟩ => ⟨_, he, hB, rfl⟩
    · refine ob_gtrue [28, 29] _ _ 24 rfl rfl rfl rfl (fun v w h => h) fun aa g h => ?_
      obtain ⟨_, yy0, ⟨p28, n28, c28, rfl, tx28⟩⟩ := seen_in rfl h.1
      have ee0 := getD_of yy0
      obtain ⟨_, yy1, rfl⟩ := seen_in rfl h.2.1
      have ee1 := getD_of yy1
      exact tupon_value (v := .agg #[.slice p28 n28 c28, .int .i64 0, .int .i64 65536]) (by simp [go_sem, ee0, yy0, ee1, yy1]) (Below.refl _ _) ⟨_, _, _, rfl, tx28⟩
    · refine ob_gtrue [25, 30] _ _ 24 rfl rfl rfl rfl (fun v w h => h) fun aa g h => ?_
      obtain ⟨_, yy0, rfl⟩ := seen_in rfl h.1
      have ee0 := getD_of yy0
      obtain ⟨_, yy1, ⟨p30, n30, c30, rfl, tx30⟩⟩ := seen_in rfl h.2.1
      have ee1 := getD_of yy1
      refine tupon_enter (f := 16) (args := #[.agg #[.slice ps ns cs, .int .i64 0, .int .i64 65536], .agg #[.slice p30 n30 c30, .int .i64 0, .int .i64 65536]]) (by simp [go_sem, ee0, yy0, ee1, yy1]) rfl ?_
      exact (rsamec (.slice ps ns cs) (.slice p30 n30 c30) 0 65536 [(262144, [0, 0, 0, 0, 0, 0]), (262144, [1, 0, 0, 0, 0, 0])] g.w (XS.out.grow g.h) tx30 (by decide)).mono fun e w' ⟨he, hB⟩ => ⟨_, he, hB, rfl⟩
    · refine ob_plain [24, 31] rfl rfl fun aa g h => ?_
      obtain ⟨_, yy0, rfl⟩ := seen_in rfl h.1
      have ee0 := getD_of yy0
      obtain ⟨_, yy1, rfl⟩ := seen_in rfl h.2.1
      have ee1 := getD_of yy1
      exact tupon_value (v := .bool true) (by simp [go_sem, ee0, yy0, ee1, yy1]) (Below.refl _ _) rfl
    · refine ob_plain [32] rfl rfl fun aa g h => ?_
      obtain ⟨_, yy0, rfl⟩ := seen_in rfl h.1
      have ee0 := getD_of yy0
      exact tupon_value (v := .bool true) (by simp [go_sem, ee0, yy0]) (Below.refl _ _) rfl
    · refine ob_gtrue [3] _ _ 33 rfl rfl rfl rfl (fun v w h => h) fun aa g h => ?_
      have yy0 := seen_out (v := .pointer (some ⟨w3.heap.size, 0, none⟩)) rfl rfl h.1
      have ee0 := getD_of yy0
      exact tupon_value (v := .agg #[.slice ps ns cs, .int .i64 0, .int .i64 65536]) (by simp [go_sem, ee0, yy0, k3a g, k3b g, k3c g]) (Below.refl _ _) rfl
    · refine ob_gtrue [34] _ _ 33 rfl rfl rfl rfl (fun v w h => h) fun aa g h => ?_
      obtain ⟨_, yy0, rfl⟩ := seen_in rfl h.1
      have ee0 := getD_of yy0
      refine tupon_enter (f := 29) (args := #[.agg #[.slice ps ns cs, .int .i64 0, .int .i64 65536]]) (by simp [go_sem, ee0, yy0]) rfl ?_
      exact (trange_ok (.slice ps ns cs) 0 65536 [(262144, [0, 0, 0, 0, 0, 0]), (262144, [1, 0, 0, 0, 0, 0])] g.w (XS.out.grow g.h) (tn_ok (by decide)) (by decide) (by decide)).mono fun e w' ⟨he, hB⟩ => ⟨_, he, hB, by rw [sx_r]; rfl⟩
    · refine ob_gtrue [] _ _ 33 rfl rfl rfl rfl (fun v w h => h) fun aa g h => ?_
      refine tupon_enter (f := 43) (args := #[.int .i64 0, .int .i64 9]) (by simp [go_sem]) rfl ?_
      exact (spanc 0 9 0 589824 g.w (by decide) (by decide) (by decide) (by decide)).mono fun e w' ⟨he, hB⟩ => ⟨_, he, hB, rfl⟩
    · refine ob_gtrue [35, 36] _ _ 33 rfl rfl rfl rfl (fun v w h => h) fun aa g h => ?_
      obtain ⟨_, yy0, rfl⟩ := seen_in rfl h.1
      have ee0 := getD_of yy0
      obtain ⟨_, yy1, rfl⟩ := seen_in rfl h.2.1
      have ee1 := getD_of yy1
      exact tupon_value (v := .bool true) (by simp [go_sem, ee0, yy0, ee1, yy1]) (Below.refl _ _) rfl
    · refine ob_plain [33, 37] rfl rfl fun aa g h => ?_
      obtain ⟨_, yy0, rfl⟩ := seen_in rfl h.1
      have ee0 := getD_of yy0
      obtain ⟨_, yy1, rfl⟩ := seen_in rfl h.2.1
      have ee1 := getD_of yy1
      exact tupon_value (v := .bool true) (by simp [go_sem, ee0, yy0, ee1, yy1]) (Below.refl _ _) rfl
    · refine ob_plain [38] rfl rfl fun aa g h => ?_
      obtain ⟨_, yy0, rfl⟩ := seen_in rfl h.1
      have ee0 := getD_of yy0
      exact tupon_value (v := .bool true) (by simp [go_sem, ee0, yy0]) (Below.refl _ _) rfl
    · refine ob_gtrue [4] _ _ 39 rfl rfl rfl rfl (fun v w h => h) fun aa g h => ?_
      have yy0 := seen_out (v := .pointer (some ⟨w5.heap.size, 0, none⟩)) rfl rfl h.1
      have ee0 := getD_of yy0
      exact tupon_value (v := .agg #[.slice pc nc cc, .int .i64 (-65536), .int .i64 65536]) (by simp [go_sem, ee0, yy0, k4a g, k4b g, k4c g]) (Below.refl _ _) rfl
    · refine ob_gtrue [] _ _ 39 rfl rfl rfl rfl (fun v w h => h) fun aa g h => ?_
      refine tupon_enter (f := 47) (args := #[.int .i64 2, .int .u8 0, .int .u8 0]) (by simp [go_sem]) rfl ?_
      exact (termc 2 0 0 131072 g.w (by decide) (by decide)).mono fun e w' ⟨he, hB⟩ => ⟨_, he, hB, rfl⟩
    · refine ob_gtrue [41] _ _ 39 rfl rfl rfl rfl (fun v w h => h) fun aa g h => ?_
      obtain ⟨_, yy0, rfl⟩ := seen_in rfl h.1
      have ee0 := getD_of yy0
      exact tupon_value (v := .slice (some ⟨g.w.heap.size, 0, none⟩) 1 1) (w1 := g.w.alloc (.cells #[.int .i64 131072, .int .u8 0, .int .u8 0, .int .u8 0, .int .u8 0, .int .u8 0, .int .u8 0] 63)) (by simp [go_sem, ee0, yy0]) ((Below.refl _ _).alloc (Nat.le_refl _) _) ⟨_, _, _, rfl, tx_cells g.w [(131072, [0, 0, 0, 0, 0, 0])] (len6_ok (by decide)) (by unfold maxLen; decide)⟩
    · refine ob_gtrue [] _ _ 39 rfl rfl rfl rfl (fun v w h => h) fun aa g h => ?_
      refine tupon_enter (f := 43) (args := #[.int .i64 (-1), .int .i64 1]) (by simp [go_sem]) rfl ?_
      exact (spanc (-1) 1 (-65536) 65536 g.w (by decide) (by decide) (by decide) (by decide)).mono fun e w' ⟨he, hB⟩ => ⟨_, he, hB, rfl⟩
    · refine ob_gtrue [42, 43] _ _ 39 rfl rfl rfl rfl (fun v w h => h) fun aa g h => ?_
      obtain ⟨_, yy0, ⟨p42, n42, c42, rfl, tx42⟩⟩ := seen_in rfl h.1
      have ee0 := getD_of yy0
      obtain ⟨_, yy1, rfl⟩ := seen_in rfl h.2.1
      have ee1 := getD_of yy1
      exact tupon_value (v := .agg #[.slice p42 n42 c42, .int .i64 (-65536), .int .i64 65536]) (by simp [go_sem, ee0, yy0, ee1, yy1]) (Below.refl _ _) ⟨_, _, _, rfl, tx42⟩
    · refine ob_gtrue [40, 44] _ _ 39 rfl rfl rfl rfl (fun v w h => h) fun aa g h => ?_
      obtain ⟨_, yy0, rfl⟩ := seen_in rfl h.1
      have ee0 := getD_of yy0
      obtain ⟨_, yy1, ⟨p44, n44, c44, rfl, tx44⟩⟩ := seen_in rfl h.2.1
      have ee1 := getD_of yy1
      refine tupon_enter (f := 16) (args := #[.agg #[.slice pc nc cc, .int .i64 (-65536), .int .i64 65536], .agg #[.slice p44 n44 c44, .int .i64 (-65536), .int .i64 65536]]) (by simp [go_sem, ee0, yy0, ee1, yy1]) rfl ?_
      exact (rsamec (.slice pc nc cc) (.slice p44 n44 c44) (-65536) 65536 [(131072, [0, 0, 0, 0, 0, 0])] g.w (XC.out.grow g.h) tx44 (by decide)).mono fun e w' ⟨he, hB⟩ => ⟨_, he, hB, rfl⟩
    · refine ob_plain [39, 45] rfl rfl fun aa g h => ?_
      obtain ⟨_, yy0, rfl⟩ := seen_in rfl h.1
      have ee0 := getD_of yy0
      obtain ⟨_, yy1, rfl⟩ := seen_in rfl h.2.1
      have ee1 := getD_of yy1
      exact tupon_value (v := .bool true) (by simp [go_sem, ee0, yy0, ee1, yy1]) (Below.refl _ _) rfl
    · refine ob_plain [46] rfl rfl fun aa g h => ?_
      obtain ⟨_, yy0, rfl⟩ := seen_in rfl h.1
      have ee0 := getD_of yy0
      exact tupon_value (v := .bool true) (by simp [go_sem, ee0, yy0]) (Below.refl _ _) rfl
    · refine ob_gtrue [5] _ _ 47 rfl rfl rfl rfl (fun v w h => h) fun aa g h => ?_
      have yy0 := seen_out (v := .pointer (some ⟨X5, 0, none⟩)) rfl rfl h.1
      have ee0 := getD_of yy0
      exact tupon_value (v := .pointer (some ⟨X5, 0, none⟩)) (by simp [go_sem, ee0, yy0]) (Below.refl _ _) rfl
    · refine ob_gtrue [48] _ _ 47 rfl rfl rfl rfl (fun v w h => h) fun aa g h => ?_
      obtain ⟨_, yy0, rfl⟩ := seen_in rfl h.1
      have ee0 := getD_of yy0
      exact tupon_value (v := .slice p17 0 c17) (by simp [go_sem, ee0, yy0, k5a g]) (Below.refl _ _) rfl
    · refine ob_gtrue [49] _ _ 47 rfl rfl rfl rfl (fun v w h => h) fun aa g h => ?_
      obtain ⟨_, yy0, rfl⟩ := seen_in rfl h.1
      have ee0 := getD_of yy0
      exact tupon_value (v := .int .i64 0) (by simp [go_sem, ee0, yy0]) (Below.refl _ _) rfl
    · refine ob_gtrue [50] _ _ 47 rfl rfl rfl rfl (fun v w h => h) fun aa g h => ?_
      obtain ⟨_, yy0, rfl⟩ := seen_in rfl h.1
      have ee0 := getD_of yy0
      exact tupon_value (v := .bool true) (by simp [go_sem, ee0, yy0]) (Below.refl _ _) rfl
    · refine ob_plain [47, 51] rfl rfl fun aa g h => ?_
      obtain ⟨_, yy0, rfl⟩ := seen_in rfl h.1
      have ee0 := getD_of yy0
      obtain ⟨_, yy1, rfl⟩ := seen_in rfl h.2.1
      have ee1 := getD_of yy1
      exact tupon_value (v := .bool true) (by simp [go_sem, ee0, yy0, ee1, yy1]) (Below.refl _ _) rfl
    · refine ob_plain [52] rfl rfl fun aa g h => ?_
      obtain ⟨_, yy0, rfl⟩ := seen_in rfl h.1
      have ee0 := getD_of yy0
      exact tupon_value (v := .bool true) (by simp [go_sem, ee0, yy0]) (Below.refl _ _) rfl
    · refine ob_gtrue [5] _ _ 53 rfl rfl rfl rfl (fun v w h => h) fun aa g h => ?_
      have yy0 := seen_out (v := .pointer (some ⟨X5, 0, none⟩)) rfl rfl h.1
      have ee0 := getD_of yy0
      exact tupon_value (v := .pointer (some ⟨X5, 1, none⟩)) (by simp [go_sem, ee0, yy0]) (Below.refl _ _) rfl
    · refine ob_gtrue [54] _ _ 53 rfl rfl rfl rfl (fun v w h => h) fun aa g h => ?_
      obtain ⟨_, yy0, rfl⟩ := seen_in rfl h.1
      have ee0 := getD_of yy0
      exact tupon_value (v := .agg #[.int .i64 0, .int .i64 0]) (by simp [go_sem, ee0, yy0, k5b g, k5c g]) (Below.refl _ _) rfl
    · refine ob_gtrue [] _ _ 53 rfl rfl rfl rfl (fun v w h => h) fun aa g h => ?_
      exact tupon_value (v := .agg #[.int .i64 0, .int .i64 0]) (by simp [go_sem]) (Below.refl _ _) rfl
    · refine ob_gtrue [55, 56] _ _ 53 rfl rfl rfl rfl (fun v w h => h) fun aa g h => ?_
      obtain ⟨_, yy0, rfl⟩ := seen_in rfl h.1
      have ee0 := getD_of yy0
      obtain ⟨_, yy1, rfl⟩ := seen_in rfl h.2.1
      have ee1 := getD_of yy1
      exact tupon_value (v := .bool true) (by simp [go_sem, ee0, yy0, ee1, yy1]) (Below.refl _ _) rfl
    · refine ob_plain [53, 57] rfl rfl fun aa g h => ?_
      obtain ⟨_, yy0, rfl⟩ := seen_in rfl h.1
      have ee0 := getD_of yy0
      obtain ⟨_, yy1, rfl⟩ := seen_in rfl h.2.1
      have ee1 := getD_of yy1
      exact tupon_value (v := .bool true) (by simp [go_sem, ee0, yy0, ee1, yy1]) (Below.refl _ _) rfl
    · refine ob_plain [58] rfl rfl fun aa g h => ?_
      obtain ⟨_, yy0, rfl⟩ := seen_in rfl h.1
      have ee0 := getD_of yy0
      exact tupon_value (v := .bool true) (by simp [go_sem, ee0, yy0]) (Below.refl _ _) rfl
    · refine ob_gtrue [1] _ _ 59 rfl rfl rfl rfl (fun v w h => h) fun aa g h => ?_
      have yy0 := seen_out (v := .pointer (some ⟨w.heap.size, 0, none⟩)) rfl rfl h.1
      have ee0 := getD_of yy0
      exact tupon_value (v := .agg #[.int .i64 (-2147483648), .int .i64 2147483648]) (by simp [go_sem, ee0, yy0, k1a g, k1b g]) (Below.refl _ _) rfl
    · refine ob_gtrue [60] _ _ 59 rfl rfl rfl rfl (fun v w h => h) fun aa g h => ?_
      obtain ⟨_, yy0, rfl⟩ := seen_in rfl h.1
      have ee0 := getD_of yy0
      refine tupon_enter (f := 33) (args := #[.agg #[.int .i64 (-2147483648), .int .i64 2147483648]]) (by simp [go_sem, ee0, yy0]) rfl ?_
      exact (iso (tconst_ok (-2147483648) 2147483648 g.w (by decide)) sx_e).mono fun e w' ⟨r, he, hx, hc, hB⟩ => ⟨_, he, hB, by obtain ⟨p, n, c, e1, e2⟩ := hc; subst e1; exact ⟨p, n, c, rfl, hx, ⟨p, n, c, rfl, e2⟩⟩⟩
    · refine ob_gtrue [1] _ _ 59 rfl rfl rfl rfl (fun v w h => h) fun aa g h => ?_
      have yy0 := seen_out (v := .pointer (some ⟨w.heap.size, 0, none⟩)) rfl rfl h.1
      have ee0 := getD_of yy0
      exact tupon_value (v := .agg #[.int .i64 (-2147483648), .int .i64 2147483648]) (by simp [go_sem, ee0, yy0, k1a g, k1b g]) (Below.refl _ _) rfl
    · refine ob_gtrue [62] _ _ 59 rfl rfl rfl rfl (fun v w h => h) fun aa g h => ?_
      obtain ⟨_, yy0, rfl⟩ := seen_in rfl h.1
      have ee0 := getD_of yy0
      exact tupon_value (v := .agg #[.slice none 0 0, .int .i64 (-2147483648), .int .i64 2147483648]) (by simp [go_sem, ee0, yy0]) (Below.refl _ _) rfl
    · refine ob_gtrue [61, 63] _ _ 59 rfl rfl rfl rfl (fun v w h => h) fun aa g h => ?_
      obtain ⟨_, yy0, ⟨p61, n61, c61, rfl, tx61, cp61⟩⟩ := seen_in rfl h.1
      have ee0 := getD_of yy0
      obtain ⟨_, yy1, rfl⟩ := seen_in rfl h.2.1
      have ee1 := getD_of yy1
      refine tupon_enter (f := 16) (args := #[.agg #[.slice p61 n61 c61, .int .i64 (-2147483648), .int .i64 2147483648], .agg #[.slice none 0 0, .int .i64 (-2147483648), .int .i64 2147483648]]) (by simp [go_sem, ee0, yy0, ee1, yy1]) rfl ?_
      exact (rsamec (.slice p61 n61 c61) (.slice none 0 0) (-2147483648) 2147483648 [] g.w tx61 (Tx.nil _ _ _) (by decide)).mono fun e w' ⟨he, hB⟩ => ⟨_, he, hB, rfl⟩
    · refine ob_plain [59, 64] rfl rfl fun aa g h => ?_
      obtain ⟨_, yy0, rfl⟩ := seen_in rfl h.1
      have ee0 := getD_of yy0
      obtain ⟨_, yy1, rfl⟩ := seen_in rfl h.2.1
      have ee1 := getD_of yy1
      exact tupon_value (v := .bool true) (by simp [go_sem, ee0, yy0, ee1, yy1]) (Below.refl _ _) rfl
    · refine ob_plain [65] rfl rfl fun aa g h => ?_
      obtain ⟨_, yy0, rfl⟩ := seen_in rfl h.1
      have ee0 := getD_of yy0
      exact tupon_value (v := .bool true) (by simp [go_sem, ee0, yy0]) (Below.refl _ _) rfl
    · refine ob_gtrue [1] _ _ 66 rfl rfl rfl rfl (fun v w h => h) fun aa g h => ?_
      have yy0 := seen_out (v := .pointer (some ⟨w.heap.size, 0, none⟩)) rfl rfl h.1
      have ee0 := getD_of yy0
      exact tupon_value (v := .agg #[.int .i64 (-2147483648), .int .i64 2147483648]) (by simp [go_sem, ee0, yy0, k1a g, k1b g]) (Below.refl _ _) rfl
    · refine ob_gtrue [67] _ _ 66 rfl rfl rfl rfl (fun v w h => h) fun aa g h => ?_
      obtain ⟨_, yy0, rfl⟩ := seen_in rfl h.1
      have ee0 := getD_of yy0
      refine tupon_enter (f := 33) (args := #[.agg #[.int .i64 (-2147483648), .int .i64 2147483648]]) (by simp [go_sem, ee0, yy0]) rfl ?_
      exact (iso (tconst_ok (-2147483648) 2147483648 g.w (by decide)) sx_e).mono fun e w' ⟨r, he, hx, hc, hB⟩ => ⟨_, he, hB, by obtain ⟨p, n, c, e1, e2⟩ := hc; subst e1; exact ⟨p, n, c, rfl, hx, ⟨p, n, c, rfl, e2⟩⟩⟩
    · refine ob_gtrue [2] _ _ 66 rfl rfl rfl rfl (fun v w h => h) fun aa g h => ?_
      have yy0 := seen_out (v := .pointer (some ⟨w2.heap.size, 0, none⟩)) rfl rfl h.1
      have ee0 := getD_of yy0
      exact tupon_value (v := .agg #[.slice pv nv cv, .int .i64 0, .int .i64 0]) (by simp [go_sem, ee0, yy0, k2a g, k2b g, k2c g]) (Below.refl _ _) rfl
    · refine ob_gtrue [68, 69] _ _ 66 rfl rfl rfl rfl (fun v w h => h) fun aa g h => ?_
      obtain ⟨_, yy0, ⟨p68, n68, c68, rfl, tx68, cp68⟩⟩ := seen_in rfl h.1
      have ee0 := getD_of yy0
      obtain ⟨_, yy1, rfl⟩ := seen_in rfl h.2.1
      have ee1 := getD_of yy1
      refine tupon_enter (f := 19) (args := #[.agg #[.slice p68 n68 c68, .int .i64 (-2147483648), .int .i64 2147483648], .agg #[.slice pv nv cv, .int .i64 0, .int .i64 0]]) (by simp [go_sem, ee0, yy0, ee1, yy1]) rfl ?_
      exact (iso (tsub_ok (.slice p68 n68 c68) (.slice pv nv cv) (-2147483648) 2147483648 0 0 [] [(131072, [0, 0, 0, 0, 0, 0]), (65536, [1, 0, 0, 0, 0, 0])] g.w tx68 (tn_ok (by decide)) (by decide) cp68 (XV.out.grow g.h) (tn_ok (by decide)) (by decide) CV.out (by decide) (by decide)) sx_u).mono fun e w' ⟨r, he, hx, hc, hB⟩ => ⟨_, he, hB, by obtain ⟨p, n, c, e1, e2⟩ := hc; subst e1; exact ⟨p, n, c, rfl, hx, ⟨p, n, c, rfl, e2⟩⟩⟩
    · refine ob_gtrue [1] _ _ 66 rfl rfl rfl rfl (fun v w h => h) fun aa g h => ?_
      have yy0 := seen_out (v := .pointer (some ⟨w.heap.size, 0, none⟩)) rfl rfl h.1
      have ee0 := getD_of yy0
      exact tupon_value (v := .agg #[.int .i64 (-2147483648), .int .i64 2147483648]) (by simp [go_sem, ee0, yy0, k1a g, k1b g]) (Below.refl _ _) rfl
    · refine ob_gtrue [71] _ _ 66 rfl rfl rfl rfl (fun v w h => h) fun aa g h => ?_
      obtain ⟨_, yy0, rfl⟩ := seen_in rfl h.1
      have ee0 := getD_of yy0
      exact tupon_value (v := .agg #[.slice none 0 0, .int .i64 (-2147483648), .int .i64 2147483648]) (by simp [go_sem, ee0, yy0]) (Below.refl _ _) rfl
    · refine ob_gtrue [70, 72] _ _ 66 rfl rfl rfl rfl (fun v w h => h) fun aa g h => ?_
      obtain ⟨_, yy0, ⟨p70, n70, c70, rfl, tx70, cp70⟩⟩ := seen_in rfl h.1
      have ee0 := getD_of yy0
      obtain ⟨_, yy1, rfl⟩ := seen_in rfl h.2.1
      have ee1 := getD_of yy1
      refine tupon_enter (f := 16) (args := #[.agg #[.slice p70 n70 c70, .int .i64 (-2147483648), .int .i64 2147483648], .agg #[.slice none 0 0, .int .i64 (-2147483648), .int .i64 2147483648]]) (by simp [go_sem, ee0, yy0, ee1, yy1]) rfl ?_
      exact (rsamec (.slice p70 n70 c70) (.slice none 0 0) (-2147483648) 2147483648 [] g.w tx70 (Tx.nil _ _ _) (by decide)).mono fun e w' ⟨he, hB⟩ => ⟨_, he, hB, rfl⟩
    · refine ob_plain [66, 73] rfl rfl fun aa g h => ?_
      obtain ⟨_, yy0, rfl⟩ := seen_in rfl h.1
      have ee0 := getD_of yy0
      obtain ⟨_, yy1, rfl⟩ := seen_in rfl h.2.1
      have ee1 := getD_of yy1
      exact tupon_value (v := .bool true) (by simp [go_sem, ee0, yy0, ee1, yy1]) (Below.refl _ _) rfl
    · refine ob_plain [74] rfl rfl fun aa g h => ?_
      obtain ⟨_, yy0, rfl⟩ := seen_in rfl h.1
      have ee0 := getD_of yy0
      exact tupon_value (v := .bool true) (by simp [go_sem, ee0, yy0]) (Below.refl _ _) rfl
    · refine ob_gtrue [3] _ _ 75 rfl rfl rfl rfl (fun v w h => h) fun aa g h => ?_
      have yy0 := seen_out (v := .pointer (some ⟨w3.heap.size, 0, none⟩)) rfl rfl h.1
      have ee0 := getD_of yy0
      exact tupon_value (v := .agg #[.slice ps ns cs, .int .i64 0, .int .i64 65536]) (by simp [go_sem, ee0, yy0, k3a g, k3b g, k3c g]) (Below.refl _ _) rfl
    · refine ob_gtrue [76] _ _ 75 rfl rfl rfl rfl (fun v w h => h) fun aa g h => ?_
      obtain ⟨_, yy0, rfl⟩ := seen_in rfl h.1
      have ee0 := getD_of yy0
      refine tupon_enter (f := 14) (args := #[.agg #[.slice ps ns cs, .int .i64 0, .int .i64 65536]]) (by simp [go_sem, ee0, yy0]) rfl ?_
      exact (tvalid_ok (.slice ps ns cs) 0 65536 [(262144, [0, 0, 0, 0, 0, 0]), (262144, [1, 0, 0, 0, 0, 0])] true g.w (XS.out.grow g.h) (tv_ok (by decide)) ⟨fun _ => ⟨(vpB_iff _).1 vp_s, by decide, .inr (by decide)⟩, fun _ => rfl⟩).mono fun e w' ⟨he, hB⟩ => ⟨_, he, hB, rfl⟩
    · refine ob_plain [75, 77] rfl rfl fun aa g h => ?_
      obtain ⟨_, yy0, rfl⟩ := seen_in rfl h.1
      have ee0 := getD_of yy0
      obtain ⟨_, yy1, rfl⟩ := seen_in rfl h.2.1
      have ee1 := getD_of yy1
      exact tupon_value (v := .bool true) (by simp [go_sem, ee0, yy0, ee1, yy1]) (Below.refl _ _) rfl
    · refine ob_plain [78] rfl rfl fun aa g h => ?_
      obtain ⟨_, yy0, rfl⟩ := seen_in rfl h.1
      have ee0 := getD_of yy0
      exact tupon_value (v := .bool true) (by simp [go_sem, ee0, yy0]) (Below.refl _ _) rfl
    · refine ob_gtrue [3] _ _ 79 rfl rfl rfl rfl (fun v w h => h) fun aa g h => ?_
      have yy0 := seen_out (v := .pointer (some ⟨w3.heap.size, 0, none⟩)) rfl rfl h.1
      have ee0 := getD_of yy0
      exact tupon_value (v := .pointer (some ⟨w3.heap.size, 0, none⟩)) (by simp [go_sem, ee0, yy0]) (Below.refl _ _) rfl
    · refine ob_gtrue [80] _ _ 79 rfl rfl rfl rfl (fun v w h => h) fun aa g h => ?_
      obtain ⟨_, yy0, rfl⟩ := seen_in rfl h.1
      have ee0 := getD_of yy0
      exact tupon_value (v := .slice ps ns cs) (by simp [go_sem, ee0, yy0, k3a g]) (Below.refl _ _) rfl
    · refine ob_gtrue [1] _ _ 79 rfl rfl rfl rfl (fun v w h => h) fun aa g h => ?_
      have yy0 := seen_out (v := .pointer (some ⟨w.heap.size, 0, none⟩)) rfl rfl h.1
      have ee0 := getD_of yy0
      exact tupon_value (v := .agg #[.int .i64 (-2147483648), .int .i64 2147483648]) (by simp [go_sem, ee0, yy0, k1a g, k1b g]) (Below.refl _ _) rfl
    · refine ob_gtrue [81, 82] _ _ 79 rfl rfl rfl rfl (fun v w h => h) fun aa g h => ?_
      obtain ⟨_, yy0, rfl⟩ := seen_in rfl h.1
      have ee0 := getD_of yy0
      obtain ⟨_, yy1, rfl⟩ := seen_in rfl h.2.1
      have ee1 := getD_of yy1
      exact tupon_value (v := .agg #[.slice ps ns cs, .int .i64 (-2147483648), .int .i64 2147483648]) (by simp [go_sem, ee0, yy0, ee1, yy1]) (Below.refl _ _) rfl
    · refine ob_gtrue [83] _ _ 79 rfl rfl rfl rfl (fun v w h => h) fun aa g h => ?_
      obtain ⟨_, yy0, rfl⟩ := seen_in rfl h.1
      have ee0 := getD_of yy0
      refine tupon_enter (f := 14) (args := #[.agg #[.slice ps ns cs, .int .i64 (-2147483648), .int .i64 2147483648]]) (by simp [go_sem, ee0, yy0]) rfl ?_
      exact (tvalid_ok (.slice ps ns cs) (-2147483648) 2147483648 [(262144, [0, 0, 0, 0, 0, 0]), (262144, [1, 0, 0, 0, 0, 0])] false g.w (XS.out.grow g.h) (tv_ok (by decide)) ⟨fun h => Bool.noConfusion h, fun h => absurd h.2.2 (by decide)⟩).mono fun e w' ⟨he, hB⟩ => ⟨_, he, hB, rfl⟩
    · refine ob_gtrue [84] _ _ 79 rfl rfl rfl rfl (fun v w h => h) fun aa g h => ?_
      obtain ⟨_, yy0, rfl⟩ := seen_in rfl h.1
      have ee0 := getD_of yy0
      exact tupon_value (v := .bool true) (by simp [go_sem, ee0, yy0]) (Below.refl _ _) rfl
    · refine ob_plain [79, 85] rfl rfl fun aa g h => ?_
      obtain ⟨_, yy0, rfl⟩ := seen_in rfl h.1
      have ee0 := getD_of yy0
      obtain ⟨_, yy1, rfl⟩ := seen_in rfl h.2.1
      have ee1 := getD_of yy1
      exact tupon_value (v := .bool true) (by simp [go_sem, ee0, yy0, ee1, yy1]) (Below.refl _ _) rfl
    · refine ob_plain [86] rfl rfl fun aa g h => ?_
      obtain ⟨_, yy0, rfl⟩ := seen_in rfl h.1
      have ee0 := getD_of yy0
      exact tupon_value (v := .bool true) (by simp [go_sem, ee0, yy0]) (Below.refl _ _) rfl
    · refine ob_gtrue [3] _ _ 87 rfl rfl rfl rfl (fun v w h => h) fun aa g h => ?_
      have yy0 := seen_out (v := .pointer (some ⟨w3.heap.size, 0, none⟩)) rfl rfl h.1
      have ee0 := getD_of yy0
      exact tupon_value (v := .agg #[.slice ps ns cs, .int .i64 0, .int .i64 65536]) (by simp [go_sem, ee0, yy0, k3a g, k3b g, k3c g]) (Below.refl _ _) rfl
    · refine ob_gtrue [] _ _ 87 rfl rfl rfl rfl (fun v w h => h) fun aa g h => ?_
      exact tupon_value (v := .slice (some ⟨g.w.heap.size, 0, none⟩) 1 1) (w1 := g.w.alloc (.cells #[.int .i8 1] 58)) (by simp [go_sem]) ((Below.refl _ _).alloc (Nat.le_refl _) _) (s8_one _ _)
    · refine ob_gtrue [89] _ _ 87 rfl rfl rfl rfl (fun v w h => h) fun aa g h => ?_
      obtain ⟨v89, yy0, bx89⟩ := seen_in rfl h.1
      have ee0 := getD_of yy0
      refine tupon_enter (f := 44) (args := #[v89]) (by simp [go_sem, ee0, yy0]) rfl ?_
      exact (corner_ok v89 [1] g.w bx89 (by decide)).mono fun e w' ⟨r, he, hb, hB⟩ => ⟨_, he, hB, (show Bx w' r [(65536, 65536), (0, 0), (0, 0), (0, 0), (0, 0), (0, 0)] from by rw [← sx_k]; exact hb)⟩
    · refine ob_gtrue [88, 90] _ _ 87 rfl rfl rfl rfl (fun v w h => h) fun aa g h => ?_
      obtain ⟨_, yy0, rfl⟩ := seen_in rfl h.1
      have ee0 := getD_of yy0
      obtain ⟨v90, yy1, bx90⟩ := seen_in rfl h.2.1
      have ee1 := getD_of yy1
      refine tupon_enter (f := 37) (args := #[.agg #[.slice ps ns cs, .int .i64 0, .int .i64 65536], v90]) (by simp [go_sem, ee0, yy0, ee1, yy1]) rfl ?_
      exact (teval_ok (.slice ps ns cs) v90 0 65536 [(262144, [0, 0, 0, 0, 0, 0]), (262144, [1, 0, 0, 0, 0, 0])] [(65536, 65536), (0, 0), (0, 0), (0, 0), (0, 0), (0, 0)] g.w (XS.out.grow g.h) (tn_ok (by decide)) (by decide) (by decide) bx90 (by decide)).mono fun e w' ⟨he, hB⟩ => ⟨_, he, hB, by rw [sx_l]; rfl⟩
    · refine ob_gtrue [] _ _ 87 rfl rfl rfl rfl (fun v w h => h) fun aa g h => ?_
      refine tupon_enter (f := 43) (args := #[.int .i64 8, .int .i64 9]) (by simp [go_sem]) rfl ?_
      exact (spanc 8 9 524288 589824 g.w (by decide) (by decide) (by decide) (by decide)).mono fun e w' ⟨he, hB⟩ => ⟨_, he, hB, rfl⟩
    · refine ob_gtrue [91, 92] _ _ 87 rfl rfl rfl rfl (fun v w h => h) fun aa g h => ?_
      obtain ⟨_, yy0, rfl⟩ := seen_in rfl h.1
      have ee0 := getD_of yy0
      obtain ⟨_, yy1, rfl⟩ := seen_in rfl h.2.1
      have ee1 := getD_of yy1
      exact tupon_value (v := .bool true) (by simp [go_sem, ee0, yy0, ee1, yy1]) (Below.refl _ _) rfl
    · refine ob_plain [87, 93] rfl rfl fun aa g h => ?_
      obtain ⟨_, yy0, rfl⟩ := seen_in rfl h.1
      have ee0 := getD_of yy0
      obtain ⟨_, yy1, rfl⟩ := seen_in rfl h.2.1
      have ee1 := getD_of yy1
      exact tupon_value (v := .bool true) (by simp [go_sem, ee0, yy0, ee1, yy1]) (Below.refl _ _) rfl
    · refine ob_plain [94] rfl rfl fun aa g h => ?_
      obtain ⟨_, yy0, rfl⟩ := seen_in rfl h.1
      have ee0 := getD_of yy0
      exact tupon_value (v := .bool true) (by simp [go_sem, ee0, yy0]) (Below.refl _ _) rfl
    · refine ob_gtrue [2] _ _ 95 rfl rfl rfl rfl (fun v w h => h) fun aa g h => ?_
      have yy0 := seen_out (v := .pointer (some ⟨w2.heap.size, 0, none⟩)) rfl rfl h.1
      have ee0 := getD_of yy0
      exact tupon_value (v := .agg #[.slice pv nv cv, .int .i64 0, .int .i64 0]) (by simp [go_sem, ee0, yy0, k2a g, k2b g, k2c g]) (Below.refl _ _) rfl
    · refine ob_gtrue [96] _ _ 95 rfl rfl rfl rfl (fun v w h => h) fun aa g h => ?_
      obtain ⟨_, yy0, rfl⟩ := seen_in rfl h.1
      have ee0 := getD_of yy0
      refine tupon_enter (f := 27) (args := #[.agg #[.slice pv nv cv, .int .i64 0, .int .i64 0], .int .i64 0]) (by simp [go_sem, ee0, yy0]) rfl ?_
      exact (iso (ttrunc_ok (.slice pv nv cv) 0 0 0 [(131072, [0, 0, 0, 0, 0, 0]), (65536, [1, 0, 0, 0, 0, 0])] g.w (XV.out.grow g.h) (tn_ok (by decide)) (by decide) (by decide)) sx_t).mono fun e w' ⟨r, he, hx, hc, hB⟩ => ⟨_, he, hB, by obtain ⟨p, n, c, e1, e2⟩ := hc; subst e1; exact ⟨p, n, c, rfl, hx, ⟨p, n, c, rfl, e2⟩⟩⟩
    · refine ob_gtrue [] _ _ 95 rfl rfl rfl rfl (fun v w h => h) fun aa g h => ?_
      refine tupon_enter (f := 47) (args := #[.int .i64 2, .int .u8 0, .int .u8 0]) (by simp [go_sem]) rfl ?_
      exact (termc 2 0 0 131072 g.w (by decide) (by decide)).mono fun e w' ⟨he, hB⟩ => ⟨_, he, hB, rfl⟩
    · refine ob_gtrue [98] _ _ 95 rfl rfl rfl rfl (fun v w h => h) fun aa g h => ?_
      obtain ⟨_, yy0, rfl⟩ := seen_in rfl h.1
      have ee0 := getD_of yy0
      exact tupon_value (v := .slice (some ⟨g.w.heap.size, 0, none⟩) 1 1) (w1 := g.w.alloc (.cells #[.int .i64 131072, .int .u8 0, .int .u8 0, .int .u8 0, .int .u8 0, .int .u8 0, .int .u8 0] 63)) (by simp [go_sem, ee0, yy0]) ((Below.refl _ _).alloc (Nat.le_refl _) _) ⟨_, _, _, rfl, tx_cells g.w [(131072, [0, 0, 0, 0, 0, 0])] (len6_ok (by decide)) (by unfold maxLen; decide)⟩
    · refine ob_gtrue [] _ _ 95 rfl rfl rfl rfl (fun v w h => h) fun aa g h => ?_
      refine tupon_enter (f := 43) (args := #[.int .i64 (-1), .int .i64 1]) (by simp [go_sem]) rfl ?_
      exact (spanc (-1) 1 (-65536) 65536 g.w (by decide) (by decide) (by decide) (by decide)).mono fun e w' ⟨he, hB⟩ => ⟨_, he, hB, rfl⟩
    · refine ob_gtrue [99, 100] _ _ 95 rfl rfl rfl rfl (fun v w h => h) fun aa g h => ?_
      obtain ⟨_, yy0, ⟨p99, n99, c99, rfl, tx99⟩⟩ := seen_in rfl h.1
      have ee0 := getD_of yy0
      obtain ⟨_, yy1, rfl⟩ := seen_in rfl h.2.1
      have ee1 := getD_of yy1
      exact tupon_value (v := .agg #[.slice p99 n99 c99, .int .i64 (-65536), .int .i64 65536]) (by simp [go_sem, ee0, yy0, ee1, yy1]) (Below.refl _ _) ⟨_, _, _, rfl, tx99⟩
    · refine ob_gtrue [97, 101] _ _ 95 rfl rfl rfl rfl (fun v w h => h) fun aa g h => ?_
      obtain ⟨_, yy0, ⟨p97, n97, c97, rfl, tx97, cp97⟩⟩ := seen_in rfl h.1
      have ee0 := getD_of yy0
      obtain ⟨_, yy1, ⟨p101, n101, c101, rfl, tx101⟩⟩ := seen_in rfl h.2.1
      have ee1 := getD_of yy1
      refine tupon_enter (f := 16) (args := #[.agg #[.slice p97 n97 c97, .int .i64 (-65536), .int .i64 65536], .agg #[.slice p101 n101 c101, .int .i64 (-65536), .int .i64 65536]]) (by simp [go_sem, ee0, yy0, ee1, yy1]) rfl ?_
      exact (rsamec (.slice p97 n97 c97) (.slice p101 n101 c101) (-65536) 65536 [(131072, [0, 0, 0, 0, 0, 0])] g.w tx97 tx101 (by decide)).mono fun e w' ⟨he, hB⟩ => ⟨_, he, hB, rfl⟩
    · refine ob_plain [95, 102] rfl rfl fun aa g h => ?_
      obtain ⟨_, yy0, rfl⟩ := seen_in rfl h.1
      have ee0 := getD_of yy0
      obtain ⟨_, yy1, rfl⟩ := seen_in rfl h.2.1
      have ee1 := getD_of yy1
      exact tupon_value (v := .bool true) (by simp [go_sem, ee0, yy0, ee1, yy1]) (Below.refl _ _) rfl
    · refine ob_plain [103] rfl rfl fun aa g h => ?_
      obtain ⟨_, yy0, rfl⟩ := seen_in rfl h.1
      have ee0 := getD_of yy0
      exact tupon_value (v := .bool true) (by simp [go_sem, ee0, yy0]) (Below.refl _ _) rfl
    · refine ob_gtrue [2] _ _ 104 rfl rfl rfl rfl (fun v w h => h) fun aa g h => ?_
      have yy0 := seen_out (v := .pointer (some ⟨w2.heap.size, 0, none⟩)) rfl rfl h.1
      have ee0 := getD_of yy0
      exact tupon_value (v := .agg #[.slice pv nv cv, .int .i64 0, .int .i64 0]) (by simp [go_sem, ee0, yy0, k2a g, k2b g, k2c g]) (Below.refl _ _) rfl
    · refine ob_gtrue [] _ _ 104 rfl rfl rfl rfl (fun v w h => h) fun aa g h => ?_
      refine tupon_enter (f := 43) (args := #[.int .i64 2, .int .i64 2]) (by simp [go_sem]) rfl ?_
      exact (spanc 2 2 131072 131072 g.w (by decide) (by decide) (by decide) (by decide)).mono fun e w' ⟨he, hB⟩ => ⟨_, he, hB, rfl⟩
    · refine ob_gtrue [105, 106] _ _ 104 rfl rfl rfl rfl (fun v w h => h) fun aa g h => ?_
      obtain ⟨_, yy0, rfl⟩ := seen_in rfl h.1
      have ee0 := getD_of yy0
      obtain ⟨_, yy1, rfl⟩ := seen_in rfl h.2.1
      have ee1 := getD_of yy1
      refine tupon_enter (f := 25) (args := #[.agg #[.slice pv nv cv, .int .i64 0, .int .i64 0], .agg #[.int .i64 131072, .int .i64 131072]]) (by simp [go_sem, ee0, yy0, ee1, yy1]) rfl ?_
      exact (iso (tmuli_ok (.slice pv nv cv) 0 0 131072 131072 [(131072, [0, 0, 0, 0, 0, 0]), (65536, [1, 0, 0, 0, 0, 0])] g.w (XV.out.grow g.h) (tn_ok (by decide)) (by decide) (by decide) (by decide)) sx_m).mono fun e w' ⟨r, he, hx, hc, hB⟩ => ⟨_, he, hB, by obtain ⟨p, n, c, e1, e2⟩ := hc; subst e1; exact ⟨p, n, c, rfl, hx, ⟨p, n, c, rfl, e2⟩⟩⟩
    · refine ob_gtrue [] _ _ 104 rfl rfl rfl rfl (fun v w h => h) fun aa g h => ?_
      refine tupon_enter (f := 47) (args := #[.int .i64 4, .int .u8 0, .int .u8 0]) (by simp [go_sem]) rfl ?_
      exact (termc 4 0 0 262144 g.w (by decide) (by decide)).mono fun e w' ⟨he, hB⟩ => ⟨_, he, hB, rfl⟩
    · refine ob_gtrue [] _ _ 104 rfl rfl rfl rfl (fun v w h => h) fun aa g h => ?_
      refine tupon_enter (f := 47) (args := #[.int .i64 2, .int .u8 1, .int .u8 0]) (by simp [go_sem]) rfl ?_
      exact (termc 2 1 0 131072 g.w (by decide) (by decide)).mono fun e w' ⟨he, hB⟩ => ⟨_, he, hB, rfl⟩
    · refine ob_gtrue [108, 109] _ _ 104 rfl rfl rfl rfl (fun v w h => h) fun aa g h => ?_
      obtain ⟨_, yy0, rfl⟩ := seen_in rfl h.1
      have ee0 := getD_of yy0
      obtain ⟨_, yy1, rfl⟩ := seen_in rfl h.2.1
      have ee1 := getD_of yy1
      exact tupon_value (v := .slice (some ⟨g.w.heap.size, 0, none⟩) 2 2) (w1 := g.w.alloc (.cells #[.int .i64 262144, .int .u8 0, .int .u8 0, .int .u8 0, .int .u8 0, .int .u8 0, .int .u8 0, .int .i64 131072, .int .u8 1, .int .u8 0, .int .u8 0, .int .u8 0, .int .u8 0, .int .u8 0] 63)) (by simp [go_sem, ee0, yy0, ee1, yy1]) ((Below.refl _ _).alloc (Nat.le_refl _) _) ⟨_, _, _, rfl, tx_cells g.w [(262144, [0, 0, 0, 0, 0, 0]), (131072, [1, 0, 0, 0, 0, 0])] (len6_ok (by decide)) (by unfold maxLen; decide)⟩
    · refine ob_gtrue [110] _ _ 104 rfl rfl rfl rfl (fun v w h => h) fun aa g h => ?_
      obtain ⟨_, yy0, ⟨p110, n110, c110, rfl, tx110⟩⟩ := seen_in rfl h.1
      have ee0 := getD_of yy0
      exact tupon_value (v := .agg #[.slice p110 n110 c110, .int .i64 0, .int .i64 0]) (by simp [go_sem, ee0, yy0]) (Below.refl _ _) ⟨_, _, _, rfl, tx110⟩
    · refine ob_gtrue [107, 111] _ _ 104 rfl rfl rfl rfl (fun v w h => h) fun aa g h => ?_
      obtain ⟨_, yy0, ⟨p107, n107, c107, rfl, tx107, cp107⟩⟩ := seen_in rfl h.1
      have ee0 := getD_of yy0
      obtain ⟨_, yy1, ⟨p111, n111, c111, rfl, tx111⟩⟩ := seen_in rfl h.2.1
      have ee1 := getD_of yy1
      refine tupon_enter (f := 16) (args := #[.agg #[.slice p107 n107 c107, .int .i64 0, .int .i64 0], .agg #[.slice p111 n111 c111, .int .i64 0, .int .i64 0]]) (by simp [go_sem, ee0, yy0, ee1, yy1]) rfl ?_
      exact (rsamec (.slice p107 n107 c107) (.slice p111 n111 c111) 0 0 [(262144, [0, 0, 0, 0, 0, 0]), (131072, [1, 0, 0, 0, 0, 0])] g.w tx107 tx111 (by decide)).mono fun e w' ⟨he, hB⟩ => ⟨_, he, hB, rfl⟩
    · refine ob_plain [104, 112] rfl rfl fun aa g h => ?_
      obtain ⟨_, yy0, rfl⟩ := seen_in rfl h.1
      have ee0 := getD_of yy0
      obtain ⟨_, yy1, rfl⟩ := seen_in rfl h.2.1
      have ee1 := getD_of yy1
      exact tupon_value (v := .bool true) (by simp [go_sem, ee0, yy0, ee1, yy1]) (Below.refl _ _) rfl
    · refine ob_plain [113] rfl rfl fun aa g h => ?_
      obtain ⟨_, yy0, rfl⟩ := seen_in rfl h.1
      have ee0 := getD_of yy0
      exact tupon_value (v := .bool true) (by simp [go_sem, ee0, yy0]) (Below.refl _ _) rfl
  · intro aa g hdf hsz hold hval
    obtain ⟨u, hu, hpu⟩ := hval 0 (by decide)
    obtain rfl : u = .bool true := hpu
    rename_i K hK
    exact hK _ _ (sane6_end w g.w aa hdf hu (below_then HT.out g.h))
end Go.Proofs.YthakeeinhgfbbaaGreat
