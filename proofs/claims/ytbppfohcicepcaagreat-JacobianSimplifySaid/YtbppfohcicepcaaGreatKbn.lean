/-
  U8 U9 Ja UA UC Oe
-/
import Derived.Test.YtbppfohcicepcaaGreatKbm
import Derived.Laws.Bits128
import Derived.Deep.CutRange
import Derived.Laws.EntriesVeiled
import Derived.WalkKit
import Derived.ProofKit
import Derived.OpenShut
import Derived.Deep.Matrix
namespace Go.Proofs.YtbppfohcicepcaaGreat
open Go.ChangeShapes Go.WideShapes Go.ChangeAt Go.RowKit
set_option linter.unusedVariables false
set_option linter.unusedSimpArgs false
set_option maxRecDepth 100000
attribute [local irreducible] Calls
end Go.Proofs.YtbppfohcicepcaaGreat
namespace Go.Proofs.YtbppfohcicepcaaGreat
open Go.ChangeShapes Go.WideShapes Go.ChangeAt Go.RowKit
set_option linter.unusedVariables false
set_option linter.unusedSimpArgs false
set_option maxRecDepth 100000
attribute [local irreducible] Calls
end Go.Proofs.YtbppfohcicepcaaGreat
namespace Go.Proofs.YtbppfohcicepcaaGreat
open Go.ChangeShapes Go.WideShapes Go.ChangeAt Go.RowKit
set_option linter.unusedVariables false
set_option linter.unusedSimpArgs false
set_option maxRecDepth 100000
attribute [local irreducible] Calls
end Go.Proofs.YtbppfohcicepcaaGreat
namespace Go.Proofs.YtbppfohcicepcaaGreat
open Go.ChangeShapes Go.WideShapes Go.ChangeAt Go.RowKit
set_option linter.unusedVariables false
set_option linter.unusedSimpArgs false
set_option maxRecDepth 100000
attribute [local irreducible] Calls
/-- An interval near the origin, of a width below d. -/
def nearI (p : Int × Int) (d : Int) : Int × Int := (p.1.tmod 1048576, p.1.tmod 1048576 + (p.2.tmod d + d).tmod d)
theorem near_bd (p : Int × Int) {d : Int} (h1 : 1 ≤ d) : -1048576 < (nearI p d).1 ∧ (nearI p d).1 < 1048576 ∧ (nearI p d).1 ≤ (nearI p d).2 ∧ (nearI p d).2 < (nearI p d).1 + d := by
  have a1 := Int.lt_tmod_of_pos p.1 (show (0 : Int) < 1048576 by decide)
  have a2 := Int.tmod_lt_of_pos p.1 (show (0 : Int) < 1048576 by decide)
  have b1 := Int.lt_tmod_of_pos p.2 (show (0 : Int) < d by omega)
  have c1 := Int.tmod_nonneg d (show 0 ≤ p.2.tmod d + d by omega)
  have c2 := Int.tmod_lt_of_pos (p.2.tmod d + d) (show (0 : Int) < d by omega)
  unfold nearI
  dsimp only
  omega
set_option maxHeartbeats 4000000 in
theorem r2near (a b d : Int) (w : World) (h1 : 1 ≤ d) (h2 : d ≤ 16777216) : Calls Tryz.prog 68 #[.agg #[.int .i64 a, .int .i64 b], .int .i64 d] w fun e w' => e = .returned (.agg #[.int .i64 (nearI (a, b) d).1, .int .i64 (nearI (a, b) d).2]) ∧ Below w.heap.size w w' := by
  have hbd := near_bd (a, b) h1
  have b1 := Int.lt_tmod_of_pos b (show (0 : Int) < d by omega)
  have b2 := Int.tmod_lt_of_pos b (show (0 : Int) < d by omega)
  unfold nearI at hbd ⊢
  dsimp only at hbd ⊢
  have W1 : IntKind.i64.wrap (b.tmod d + d) = b.tmod d + d := wrapN _ (by omega) (by omega)
  have W2 : IntKind.i64.wrap (a.tmod 1048576 + (b.tmod d + d).tmod d) = a.tmod 1048576 + (b.tmod d + d).tmod d := wrapN _ (by omega) (by omega)
  have hd0 : ¬ d = 0 := by omega
  have hba : Below w.heap.size w ((w.alloc (.cells #[.int .i64 a, .int .i64 b] 26)).alloc (.cells #[.int .i64 0, .int .i64 0] 26)) := ((Below.refl _ _).alloc (Nat.le_refl _) _).alloc (by rw [alloc_sz]; omega) _
  have hX : ((w.alloc (.cells #[.int .i64 a, .int .i64 b] 26)).alloc (.cells #[.int .i64 0, .int .i64 0] 26)).heap[w.heap.size]? = some (.cells #[.int .i64 a, .int .i64 b] 26 (0, 0)) := (((Below.refl _ (w.alloc (.cells #[.int .i64 a, .int .i64 b] 26))).alloc (Nat.le_refl _) _).block _ (by rw [alloc_sz]; omega)).trans (World.alloc_heap_new w _)
  have hY : ((w.alloc (.cells #[.int .i64 a, .int .i64 b] 26)).alloc (.cells #[.int .i64 0, .int .i64 0] 26)).heap[w.heap.size + 1]? = some (.cells #[.int .i64 0, .int .i64 0] 26 (0, 0)) := by
    have := World.alloc_heap_new (w.alloc (.cells #[.int .i64 a, .int .i64 b] 26)) (.cells #[.int .i64 0, .int .i64 0] 26)
    rwa [alloc_sz] at this
  have fa := fun g : Grown ((w.alloc (.cells #[.int .i64 a, .int .i64 b] 26)).alloc (.cells #[.int .i64 0, .int .i64 0] 26)) => heapN_cellj ((g.h.block _ (Array.getElem?_eq_some_iff.1 hX).1).trans hX) (k := 0) (u := .int .i64 a) rfl
  have fb := fun g : Grown ((w.alloc (.cells #[.int .i64 a, .int .i64 b] 26)).alloc (.cells #[.int .i64 0, .int .i64 0] 26)) => heapN_cellj ((g.h.block _ (Array.getElem?_eq_some_iff.1 hX).1).trans hX) (k := 1) (u := .int .i64 b) rfl
  have HY := Lib.hid hY
  have HB := Lib.hid hba
  clear hX hY hba hbd b1 b2
  go_enter Tryz.func68, Tryz.ntmps68
  go_wp2_with (fail)
  refine region_pred (lk [(7, fun z_ _ => z_ = .pointer (some ⟨w.heap.size, 0, none⟩)), (8, fun z_ _ => z_ = .int .i64 a), (9, fun z_ _ => z_ = .int .i64 (a.tmod 1048576)), (10, fun z_ _ => z_ = .pointer (some ⟨w.heap.size, 1, none⟩)), (11, fun z_ _ => z_ = .int .i64 b), (12, fun z_ _ => z_ = .int .i64 d), (13, fun z_ _ => z_ = .int .i64 (b.tmod d)), (14, fun z_ _ => z_ = .int .i64 d), (15, fun z_ _ => z_ = .int .i64 (b.tmod d + d)), (16, fun z_ _ => z_ = .int .i64 d), (17, fun z_ _ => z_ = .int .i64 ((b.tmod d + d).tmod d)), (5, fun z_ _ => z_ = .int .i64 (a.tmod 1048576)), (6, fun z_ _ => z_ = .int .i64 ((b.tmod d + d).tmod d))]) (by kernel_rfl) (by kernel_rfl) (lk_steady _ ⟨steady_eq _, steady_eq _, steady_eq _, steady_eq _, steady_eq _, steady_eq _, steady_eq _, steady_eq _, steady_eq _, steady_eq _, steady_eq _, steady_eq _, steady_eq _, trivial⟩) ?_ ?_
  · refine ⟨?_, ?_, ?_, ?_, ?_, ?_, ?_, ?_, ?_, ?_, ?_, ?_, ?_, trivial⟩
    · refine ob_plain [2] rfl rfl fun aa g h => ?_
      have yy0 := seen_out (v := .pointer (some ⟨w.heap.size, 0, none⟩)) rfl rfl h.1
      have ee0 := getD_of yy0
      exact tupon_value (v := .pointer (some ⟨w.heap.size, 0, none⟩)) (by simp [go_sem, ee0, yy0]) (Below.refl _ _) rfl
    · refine ob_plain [7] rfl rfl fun aa g h => ?_
      obtain ⟨_, yy0, rfl⟩ := seen_in rfl h.1
      have ee0 := getD_of yy0
      exact tupon_value (v := .int .i64 a) (by simp [go_sem, ee0, yy0, fa g]) (Below.refl _ _) rfl
    · refine ob_plain [8] rfl rfl fun aa g h => ?_
      obtain ⟨_, yy0, rfl⟩ := seen_in rfl h.1
      have ee0 := getD_of yy0
      exact tupon_value (v := .int .i64 (a.tmod 1048576)) (by simp [go_sem, ee0, yy0]) (Below.refl _ _) rfl
    · refine ob_plain [2] rfl rfl fun aa g h => ?_
      have yy0 := seen_out (v := .pointer (some ⟨w.heap.size, 0, none⟩)) rfl rfl h.1
      have ee0 := getD_of yy0
      exact tupon_value (v := .pointer (some ⟨w.heap.size, 1, none⟩)) (by simp [go_sem, ee0, yy0]) (Below.refl _ _) rfl
    · refine ob_plain [10] rfl rfl fun aa g h => ?_
      obtain ⟨_, yy0, rfl⟩ := seen_in rfl h.1
      have ee0 := getD_of yy0
      exact tupon_value (v := .int .i64 b) (by simp [go_sem, ee0, yy0, fb g]) (Below.refl _ _) rfl
    · refine ob_plain [1] rfl rfl fun aa g h => ?_
      have yy0 := seen_out (v := .int .i64 d) rfl rfl h.1
      have ee0 := getD_of yy0
      exact tupon_value (v := .int .i64 d) (by simp [go_sem, ee0, yy0]) (Below.refl _ _) rfl
    · refine ob_plain [11, 12] rfl rfl fun aa g h => ?_
      obtain ⟨_, yy0, rfl⟩ := seen_in rfl h.1
      have ee0 := getD_of yy0
      obtain ⟨_, yy1, rfl⟩ := seen_in rfl h.2.1
      have ee1 := getD_of yy1
      exact tupon_value (v := .int .i64 (b.tmod d)) (by simp [go_sem, ee0, yy0, ee1, yy1, hd0]) (Below.refl _ _) rfl
    · refine ob_plain [1] rfl rfl fun aa g h => ?_
      have yy0 := seen_out (v := .int .i64 d) rfl rfl h.1
      have ee0 := getD_of yy0
      exact tupon_value (v := .int .i64 d) (by simp [go_sem, ee0, yy0]) (Below.refl _ _) rfl
    · refine ob_plain [13, 14] rfl rfl fun aa g h => ?_
      obtain ⟨_, yy0, rfl⟩ := seen_in rfl h.1
      have ee0 := getD_of yy0
      obtain ⟨_, yy1, rfl⟩ := seen_in rfl h.2.1
      have ee1 := getD_of yy1
      exact tupon_value (v := .int .i64 (b.tmod d + d)) (by simp [go_sem, ee0, yy0, ee1, yy1, W1]) (Below.refl _ _) rfl
    · refine ob_plain [1] rfl rfl fun aa g h => ?_
      have yy0 := seen_out (v := .int .i64 d) rfl rfl h.1
      have ee0 := getD_of yy0
      exact tupon_value (v := .int .i64 d) (by simp [go_sem, ee0, yy0]) (Below.refl _ _) rfl
    · refine ob_plain [15, 16] rfl rfl fun aa g h => ?_
      obtain ⟨_, yy0, rfl⟩ := seen_in rfl h.1
      have ee0 := getD_of yy0
      obtain ⟨_, yy1, rfl⟩ := seen_in rfl h.2.1
      have ee1 := getD_of yy1
      exact tupon_value (v := .int .i64 ((b.tmod d + d).tmod d)) (by simp [go_sem, ee0, yy0, ee1, yy1, hd0]) (Below.refl _ _) rfl
    · refine ob_plain [9] rfl rfl fun aa g h => ?_
      obtain ⟨_, yy0, rfl⟩ := seen_in rfl h.1
      have ee0 := getD_of yy0
      exact tupon_value (v := .int .i64 (a.tmod 1048576)) (by simp [go_sem, ee0, yy0]) (Below.refl _ _) rfl
    · refine ob_plain [17] rfl rfl fun aa g h => ?_
      obtain ⟨_, yy0, rfl⟩ := seen_in rfl h.1
      have ee0 := getD_of yy0
      exact tupon_value (v := .int .i64 ((b.tmod d + d).tmod d)) (by simp [go_sem, ee0, yy0]) (Below.refl _ _) rfl
  rintro w9 hB9 _ rfl _ rfl _ rfl _ rfl _ rfl _ rfl _ rfl _ rfl _ rfl _ rfl _ rfl _ rfl _ rfl
  simp only [Act.put, List.setIfInBounds_toArray, List.set_cons_succ, List.set_cons_zero, List.filterMap_nil, finP]
  have hy := (hB9.block _ (Array.getElem?_eq_some_iff.1 HY.out).1).trans HY.out
  have y0 := heapN_cellj hy (k := 0) rfl
  have y1 := heapN_cellj hy (k := 1) rfl
  have z0 : w9.frozen? ⟨w.heap.size + 1, 0, none⟩ = false := by simp [World.frozen?, hy]
  have z1 : w9.frozen? ⟨w.heap.size + 1, 1, none⟩ = false := by simp [World.frozen?, hy]
  have HW := Lib.hid (below_then HB.out hB9)
  obtain ⟨x, hx⟩ : ∃ x, a.tmod 1048576 = x := ⟨_, rfl⟩
  obtain ⟨y, hyy⟩ : ∃ y, (b.tmod d + d).tmod d = y := ⟨_, rfl⟩
  rw [hx, hyy] at W2
  have HXX := Lib.hid hx
  have HYY := Lib.hid hyy
  clear fa fb hB9 W1
  rw [hx, hyy]
  clear hx hyy
  go_wp2_with (fail)
  have hs := cellsT_setN (o := 1) (u := .int .i64 (x + y)) (cellsT_setN (o := 0) (u := .int .i64 x) hy)
  have x0 := heapN_cellj hs (k := 0) (u := .int .i64 x) rfl
  have x1 := heapN_cellj hs (k := 1) (u := .int .i64 (x + y)) rfl
  exact bodyPost_ret (v := .agg #[.int .i64 x, .int .i64 (x + y)]) (by simp [results, Tryz.results68, go_sem, x0, x1]) rfl ⟨by rw [HXX.out, HYY.out], (HW.out.setCell (p := ⟨w.heap.size + 1, 0, none⟩) (by dsimp only; omega) _).setCell (p := ⟨w.heap.size + 1, 1, none⟩) (by dsimp only; omega) _⟩
end Go.Proofs.YtbppfohcicepcaaGreat
namespace Go.Proofs.YtbppfohcicepcaaGreat
open Go.ChangeShapes Go.WideShapes Go.ChangeAt Go.RowKit Go.Maps
set_option linter.unusedVariables false
set_option linter.unusedSimpArgs false
set_option maxRecDepth 100000
attribute [local irreducible] Calls
theorem keyZ {i : Int} (h : W64 i) : keyOf Tryz.prog 3 (.int .i64 i) = some (.int .i64 i) := keyOf_int_mk Tryz.underlying3 (wf64i h)
theorem lawZ : Keyed Tryz.prog 3 := int_keyed Tryz.underlying3
/-- What the map from indices to indices holds. -/
def MpK (M : Int → Option Nat) (D : DataW Unit) : Prop := IsMap D ∧ ∀ i : Int, W64 i → Maps.has D (.int .i64 i) = (M i).isSome ∧ ∀ a, M i = some a → ∀ z, D.atKey (.int .i64 i) z = dN a
def MpI (mb n : Nat) (M : Int → Option Nat) (W : World) : Prop := ∃ D, W.ownsMap Tryz.prog 3 elN mb n D ∧ MpK M D
def updM (M : Int → Option Nat) (i : Int) (a : Nat) : Int → Option Nat := fun j => if j = i then some a else M j
theorem mpK_start : MpK (fun _ => none) (.map []) := ⟨isMap_empty, fun x _ => ⟨by simp [Maps.has], fun a h => by cases h⟩⟩
theorem mpK_put {M : Int → Option Nat} {D : DataW Unit} (h : MpK M D) (i : Int) (a : Nat) : MpK (updM M i a) (D.put (.int .i64 i) (dN a)) := by
  have hk : WideAt.IsKeyLit (.int .i64 i) := trivial
  refine ⟨h.1.put _ _, fun j hj => ?_⟩
  by_cases q : j = i
  · subst q
    refine ⟨?_, fun b hb z => ?_⟩
    · rw [has_put_same h.1 hk]
      simp [updM]
    · rw [atKey_put_same h.1 hk]
      simp only [updM, if_pos, Option.some.injEq] at hb
      rw [hb]
  · have q' : (Lit.int .i64 j) ≠ .int .i64 i := fun e => q (by simpa using e)
    refine ⟨?_, fun b hb z => ?_⟩
    · rw [has_put_other q', (h.2 j hj).1]
      simp [updM, q]
    · simp only [updM, if_neg q] at hb
      rw [atKey_put_other q', (h.2 j hj).2 b hb]
section
variable {mb n : Nat} {M : Int → Option Nat} {W W' : World}
theorem MpI.kept {row : Option Nat} (h : MpI mb n M W) (hg : W.grownBy W' row) (hne : some mb ≠ row) : MpI mb n M W' := by
  obtain ⟨D, h1, h2⟩ := h
  exact ⟨D, h1.kept hg hne, h2⟩
theorem MpI.lt (h : MpI mb n M W) : mb < W.heap.size := by
  obtain ⟨D, h1, _⟩ := h
  exact h1.lt
theorem MpI.new (W : World) : MpI W.heap.size 0 (fun _ => none) (W.alloc (.map #[] 0)) := ⟨_, World.ownsMap_made (H := Unit) W Tryz.prog 3 elN, mpK_start⟩
end
end Go.Proofs.YtbppfohcicepcaaGreat
namespace Go.Proofs.YtbppfohcicepcaaGreat
open Go.ChangeShapes Go.WideShapes Go.ChangeAt Go.RowKit Go.Maps
set_option linter.unusedVariables false
set_option linter.unusedSimpArgs false
set_option maxRecDepth 100000
attribute [local irreducible] Calls
theorem pt_one (w : World) : Calls Tryz.prog 33 #[.int .i64 65536] w fun e w' => e = .returned (.agg #[.int .i64 65536, .int .i64 65536]) ∧ Below w.heap.size w w' := by
  have h := r2point 65536 w
  rwa [show mkLo 65536 65536 = 65536 by decide, show mkHi 65536 65536 = 65536 by decide] at h
end Go.Proofs.YtbppfohcicepcaaGreat
namespace Go.Proofs.YtbppfohcicepcaaGreat
set_option linter.unusedVariables false
set_option linter.unusedSimpArgs false
set_option maxRecDepth 100000
/-- Where an expression lies in a list of instructions. -/
def Rep : Ex → List Is → Nat → Prop
  | .e0 x, T, k => T[k]? = some ⟨x.op, x.n, 0, x.lo, x.hi⟩
  | .e1 x a, T, k => ∃ i, Rep a T i ∧ T[k]? = some ⟨x.op, i, 0, x.lo, x.hi⟩
  | .e2 x a b, T, k => ∃ i j, Rep a T i ∧ Rep b T j ∧ T[k]? = some ⟨x.op, i, j, x.lo, x.hi⟩
/-- Expressions of valid nodes. -/
def EV (N : Int) : Ex → Prop
  | .e0 x => arI x.op = 0 ∧ vnB N x = true
  | .e1 x a => (arI x.op = 1 ∧ vnB N x = true) ∧ EV N a
  | .e2 x a b => (arI x.op = 2 ∧ vnB N x = true) ∧ EV N a ∧ EV N b
theorem EV.ar {N : Int} : ∀ {t : Ex}, EV N t → Ar t
  | .e0 _, h => h.1
  | .e1 _ _, h => ⟨h.1.1, h.2.ar⟩
  | .e2 _ _ _, h => ⟨h.1.1, h.2.1.ar, h.2.2.ar⟩
theorem ar_one {op : Int} (h : arI op = 1) : op = 4 ∨ op = 5 ∨ op = 6 := by
  unfold arI at h
  split at h
  · assumption
  · split at h <;> cases h
theorem ar_two {op : Int} (h : arI op = 2) : op = 7 ∨ op = 8 ∨ op = 9 ∨ op = 10 := by
  unfold arI at h
  split at h
  · cases h
  · split at h
    · assumption
    · cases h
/-- The expression of an instruction. -/
def trL (L : List Is) : Nat → Int → Ex
  | 0, _ => .e0 ⟨3, 0, 0, 0⟩
  | f + 1, i => match L[i.toNat]? with
    | none => .e0 ⟨3, 0, 0, 0⟩
    | some x => match opsI x with
      | [a] => .e1 (ndI x) (trL L f a)
      | [a, b] => .e2 (ndI x) (trL L f a) (trL L f b)
      | _ => .e0 (ndI x)
/-- What a list of instructions that came out of expressions of a tape, and a memo, hold. -/
structure KM (L T : List Is) (M : Int → Option Nat) : Prop where
  nd : T.Nodup
  of : ∀ k : Nat, k < T.length → ∃ i : Nat, i < L.length ∧ Rep (trL L L.length i) T k
  memo : ∀ (j : Int) (k : Nat), M j = some k → Rep (trL L L.length j) T k
end Go.Proofs.YtbppfohcicepcaaGreat
namespace Go.Proofs.YtbppfohcicepcaaGreat
open Go.ChangeShapes Go.WideShapes Go.ChangeAt Go.RowKit Go.Maps
set_option linter.unusedVariables false
set_option linter.unusedSimpArgs false
set_option maxRecDepth 100000
attribute [local irreducible] Calls
theorem and255 (n : Int) : bits .and .i64 n 255 = n % 256 := by
  have h127 : (BitVec.ofInt 64 255).toNat = 2 ^ 8 - 1 := by decide
  have key : (BitVec.ofInt 64 n &&& BitVec.ofInt 64 255).toNat = (n % ((2 ^ 64 : Nat) : Int)).toNat % 2 ^ 8 := by
    rw [BitVec.toNat_and, BitVec.toNat_ofInt, h127, Nat.and_two_pow_sub_one_eq_mod]
  show IntKind.i64.wrap ((BitVec.ofInt 64 n &&& BitVec.ofInt 64 255).toNat : Nat) = n % 256
  rw [key, IntKind.wrap_i64]
  omega
theorem and65535 (n : Int) : bits .and .i64 n 65535 = n % 65536 := by
  have h127 : (BitVec.ofInt 64 65535).toNat = 2 ^ 16 - 1 := by decide
  have key : (BitVec.ofInt 64 n &&& BitVec.ofInt 64 65535).toNat = (n % ((2 ^ 64 : Nat) : Int)).toNat % 2 ^ 16 := by
    rw [BitVec.toNat_and, BitVec.toNat_ofInt, h127, Nat.and_two_pow_sub_one_eq_mod]
  show IntKind.i64.wrap ((BitVec.ofInt 64 n &&& BitVec.ofInt 64 65535).toNat : Nat) = n % 65536
  rw [key, IntKind.wrap_i64]
  omega
end Go.Proofs.YtbppfohcicepcaaGreat
namespace Go.Proofs.YtbppfohcicepcaaGreat
set_option linter.unusedVariables false
set_option linter.unusedSimpArgs false
set_option maxRecDepth 100000
/-- The root of an expression. -/
def rtN : Ex → Nd
  | .e0 x => x
  | .e1 x _ => x
  | .e2 x _ _ => x
/-- The first operand. -/
def arg1 : Ex → Ex
  | .e1 _ a => a
  | .e2 _ a _ => a
  | t => t
def isPt (T : Ex) : Bool := decide ((rtN T).op = 1) && decide ((rtN T).lo = (rtN T).hi)
def isC (c : Int) (T : Ex) : Bool := isPt T && decide ((rtN T).lo = c)
def pt (c : Int) : Ex := .e0 ⟨1, 0, c, c⟩
def ndo (op : Int) : Nd := ⟨op, 0, 0, 0⟩
def cI (T : Ex) : Int × Int := ((rtN T).lo, (rtN T).hi)
/-- What the rules make of a negation, of a function, of an operation on two points. -/
def negR (a : Ex) : Option Ex := if isPt a then some (pt (-(rtN a).lo)) else if (rtN a).op = 4 then some (arg1 a) else none
def red1 (op : Int) (a : Ex) : Option Ex := if op = 4 then negR a else if isC 0 a || isC 65536 a then some a else none
def s1 (x : Nd) (a : Ex) : Ex := (red1 x.op a).getD (.e1 x a)
def cmpR (op : Int) (a b : Ex) : Option Ex := if isPt a && isPt b && decide ((opI op (cI a) (cI b)).1 = (opI op (cI a) (cI b)).2) then some (pt (opI op (cI a) (cI b)).1) else none
def red2 (op : Int) (a b : Ex) : Option Ex :=
  if op = 7 then (if isC 0 a then some b else if isC 0 b then some a else cmpR 7 a b)
  else if op = 8 then (if isC 0 b then some a else if isC 0 a then some (s1 (ndo 4) b) else cmpR 8 a b)
  else if op = 9 then (if isC 0 a then some a else if isC 0 b || isC 65536 a then some b else if isC 65536 b then some a else cmpR 9 a b)
  else if isC 0 a || isC 65536 b then some a else none
def s2 (x : Nd) (a b : Ex) : Ex := (red2 x.op a b).getD (.e2 x a b)
/-- Simplify. -/
def sT : Ex → Ex
  | .e0 x => .e0 x
  | .e1 x a => s1 x (sT a)
  | .e2 x a b => s2 x (sT a) (sT b)
/-- The derivatives of operations on one and two operands, each a value and a slope. -/
def rl1 (op : Int) (p : Ex × Ex) : Ex :=
  if op = 4 then s1 (ndo 4) p.2 else if op = 5 then s2 (ndo 9) (s2 (ndo 9) (pt 131072) p.1) p.2 else s2 (ndo 10) p.2 (s2 (ndo 9) (pt 131072) (s1 (ndo 6) p.1))
def rl2 (op : Int) (p q : Ex × Ex) : Ex :=
  if op = 7 then s2 (ndo 7) p.2 q.2 else if op = 8 then s2 (ndo 8) p.2 q.2
  else if op = 9 then s2 (ndo 7) (s2 (ndo 9) p.2 q.1) (s2 (ndo 9) p.1 q.2)
  else s2 (ndo 10) (s2 (ndo 8) (s2 (ndo 9) p.2 q.1) (s2 (ndo 9) p.1 q.2)) (s1 (ndo 5) q.1)
/-- The value and the slope of an expression. -/
def dT (v : Nd) : Ex → Ex × Ex
  | .e0 x => (.e0 x, if x = v then pt 65536 else pt 0)
  | .e1 x a => (s1 x (dT v a).1, rl1 x.op (dT v a))
  | .e2 x a b => (s2 x (dT v a).1 (dT v b).1, rl2 x.op (dT v a) (dT v b))
theorem dT_fst (v : Nd) : ∀ e : Ex, (dT v e).1 = sT e
  | .e0 x => rfl
  | .e1 x a => by show s1 x (dT v a).1 = s1 x (sT a); rw [dT_fst v a]
  | .e2 x a b => by show s2 x (dT v a).1 (dT v b).1 = s2 x (sT a) (sT b); rw [dT_fst v a, dT_fst v b]
def dD (v : Nd) (e : Ex) : Ex := (dT v e).2
theorem dT_pair (v : Nd) (e : Ex) : dT v e = (sT e, dD v e) := by rw [← dT_fst v e]; rfl
theorem dD_0 (v x : Nd) : dD v (.e0 x) = if x = v then pt 65536 else pt 0 := rfl
theorem dD_1 (v x : Nd) (a : Ex) : dD v (.e1 x a) = rl1 x.op (sT a, dD v a) := by show rl1 x.op (dT v a) = _; rw [dT_pair]
theorem dD_2 (v x : Nd) (a b : Ex) : dD v (.e2 x a b) = rl2 x.op (sT a, dD v a) (sT b, dD v b) := by show rl2 x.op (dT v a) (dT v b) = _; rw [dT_pair v a, dT_pair v b]
theorem arg1_len (a : Ex) : (pre (arg1 a)).length ≤ (pre a).length := by
  cases a <;> simp [arg1, pre] <;> omega
theorem s1_len (x : Nd) (a : Ex) : (pre (s1 x a)).length ≤ 1 + (pre a).length := by
  have h1 := arg1_len a
  unfold s1 red1 negR
  split
  · split
    · simp [pt, pre]
    · split
      · simp only [Option.getD_some]; omega
      · simp only [Option.getD_none, pre, List.length_cons]; omega
  · split
    · simp only [Option.getD_some]; omega
    · simp only [Option.getD_none, pre, List.length_cons]; omega
theorem cmpR_len {op : Int} {a b r : Ex} (h : cmpR op a b = some r) : (pre r).length = 1 := by
  unfold cmpR at h
  split at h
  · cases h; rfl
  · cases h
theorem s2_len (x : Nd) (a b : Ex) : (pre (s2 x a b)).length ≤ 1 + (pre a).length + (pre b).length := by
  have ha := pre_pos a
  have hb := pre_pos b
  have h4 := s1_len (ndo 4) b
  have hc : ∀ op, (pre ((cmpR op a b).getD (.e2 x a b))).length ≤ 1 + (pre a).length + (pre b).length := fun op => by
    cases h : cmpR op a b with
    | none => simp [pre]; omega
    | some r => rw [Option.getD_some, cmpR_len h]; omega
  have h7 := hc 7
  have h8 := hc 8
  have h9 := hc 9
  have e : (pre (.e2 x a b)).length = 1 + (pre a).length + (pre b).length := by simp [pre]; omega
  unfold s2 red2
  repeat' split
  all_goals first | assumption | (simp only [Option.getD_some, Option.getD_none]; omega)
theorem sT_len : ∀ e : Ex, (pre (sT e)).length ≤ (pre e).length
  | .e0 x => Nat.le_refl _
  | .e1 x a => by have := s1_len x (sT a); have := sT_len a; simp only [pre, sT, List.length_cons] at *; omega
  | .e2 x a b => by have := s2_len x (sT a) (sT b); have := sT_len a; have := sT_len b; simp only [pre, sT, List.length_cons, List.length_append] at *; omega
theorem dD_len (v : Nd) : ∀ e : Ex, (pre (dD v e)).length ≤ (pre e).length * ((pre e).length + 4)
  | .e0 x => by rw [dD_0]; split <;> simp [pt, pre]
  | .e1 x a => by
    have h1 := dD_len v a
    have h2 := sT_len a
    have h3 := s1_len (ndo 4) (dD v a)
    have h4 := s2_len (ndo 9) (s2 (ndo 9) (pt 131072) (sT a)) (dD v a)
    have h5 := s2_len (ndo 9) (pt 131072) (sT a)
    have h6 := s2_len (ndo 10) (dD v a) (s2 (ndo 9) (pt 131072) (s1 (ndo 6) (sT a)))
    have h7 := s2_len (ndo 9) (pt 131072) (s1 (ndo 6) (sT a))
    have h8 := s1_len (ndo 6) (sT a)
    have e1 : (pre (pt 131072)).length = 1 := rfl
    have e2 : (pre (.e1 x a)).length = (pre a).length + 1 := by simp [pre]
    rw [dD_1, e2]
    generalize (pre a).length = n at *
    have e3 : (n + 1) * (n + 1 + 4) = n * (n + 4) + 2 * n + 5 := by simp only [Nat.add_mul, Nat.mul_add]; omega
    rw [e3]
    unfold rl1
    split
    · dsimp only; omega
    split
    · dsimp only; omega
    · dsimp only; omega
  | .e2 x a b => by
    have h1 := dD_len v a
    have h1' := dD_len v b
    have h2 := sT_len a
    have h2' := sT_len b
    have h3 := s2_len (ndo 7) (dD v a) (dD v b)
    have h3' := s2_len (ndo 8) (dD v a) (dD v b)
    have h4 := s2_len (ndo 9) (dD v a) (sT b)
    have h5 := s2_len (ndo 9) (sT a) (dD v b)
    have h6 := s2_len (ndo 7) (s2 (ndo 9) (dD v a) (sT b)) (s2 (ndo 9) (sT a) (dD v b))
    have h7 := s2_len (ndo 8) (s2 (ndo 9) (dD v a) (sT b)) (s2 (ndo 9) (sT a) (dD v b))
    have h8 := s2_len (ndo 10) (s2 (ndo 8) (s2 (ndo 9) (dD v a) (sT b)) (s2 (ndo 9) (sT a) (dD v b))) (s1 (ndo 5) (sT b))
    have h9 := s1_len (ndo 5) (sT b)
    have e2 : (pre (.e2 x a b)).length = (pre a).length + (pre b).length + 1 := by simp [pre]
    rw [dD_2, e2]
    generalize (pre a).length = n at *
    generalize (pre b).length = m at *
    have e3 : (n + m + 1) * (n + m + 1 + 4) = n * (n + 4) + m * (m + 4) + 2 * (n * m) + 2 * n + 2 * m + 5 := by
      have := Nat.mul_comm n m
      simp only [Nat.add_mul, Nat.mul_add]; omega
    have e4 : n * m ≥ 0 := Nat.zero_le _
    rw [e3]
    unfold rl2
    generalize n * m = k at *
    generalize n * (n + 4) = k1 at *
    generalize m * (m + 4) = k2 at *
    split
    · dsimp only; omega
    split
    · dsimp only; omega
    split
    · dsimp only; omega
    · dsimp only; omega
theorem vn_ndo {N op : Int} (h1 : 3 ≤ op) (h2 : op ≤ 10) : vnB N (ndo op) = true := by
  unfold vnB ndo
  dsimp only
  rw [if_neg (by omega), if_neg (by omega), if_pos ⟨h1, h2⟩]
  rfl
theorem vi_pt {c : Int} : VI c c ↔ Num c := by unfold VI Ent Num; omega
theorem pt_ev {N c : Int} (h : Num c) : EV N (pt c) := by
  refine ⟨by simp [arI], ?_⟩
  unfold vnB
  simp [vi_pt.2 h]
theorem isPt_pt {N : Int} {a : Ex} (ha : EV N a) (h : isPt a = true) : a = pt (rtN a).lo ∧ Num (rtN a).lo := by
  unfold isPt at h
  simp only [Bool.and_eq_true, decide_eq_true_eq] at h
  cases a with
  | e0 x =>
    obtain ⟨op, n, lo, hi⟩ := x
    simp only [rtN] at h
    obtain ⟨rfl, rfl⟩ := h
    have h2 := ha.2
    unfold vnB at h2
    simp at h2
    obtain ⟨rfl, h3⟩ := h2
    exact ⟨rfl, vi_pt.1 h3⟩
  | e1 x b =>
    have := ha.1.1
    have hx : x.op = 1 := h.1
    rw [hx] at this
    simp [arI] at this
  | e2 x b c =>
    have := ha.1.1
    have hx : x.op = 1 := h.1
    rw [hx] at this
    simp [arI] at this
theorem isC_pt {N c : Int} {a : Ex} (ha : EV N a) (h : isC c a = true) : a = pt c := by
  unfold isC at h
  simp only [Bool.and_eq_true, decide_eq_true_eq] at h
  rw [← h.2]
  exact (isPt_pt ha h.1).1
theorem op4_arg {N : Int} {a : Ex} (ha : EV N a) (h : (rtN a).op = 4) : ∃ x b, a = .e1 x b ∧ x.op = 4 ∧ EV N b := by
  cases a with
  | e0 x =>
    have := ha.1
    have hx : x.op = 4 := h
    rw [hx] at this
    simp [arI] at this
  | e1 x b => exact ⟨x, b, rfl, h, ha.2⟩
  | e2 x b c =>
    have := ha.1.1
    have hx : x.op = 4 := h
    rw [hx] at this
    simp [arI] at this
theorem red1_ev {N op : Int} {a r : Ex} (ha : EV N a) (h : red1 op a = some r) : EV N r := by
  unfold red1 negR at h
  split at h
  · split at h
    · cases h
      rename_i h1
      have := (isPt_pt ha h1).2
      exact pt_ev (by unfold Num at *; omega)
    · split at h
      · cases h
        rename_i h1
        obtain ⟨x, b, rfl, _, hb⟩ := op4_arg ha h1
        exact hb
      · cases h
  · split at h
    · cases h; exact ha
    · cases h
theorem s1_ev {N : Int} {x : Nd} {a : Ex} (hx : arI x.op = 1) (hv : vnB N x = true) (ha : EV N a) : EV N (s1 x a) := by
  unfold s1
  cases h : red1 x.op a with
  | none => exact ⟨⟨hx, hv⟩, ha⟩
  | some r => exact red1_ev ha h
theorem cI_vi {N : Int} {a : Ex} (ha : EV N a) (h : isPt a = true) : VI (cI a).1 (cI a).2 := by
  obtain ⟨h1, h2⟩ := isPt_pt ha h
  rw [h1]
  exact vi_pt.2 h2
theorem cmpR_ev {N op : Int} {a b r : Ex} (ha : EV N a) (hb : EV N b) (h : cmpR op a b = some r) : EV N r := by
  unfold cmpR at h
  split at h
  · rename_i h1
    simp only [Bool.and_eq_true, decide_eq_true_eq] at h1
    cases h
    have hv := opI_vi op (cI_vi ha h1.1.1) (cI_vi hb h1.1.2)
    rw [← h1.2] at hv
    exact pt_ev (vi_pt.1 hv)
  · cases h
theorem red2_ev {N op : Int} {a b r : Ex} (ha : EV N a) (hb : EV N b) (h : red2 op a b = some r) : EV N r := by
  have h4 : EV N (s1 (ndo 4) b) := s1_ev (by simp [arI, ndo]) (vn_ndo (by omega) (by omega)) hb
  unfold red2 at h
  repeat' split at h
  all_goals first | exact cmpR_ev ha hb h | (cases h; done) | (cases h; first | exact ha | exact hb | exact h4)
theorem s2_ev {N : Int} {x : Nd} {a b : Ex} (hx : arI x.op = 2) (hv : vnB N x = true) (ha : EV N a) (hb : EV N b) : EV N (s2 x a b) := by
  unfold s2
  cases h : red2 x.op a b with
  | none => exact ⟨⟨hx, hv⟩, ha, hb⟩
  | some r => exact red2_ev ha hb h
theorem sT_ev {N : Int} : ∀ {e : Ex}, EV N e → EV N (sT e)
  | .e0 x, h => h
  | .e1 x a, h => s1_ev h.1.1 h.1.2 (sT_ev h.2)
  | .e2 x a b, h => s2_ev h.1.1 h.1.2 (sT_ev h.2.1) (sT_ev h.2.2)
theorem a1_ev {N op : Int} {a : Ex} (h : op = 4 ∨ op = 5 ∨ op = 6) (ha : EV N a) : EV N (s1 (ndo op) a) :=
  s1_ev (by unfold arI ndo; dsimp only; rw [if_pos h]) (vn_ndo (by omega) (by omega)) ha
theorem a2_ev {N op : Int} {a b : Ex} (h : op = 7 ∨ op = 8 ∨ op = 9 ∨ op = 10) (ha : EV N a) (hb : EV N b) : EV N (s2 (ndo op) a b) :=
  s2_ev (by unfold arI ndo; dsimp only; rw [if_neg (by omega), if_pos h]) (vn_ndo (by omega) (by omega)) ha hb
theorem rl1_ev {N op : Int} {p : Ex × Ex} (h1 : EV N p.1) (h2 : EV N p.2) : EV N (rl1 op p) := by
  have hp : EV N (pt 131072) := pt_ev (by decide)
  unfold rl1
  split
  · exact a1_ev (by omega) h2
  split
  · exact a2_ev (by omega) (a2_ev (by omega) hp h1) h2
  · exact a2_ev (by omega) h2 (a2_ev (by omega) hp (a1_ev (by omega) h1))
theorem rl2_ev {N op : Int} {p q : Ex × Ex} (h1 : EV N p.1) (h2 : EV N p.2) (g1 : EV N q.1) (g2 : EV N q.2) : EV N (rl2 op p q) := by
  unfold rl2
  split
  · exact a2_ev (by omega) h2 g2
  split
  · exact a2_ev (by omega) h2 g2
  split
  · exact a2_ev (by omega) (a2_ev (by omega) h2 g1) (a2_ev (by omega) h1 g2)
  · exact a2_ev (by omega) (a2_ev (by omega) (a2_ev (by omega) h2 g1) (a2_ev (by omega) h1 g2)) (a1_ev (by omega) g1)
theorem dD_ev {N : Int} (v : Nd) : ∀ {e : Ex}, EV N e → EV N (dD v e)
  | .e0 x, h => by rw [dD_0]; split <;> exact pt_ev (by decide)
  | .e1 x a, h => by rw [dD_1]; exact rl1_ev (sT_ev h.2) (dD_ev v h.2)
  | .e2 x a b, h => by rw [dD_2]; exact rl2_ev (sT_ev h.2.1) (dD_ev v h.2.1) (sT_ev h.2.2) (dD_ev v h.2.2)
def NF : Ex → Prop
  | .e0 _ => True
  | .e1 x a => NF a ∧ red1 x.op a = none
  | .e2 x a b => (NF a ∧ NF b) ∧ red2 x.op a b = none
theorem nf_fix : ∀ {e : Ex}, NF e → sT e = e
  | .e0 x, _ => rfl
  | .e1 x a, h => by show s1 x (sT a) = _; rw [nf_fix h.1]; unfold s1; rw [h.2]; rfl
  | .e2 x a b, h => by show s2 x (sT a) (sT b) = _; rw [nf_fix h.1.1, nf_fix h.1.2]; unfold s2; rw [h.2]; rfl
theorem s1_nf {x : Nd} {a : Ex} (ha : NF a) : NF (s1 x a) := by
  unfold s1
  cases h : red1 x.op a with
  | none => exact ⟨ha, h⟩
  | some r =>
    show NF r
    unfold red1 negR at h
    split at h
    · split at h
      · cases h; exact trivial
      · split at h
        · cases h
          cases a with
          | e0 _ => exact ha
          | e1 _ _ => exact ha.1
          | e2 _ _ _ => exact ha.1.1
        · cases h
    · split at h
      · cases h; exact ha
      · cases h
theorem s2_nf {x : Nd} {a b : Ex} (ha : NF a) (hb : NF b) : NF (s2 x a b) := by
  unfold s2
  cases h : red2 x.op a b with
  | none => exact ⟨⟨ha, hb⟩, h⟩
  | some r =>
    show NF r
    have h4 : NF (s1 (ndo 4) b) := s1_nf hb
    have hc : ∀ op, cmpR op a b = some r → NF r := fun op h => by
      unfold cmpR at h
      split at h
      · cases h; exact trivial
      · cases h
    unfold red2 at h
    repeat' split at h
    all_goals first | exact hc _ h | (cases h; done) | (cases h; first | exact ha | exact hb | exact h4)
theorem sT_nf : ∀ e : Ex, NF (sT e)
  | .e0 x => trivial
  | .e1 x a => s1_nf (sT_nf a)
  | .e2 x a b => s2_nf (sT_nf a) (sT_nf b)
theorem sT_sT (e : Ex) : sT (sT e) = sT e := nf_fix (sT_nf e)
end Go.Proofs.YtbppfohcicepcaaGreat
namespace Go.Proofs.YtbppfohcicepcaaGreat
open Go.ChangeShapes Go.WideShapes Go.ChangeAt Go.RowKit Go.Maps
set_option linter.unusedVariables false
set_option linter.unusedSimpArgs false
set_option maxRecDepth 100000
attribute [local irreducible] Calls
/-- What the closure leaves. -/
structure ExtO (bl bm mb : Nat) (u u' : Value) (W W' : World) : Prop where
  size : W.heap.size ≤ W'.heap.size
  blk : ∀ k, k < W.heap.size → k ≠ bl → k ≠ bm → k ≠ mb → some k ≠ u.ownBlock → W'.heap[k]? = W.heap[k]?
  own : ∀ g, u'.ownBlock = some g → u.ownBlock = some g ∨ W.heap.size ≤ g
theorem MpI.at {mb n : Nat} {M : Int → Option Nat} {W W' : World} (h : MpI mb n M W) (e : W'.heap[mb]? = W.heap[mb]?) : MpI mb n M W' := by
  obtain ⟨D, ⟨es, cl, hb, r1, r2, r3⟩, h2⟩ := h
  exact ⟨D, ⟨es, cl, e.trans hb, r1, r2, r3⟩, h2⟩
theorem MpI.blk {mb n : Nat} {M : Int → Option Nat} {W : World} (h : MpI mb n M W) : ∃ es cl, W.heap[mb]? = some (.map es cl) := by
  obtain ⟨D, ⟨es, cl, hb, _⟩, _⟩ := h
  exact ⟨es, cl, hb⟩
theorem ExtO.trans {bl bm mb : Nat} {u u' u'' : Value} {W W' W'' : World} (h : ExtO bl bm mb u u' W W') (k : ExtO bl bm mb u' u'' W' W'') : ExtO bl bm mb u u'' W W'' :=
  ⟨Nat.le_trans h.size k.size, fun j hj h1 h2 h4 h3 => (k.blk j (Nat.lt_of_lt_of_le hj h.size) h1 h2 h4 (fun e => by
    rcases h.own j e.symm with h5 | h5
    · exact h3 h5.symm
    · omega)).trans (h.blk j hj h1 h2 h4 h3), fun g hg => by
    rcases k.own g hg with h5 | h5
    · exact h.own g h5
    · exact .inr (Nat.le_trans h.size h5)⟩
end Go.Proofs.YtbppfohcicepcaaGreat
namespace Go.Proofs.YtbppfohcicepcaaGreat
open Go.ChangeShapes Go.WideShapes Go.ChangeAt Go.RowKit Go.Maps
set_option linter.unusedVariables false
set_option linter.unusedSimpArgs false
set_option maxRecDepth 100000
attribute [local irreducible] Calls
end Go.Proofs.YtbppfohcicepcaaGreat
namespace Go.Proofs.YtbppfohcicepcaaGreat
open Go.ChangeShapes Go.WideShapes Go.ChangeAt Go.RowKit Go.Maps
set_option linter.unusedVariables false
set_option linter.unusedSimpArgs false
set_option maxRecDepth 100000
attribute [local irreducible] Calls
theorem allocs_below : ∀ (L : List Obj) (w : World), Below w.heap.size w (L.foldl World.alloc w)
  | [], w => Below.refl _ _
  | o :: L, w => below_then ((Below.refl _ _).alloc (Nat.le_refl _) _) (allocs_below L (w.alloc o))
theorem allocs_at : ∀ (L : List Obj) (w : World) (i : Nat) (o : Obj), L[i]? = some o → (L.foldl World.alloc w).heap[w.heap.size + i]? = some o
  | [], w, i, o, h => by simp at h
  | x :: L, w, 0, o, h => by
    simp at h
    subst h
    have hb := allocs_below L (w.alloc x)
    exact (hb.block w.heap.size (by rw [alloc_sz]; omega)).trans (World.alloc_heap_new w x)
  | x :: L, w, i + 1, o, h => by
    have := allocs_at L (w.alloc x) i o (by simpa using h)
    rw [alloc_sz] at this
    rw [show w.heap.size + (i + 1) = w.heap.size + 1 + i by omega]
    exact this
/-- A block of memory. -/
def Blk (W : World) (b : Nat) (o : Obj) : Prop := W.heap[b]? = some o
theorem Blk.grow {W W' : World} {b : Nat} {o : Obj} (h : Blk W b o) (hB : Below W.heap.size W W') : Blk W' b o := (hB.block b (Array.getElem?_eq_some_iff.1 h).1).trans h
theorem point_at (x : Int) (w : World) (h1 : mkLo x x = x) (h2 : mkHi x x = x) : Calls Tryz.prog 33 #[.int .i64 x] w fun e w' => e = .returned (.agg #[.int .i64 x, .int .i64 x]) ∧ Below w.heap.size w w' := by
  have h := r2point x w
  rwa [h1, h2] at h
end Go.Proofs.YtbppfohcicepcaaGreat
namespace Go.Proofs.YtbppfohcicepcaaGreat
open Go.ChangeShapes Go.WideShapes Go.ChangeAt Go.RowKit Go.Maps
set_option linter.unusedVariables false
set_option linter.unusedSimpArgs false
set_option maxRecDepth 100000
attribute [local irreducible] Calls
end Go.Proofs.YtbppfohcicepcaaGreat
namespace Go.Proofs.YtbppfohcicepcaaGreat
open Go.ChangeShapes Go.WideShapes Go.ChangeAt Go.RowKit
set_option linter.unusedVariables false
set_option linter.unusedSimpArgs false
set_option maxRecDepth 100000
section
variable {H : Type} {enc : TypeId × Value → H} {w : World} {base : Nat} {spare : Nat → Bool} {held : Bool}
theorem wf64t {x : Int} (h : (Lit.int .i64 x).wf = true) : -9223372036854775808 ≤ x ∧ x ≤ 9223372036854775807 := by
  have a := bounds_i64 h
  exact ⟨a.1, by have := a.2; omega⟩
theorem cell_blkT {w : World} {a : Addr} {v : Value} (h : w.cell? a = some v) : a.block < w.heap.size ∧ a.spot = none := by
  unfold World.cell? at h
  split at h
  · rename_i hh
    refine ⟨(Array.getElem?_eq_some_iff.1 hh).1, ?_⟩
    split at h
    · cases h
    · rename_i hs
      simpa using hs
  · cases h
theorem add_spot (a : Addr) (n : Nat) (h : a.spot = none) : a.add n = ⟨a.block, a.off + n, none⟩ := by
  obtain ⟨b, o, s⟩ := a
  simp only at h
  subst h
  by_cases hz : n = 0 <;> simp [Addr.add, hz]
/-- A slice of records, out of its elements. -/
theorem rx_of {α : Type} {en : α → List Value} {sz : Nat} {P : α → Prop} (d : α) {a : Addr} {len cap : Nat} (hl : len ≤ maxLen) (hen : ∀ x, ∃ u, (en x)[0]? = some u)
    (hel : ∀ i, i < len → ∃ x : α, P x ∧ ∀ j u, (en x)[j]? = some u → w.cell? (a.add (i * sz + j)) = some u) : ∃ l : List α, Rx en sz w (.slice (some a) len cap) l ∧ ∀ x ∈ l, P x := by
  have hex : ∃ f : Nat → α, ∀ i, i < len → P (f i) ∧ ∀ j u, (en (f i))[j]? = some u → w.cell? (a.add (i * sz + j)) = some u :=
    ⟨fun i => if h : i < len then (hel i h).choose else d, fun i h => by simp only [h, dif_pos]; exact (hel i h).choose_spec⟩
  obtain ⟨f, hf⟩ := hex
  refine ⟨(List.range len).map f, ⟨by simp; omega, some a, cap, by simp, fun k x hx => ?_⟩, fun p hp => ?_⟩
  · have hk : k < len := by
      have := (List.getElem?_eq_some_iff.1 hx).1
      simpa using this
    obtain rfl : f k = x := by
      rw [List.getElem?_map, List.getElem?_range hk] at hx
      simpa using hx
    obtain ⟨hv, hcell⟩ := hf k hk
    obtain ⟨u0, hu0⟩ := hen (f 0)
    have q0 := (hf 0 (by omega)).2 0 _ hu0
    have hs : a.spot = none := by
      have := (cell_blkT q0).2
      simpa [Addr.add] using this
    have hb : a.block < w.heap.size := by
      have := (cell_blkT q0).1
      rw [add_spot a _ hs] at this
      exact this
    refine ⟨a.block, a.off, ?_, hb, fun j u hu => ?_⟩
    · obtain ⟨b, o, sp⟩ := a
      simp only at hs
      subst hs
      rfl
    · have q := hcell j u hu
      rw [add_spot a _ hs] at q
      rw [Nat.add_assoc]
      exact q
  · obtain ⟨i, hi', rfl⟩ := List.mem_map.1 hp
    exact (hf i (List.mem_range.1 hi')).1
/-- A slice of intervals, as an argument is read. -/
theorem vx_read {fuel : Nat} {c : Value} {y : DataW H × List MemPlace} (h : DataW.trod enc Tryz.prog w base spare held fuel 24 [c] = some y) : ∃ l : List (Int × Int), Vx w c l ∧ ∀ p ∈ l, W64 p.1 ∧ W64 p.2 := by
  have h3 : Tryz.prog.cellsOf 26 = 2 := by kernel_rfl
  have h4 : Tryz.prog.cellsOf 2 = 1 := by kernel_rfl
  rcases Go.Deep.open_slice Tryz.underlying24 h with ⟨hc, _⟩ | ⟨a, len, cap, m, n, D, Pl, hc, _, hl, hm, hmm, _, hi⟩
  · obtain rfl : c = .slice none 0 0 := by simpa using hc
    exact ⟨[], Rx.nil _ _ _, fun p hp => by simp at hp⟩
  · obtain rfl : c = .slice (some a) len cap := by simpa using hc
    rw [h3] at hi
    have hlm : len ≤ m := by rw [hmm]; split <;> omega
    refine rx_of (en := encB) (sz := 2) (P := fun p : Int × Int => W64 p.1 ∧ W64 p.2) (0, 0) (by omega) (fun x => ⟨_, rfl⟩) (fun i hil => ?_)
    obtain ⟨cs, hcs, ht⟩ := hi i (by omega)
    obtain ⟨_, hcl, hat⟩ := World.cells?_some hcs
    obtain ⟨y0', y1', n'', _, _, t0, t1⟩ := trod_struct2 Tryz.underlying26 ht
    match cs, hcl with
    | [c3, c4], _ =>
      obtain ⟨k3, e3, _, w3⟩ := DataW.trod_int Tryz.underlying2 t0
      obtain ⟨k4, e4, _, w4⟩ := DataW.trod_int Tryz.underlying2 t1
      simp [h4] at e3 e4
      subst e3 e4
      refine ⟨(k3, k4), ⟨wf64t w3, wf64t w4⟩, fun j u hu => ?_⟩
      have hj : j < 2 := by
        have := (List.getElem?_eq_some_iff.1 hu).1
        simpa [encB] using this
      have q := hat j (by omega)
      rw [Go.Deep.add_add] at q
      rw [q, ← hu]
      rfl
end
end Go.Proofs.YtbppfohcicepcaaGreat
namespace Go.Proofs.YtbppfohcicepcaaGreat
open Go.ChangeShapes Go.WideShapes Go.ChangeAt Go.RowKit
set_option linter.unusedVariables false
set_option linter.unusedSimpArgs false
/-- The value of an expression. -/
def evT (X : List (Int × Int)) (t : Int × Int) : Ex → Int × Int
  | .e0 x => if x.op = 1 then (x.lo, x.hi) else if x.op = 2 then X.getD x.n.toNat (0, 0) else t
  | .e1 x a => opI x.op (evT X t a) (evT X t a)
  | .e2 x a b => opI x.op (evT X t a) (evT X t b)
theorem evT_one (X : List (Int × Int)) (t : Int × Int) (x : Nd) (a : Ex) : evT X t (.e1 x a) = opI x.op (evT X t a) (evT X t a) := by rw [evT]
theorem evT_two (X : List (Int × Int)) (t : Int × Int) (x : Nd) (a b : Ex) : evT X t (.e2 x a b) = opI x.op (evT X t a) (evT X t b) := by rw [evT]
theorem opI_six (p q : Int × Int) : opI 6 p q = rtI p := by
  unfold opI
  rw [if_neg (by decide), if_neg (by decide), if_pos rfl]
theorem ar0_op {N : Int} {x : Nd} (h0 : arI x.op = 0) (h : vnB N x = true) : x.op = 1 ∨ x.op = 2 ∨ x.op = 3 := by
  unfold vnB at h
  by_cases h1 : x.op = 1
  · exact .inl h1
  rw [if_neg h1] at h
  by_cases h2 : x.op = 2
  · exact .inr (.inl h2)
  rw [if_neg h2] at h
  by_cases h3 : 3 ≤ x.op ∧ x.op ≤ 10
  · refine .inr (.inr ?_)
    unfold arI at h0
    split at h0
    · omega
    split at h0
    · omega
    omega
  · rw [if_neg h3] at h
    cases h
theorem evT_vi {X : List (Int × Int)} {t : Int × Int} {N : Int} (hX : ∀ p ∈ X, VI p.1 p.2) (ht : VI t.1 t.2) : ∀ {e : Ex}, EV N e → VI (evT X t e).1 (evT X t e).2
  | .e0 x, he => by
    unfold evT
    split
    · next h =>
      have := he.2
      unfold vnB at this
      rw [if_pos h] at this
      simp only [Bool.and_eq_true, decide_eq_true_eq] at this
      exact this.2
    split
    · rw [List.getD_eq_getElem?_getD]
      cases e : X[x.n.toNat]? with
      | none => exact .inr (by decide)
      | some p => exact hX p (List.mem_of_getElem? e)
    · exact ht
  | .e1 x a, he => opI_vi _ (evT_vi hX ht he.2) (evT_vi hX ht he.2)
  | .e2 x a b, he => opI_vi _ (evT_vi hX ht he.2.1) (evT_vi hX ht he.2.2)
end Go.Proofs.YtbppfohcicepcaaGreat
