/-
  For all models, intervals, corners and fractions, the law TaylorMulIntervalInclusion returns true: a moderate value of a model times a moderate number of an interval is a value of their MulInterval, and multiplication by the interval [1, 1] keeps all values.
  Conditions: none besides those that the given row prints.
-/
import Derived.Test.YtbfhmbadgbackaaGreatRows
import Derived.WalkKit
import Derived.ProofKit
import Derived.OpenShut
import Derived.ShutString
import Derived.Test.YtbfhmbadgbackaaGreatOpen
import Derived.Test.YtbfhmbadgbackaaGreatLTi
import Derived.Test.YtbfhmbadgbackaaGreatYe
namespace Go.Proofs.YtbfhmbadgbackaaGreat.taylorMulIntervalInclusion
open Go.ChangeShapes Go.WideShapes Go.ChangeAt Go.RowKit
open Go.ChangeMaps (open_string shut_string)
set_option linter.unusedVariables false
set_option maxRecDepth 100000

theorem own : ownKnob Tryz.prog.godebug = none := by kernel_rfl

theorem open1 {r : Reach} {base : Nat} {W : World} {v : Value} (h : Value.okWide Tryz.prog W r base 24 v) : ∃ a1_0 a1_1 : Int, v = .agg #[.int .i64 a1_0, .int .i64 a1_1] ∧ ∀ x ∈ [a1_0, a1_1], IntKind.has .i64 x := by
  obtain ⟨xs, rfl, hl, hx⟩ := open_struct_ints (k := .i64) Tryz.underlying24 h (show Tryz.prog.cellTypes Tryz.prog.depth 24 = some [2, 2] by kernel_rfl) (by intro u hu; simp at hu; first | (subst hu; kernel_rfl) | (rcases hu with rfl <;> kernel_rfl))
  rw [show Tryz.prog.cellsOf 24 = 2 by kernel_rfl] at hl
  match xs, hl, hx with
  | [x0, x1], _, hx => exact ⟨x0, x1, rfl, hx⟩

theorem walk (w : World) (a0A a0B a0S : Value) (a0p a0q a0r a0s a0x a0y : Int) (a0la a0lb : List Tm) (a0ls : List Int) (h0A : Tx w a0A a0la ∧ ∀ t ∈ a0la, TV t) (h0p : -9223372036854775808 ≤ a0p ∧ a0p ≤ 9223372036854775807) (h0q : -9223372036854775808 ≤ a0q ∧ a0q ≤ 9223372036854775807) (h0B : Tx w a0B a0lb ∧ ∀ t ∈ a0lb, TV t) (h0r : -9223372036854775808 ≤ a0r ∧ a0r ≤ 9223372036854775807) (h0s : -9223372036854775808 ≤ a0s ∧ a0s ≤ 9223372036854775807) (h0S : S8 w a0S a0ls ∧ ∀ x ∈ a0ls, -128 ≤ x ∧ x ≤ 127) (h0x : 0 ≤ a0x ∧ a0x ≤ 65535) (h0y : 0 ≤ a0y ∧ a0y ≤ 65535) (a1_0 a1_1 : Int) (w1 : ∀ x ∈ [a1_0, a1_1], IntKind.has .i64 x) :
    Calls Tryz.prog 6 #[.agg #[a0A, .int .i64 a0p, .int .i64 a0q, a0B, .int .i64 a0r, .int .i64 a0s, a0S, .int .u16 a0x, .int .u16 a0y], .agg #[.int .i64 a1_0, .int .i64 a1_1]] w fun e w' => e = .returned (.bool true) ∧ Below w.heap.size w w' :=
  tmulinc w a0A a0B a0S a0p a0q a0r a0s a0x a0y a0la a0lb a0ls h0A h0p h0q h0B h0r h0s h0S h0x h0y a1_0 a1_1 w1

set_option maxRecDepth 100000 in
theorem lifted (os : Os) (started : os.Started) (H : Type) (enc : TypeId × Value → H) :
    ReturnsInHanded {} Tryz.checked os 6 .any (Rows.taylorMulIntervalInclusionSpec.pre6 enc Tryz.prog Tryz.f6 Rows.taylorMulIntervalInclusionRow.domain false) (Rows.taylorMulIntervalInclusionSpec.post enc Tryz.prog Tryz.f6 false true false false) := by
  refine returnsInHanded_of_change (C := Tryz.checked) own started (by kernel_rfl) Tryz.func6
    (ChangeSpec.witness6 (enc := enc) (C := Tryz.checked) false ⟨#[], #[.agg #[.slice none 0 0, .int .i64 0, .int .i64 0, .slice none 0 0, .int .i64 0, .int .i64 0, .slice none 0 0, .int .u16 0, .int .u16 0], .agg #[.int .i64 0, .int .i64 0]], []⟩ 8 (by kernel_rfl) (by kernel_rfl) (by kernel_rfl) (by kernel_rfl)) ?_
  intro W base args ds gs before hval0 hW hcnd _
  have hval : ∀ (j : Nat) t v, Tryz.f6.params[j]? = some t → args[j]? = some v → Value.okWide Tryz.prog W .any base t v := hval0
  have hW' := hW
  obtain ⟨p, q, hA0, hV, rfl, hfz, hnd⟩ := hW
  have hA : DataW.TrodAll enc Tryz.prog W 0 (fun _ => true) true Tryz.f6.params.toList args.toList ds p := hA0
  rw [Tryz.params6] at hA hval
  obtain ⟨v0, vs0, d0, ds0, p0, q0, hargs, rfl, rfl, h0, r0⟩ := trodAll_cons hA
  obtain ⟨v1, vs1, d1, ds1, p1, q1, rfl, rfl, rfl, h1, r1⟩ := trodAll_cons r0
  obtain ⟨rfl, rfl, rfl⟩ := trodAll_nil r1
  obtain rfl : args = #[v0, v1] := by cases args; simp_all
  obtain ⟨rfl, rfl⟩ := trodVars_none hV
  have k0 := h0
  have lt0 : ∀ x ∈ p0, x.block < W.heap.size := by obtain ⟨m, hm⟩ := k0; exact DataW.trod_lt m _ _ _ hm
  obtain ⟨a0A, a0B, a0S, a0p, a0q, a0r, a0s, a0x, a0y, a0la, a0lb, a0ls, rfl, h0A, h0p, h0q, h0B, h0r, h0s, h0S, h0x, h0y⟩ := open_input6 (hval 0 30 v0 rfl rfl) h0
  have k1 := h1
  have lt1 : ∀ x ∈ p1, x.block < W.heap.size := by obtain ⟨m, hm⟩ := k1; exact DataW.trod_lt m _ _ _ hm
  obtain ⟨a1_0, a1_1, rfl, w1⟩ := open1 (hval 1 24 v1 rfl rfl)
  clear hA0 hval0
  simp only [List.append_nil] at hW'
  refine (walk W a0A a0B a0S a0p a0q a0r a0s a0x a0y a0la a0lb a0ls h0A h0p h0q h0B h0r h0s h0S h0x h0y a1_0 a1_1 w1).mono fun e W' ⟨he, bel⟩ => ?_
  subst he
  exact ⟨_, rfl, _, _, _, [], _, [], hW', trodAll_mk1 (shut_bool Tryz.underlying4 _), (trodAll_cons_mk (Below.trod laidOut (by kernel_rfl) (of_decide_eq_true (by kernel_rfl)) k0 bel lt0) (trodAll_cons_mk (Below.trod laidOut (by kernel_rfl) (of_decide_eq_true (by kernel_rfl)) k1 bel lt1) trodAll_mk0)), rfl, bel.frame _, fun h => by cases h⟩

theorem over : Rows.taylorMulIntervalInclusionRow.holds Tryz.pinned (OpenSpec.ofChange Rows.taylorMulIntervalInclusionSpec) :=
  OpenClaim.holds_of_wide 6 Tryz.f6 rfl rfl rfl rfl rfl rfl rfl ⟨rfl, rfl, rfl, rfl, rfl⟩ rfl rfl rfl rfl rfl (by kernel_rfl) Tryz.func6 (by kernel_rfl)
    (of_decide_eq_true (by kernel_rfl)) (by unfold Func.isWrapper; first | (rw [if_pos (by decide +kernel)]; kernel_rfl) | (rw [if_neg (by decide +kernel)]; exact ⟨rfl, rfl⟩))
    (fun os started H enc _ => lifted os started H enc)

theorem proved : Rows.TaylorMulIntervalInclusionSaid := over
end Go.Proofs.YtbfhmbadgbackaaGreat.taylorMulIntervalInclusion
