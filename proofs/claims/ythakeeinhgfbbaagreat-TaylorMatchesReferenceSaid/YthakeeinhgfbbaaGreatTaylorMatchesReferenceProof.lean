/-
  For all models, degrees and intervals, the law TaylorMatchesReference returns true: Valid agrees with the reference on arbitrary models of at most 120 terms, and Add, Sub, Neg, Mul, MulInterval, Truncate and Range agree with it on all models that Made makes.
  Conditions: none besides those that the given row prints.
-/
import Derived.Test.YthakeeinhgfbbaaGreatRows
import Derived.WalkKit
import Derived.ProofKit
import Derived.OpenShut
import Derived.ShutString
import Derived.Test.YthakeeinhgfbbaaGreatOpen
import Derived.Test.YthakeeinhgfbbaaGreatLTm
import Derived.Test.YthakeeinhgfbbaaGreatYe
namespace Go.Proofs.YthakeeinhgfbbaaGreat.taylorMatchesReference
open Go.ChangeShapes Go.WideShapes Go.ChangeAt Go.RowKit
open Go.ChangeMaps (open_string shut_string)
set_option linter.unusedVariables false
set_option maxRecDepth 100000

theorem own : ownKnob Tryz.prog.godebug = none := by kernel_rfl

theorem open2 {r : Reach} {base : Nat} {W : World} {v : Value} (h : Value.okWide Tryz.prog W r base 24 v) : ∃ a2_0 a2_1 : Int, v = .agg #[.int .i64 a2_0, .int .i64 a2_1] ∧ ∀ x ∈ [a2_0, a2_1], IntKind.has .i64 x := by
  obtain ⟨xs, rfl, hl, hx⟩ := open_struct_ints (k := .i64) Tryz.underlying24 h (show Tryz.prog.cellTypes Tryz.prog.depth 24 = some [2, 2] by kernel_rfl) (by intro u hu; simp at hu; first | (subst hu; kernel_rfl) | (rcases hu with rfl <;> kernel_rfl))
  rw [show Tryz.prog.cellsOf 24 = 2 by kernel_rfl] at hl
  match xs, hl, hx with
  | [x0, x1], _, hx => exact ⟨x0, x1, rfl, hx⟩

theorem walk (w : World) (a0A a0B a0S : Value) (a0p a0q a0r a0s a0x a0y : Int) (a0la a0lb : List Tm) (a0ls : List Int) (h0A : Tx w a0A a0la ∧ ∀ t ∈ a0la, TV t) (h0p : -9223372036854775808 ≤ a0p ∧ a0p ≤ 9223372036854775807) (h0q : -9223372036854775808 ≤ a0q ∧ a0q ≤ 9223372036854775807) (h0B : Tx w a0B a0lb ∧ ∀ t ∈ a0lb, TV t) (h0r : -9223372036854775808 ≤ a0r ∧ a0r ≤ 9223372036854775807) (h0s : -9223372036854775808 ≤ a0s ∧ a0s ≤ 9223372036854775807) (h0S : S8 w a0S a0ls ∧ ∀ x ∈ a0ls, -128 ≤ x ∧ x ≤ 127) (h0x : 0 ≤ a0x ∧ a0x ≤ 65535) (h0y : 0 ≤ a0y ∧ a0y ≤ 65535) (a1 : Int) (w1 : (Lit.int .u8 a1).wf = true) (a2_0 a2_1 : Int) (w2 : ∀ x ∈ [a2_0, a2_1], IntKind.has .i64 x) :
    Calls Tryz.prog 3 #[.agg #[a0A, .int .i64 a0p, .int .i64 a0q, a0B, .int .i64 a0r, .int .i64 a0s, a0S, .int .u16 a0x, .int .u16 a0y], .int .u8 a1, .agg #[.int .i64 a2_0, .int .i64 a2_1]] w fun e w' => e = .returned (.bool true) ∧ Below w.heap.size w w' :=
  tmatch w a0A a0B a0S a0p a0q a0r a0s a0x a0y a0la a0lb a0ls h0A h0p h0q h0B h0r h0s h0S h0x h0y a1 w1 a2_0 a2_1 w2

set_option maxRecDepth 100000 in
theorem lifted (os : Os) (started : os.Started) (H : Type) (enc : TypeId × Value → H) :
    ReturnsInHanded {} Tryz.checked os 3 .any (Rows.taylorMatchesReferenceSpec.pre6 enc Tryz.prog Tryz.f3 Rows.taylorMatchesReferenceRow.domain false) (Rows.taylorMatchesReferenceSpec.post enc Tryz.prog Tryz.f3 false true false false) := by
  refine returnsInHanded_of_change (C := Tryz.checked) own started (by kernel_rfl) Tryz.func3
    (ChangeSpec.witness6 (enc := enc) (C := Tryz.checked) false ⟨#[], #[.agg #[.slice none 0 0, .int .i64 0, .int .i64 0, .slice none 0 0, .int .i64 0, .int .i64 0, .slice none 0 0, .int .u16 0, .int .u16 0], .int .u8 0, .agg #[.int .i64 0, .int .i64 0]], []⟩ 8 (by kernel_rfl) (by kernel_rfl) (by kernel_rfl) (by kernel_rfl)) ?_
  intro W base args ds gs before hval0 hW hcnd _
  have hval : ∀ (j : Nat) t v, Tryz.f3.params[j]? = some t → args[j]? = some v → Value.okWide Tryz.prog W .any base t v := hval0
  have hW' := hW
  obtain ⟨p, q, hA0, hV, rfl, hfz, hnd⟩ := hW
  have hA : DataW.TrodAll enc Tryz.prog W 0 (fun _ => true) true Tryz.f3.params.toList args.toList ds p := hA0
  rw [Tryz.params3] at hA hval
  obtain ⟨v0, vs0, d0, ds0, p0, q0, hargs, rfl, rfl, h0, r0⟩ := trodAll_cons hA
  obtain ⟨v1, vs1, d1, ds1, p1, q1, rfl, rfl, rfl, h1, r1⟩ := trodAll_cons r0
  obtain ⟨v2, vs2, d2, ds2, p2, q2, rfl, rfl, rfl, h2, r2⟩ := trodAll_cons r1
  obtain ⟨rfl, rfl, rfl⟩ := trodAll_nil r2
  obtain rfl : args = #[v0, v1, v2] := by cases args; simp_all
  obtain ⟨rfl, rfl⟩ := trodVars_none hV
  have k0 := h0
  have lt0 : ∀ x ∈ p0, x.block < W.heap.size := by obtain ⟨m, hm⟩ := k0; exact DataW.trod_lt m _ _ _ hm
  obtain ⟨a0A, a0B, a0S, a0p, a0q, a0r, a0s, a0x, a0y, a0la, a0lb, a0ls, rfl, h0A, h0p, h0q, h0B, h0r, h0s, h0S, h0x, h0y⟩ := open_input6 (hval 0 30 v0 rfl rfl) h0
  obtain ⟨a1, rfl, rfl, rfl, w1⟩ := open_int Tryz.underlying5 (hval 1 5 v1 rfl rfl) h1
  have k2 := h2
  have lt2 : ∀ x ∈ p2, x.block < W.heap.size := by obtain ⟨m, hm⟩ := k2; exact DataW.trod_lt m _ _ _ hm
  obtain ⟨a2_0, a2_1, rfl, w2⟩ := open2 (hval 2 24 v2 rfl rfl)
  clear hA0 hval0
  simp only [List.append_nil] at hW'
  refine (walk W a0A a0B a0S a0p a0q a0r a0s a0x a0y a0la a0lb a0ls h0A h0p h0q h0B h0r h0s h0S h0x h0y a1 w1 a2_0 a2_1 w2).mono fun e W' ⟨he, bel⟩ => ?_
  subst he
  exact ⟨_, rfl, _, _, _, [], _, [], hW', trodAll_mk1 (shut_bool Tryz.underlying4 _), (trodAll_cons_mk (Below.trod laidOut (by kernel_rfl) (of_decide_eq_true (by kernel_rfl)) k0 bel lt0) (trodAll_cons_mk (shut_int Tryz.underlying5 w1) (trodAll_cons_mk (Below.trod laidOut (by kernel_rfl) (of_decide_eq_true (by kernel_rfl)) k2 bel lt2) trodAll_mk0))), rfl, bel.frame _, fun h => by cases h⟩

theorem over : Rows.taylorMatchesReferenceRow.holds Tryz.pinned (OpenSpec.ofChange Rows.taylorMatchesReferenceSpec) :=
  OpenClaim.holds_of_wide 3 Tryz.f3 rfl rfl rfl rfl rfl rfl rfl ⟨rfl, rfl, rfl, rfl, rfl⟩ rfl rfl rfl rfl rfl (by kernel_rfl) Tryz.func3 (by kernel_rfl)
    (of_decide_eq_true (by kernel_rfl)) (by unfold Func.isWrapper; first | (rw [if_pos (by decide +kernel)]; kernel_rfl) | (rw [if_neg (by decide +kernel)]; exact ⟨rfl, rfl⟩))
    (fun os started H enc _ => lifted os started H enc)

theorem proved : Rows.TaylorMatchesReferenceSaid := over
end Go.Proofs.YthakeeinhgfbbaaGreat.taylorMatchesReference
