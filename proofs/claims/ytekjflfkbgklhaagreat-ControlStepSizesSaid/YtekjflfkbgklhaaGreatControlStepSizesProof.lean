/-
  For all step control parameters and all sizes, Initial returns a size from 1 to First and at most the given one, Grow a size from 1 to Most that is at most doubled, and Shrink fails or returns a size of at least Least that is half of the given one; repeated shrinking fails within 32 rounds.
  Conditions: none besides those that the given row prints.
-/
import Derived.Test.YtekjflfkbgklhaaGreatRows
import Derived.WalkKit
import Derived.ProofKit
import Derived.OpenShut
import Derived.ShutString
import Derived.Test.YtekjflfkbgklhaaGreatKczr
namespace Go.Proofs.YtekjflfkbgklhaaGreat.controlStepSizes
open Go.ChangeShapes Go.WideShapes Go.ChangeAt Go.RowKit
open Go.ChangeMaps (open_string shut_string)
set_option linter.unusedVariables false
set_option maxRecDepth 100000

theorem own : ownKnob Tryz.prog.godebug = none := by kernel_rfl

theorem open0 {r : Reach} {base : Nat} {W : World} {v : Value} (h : Value.okWide Tryz.prog W r base 23 v) : ∃ a0_0 a0_1 a0_2 a0_3 a0_4 : Int, v = .agg #[.int .i64 a0_0, .int .i64 a0_1, .int .i64 a0_2, .int .i64 a0_3, .int .i64 a0_4] ∧ ∀ x ∈ [a0_0, a0_1, a0_2, a0_3, a0_4], IntKind.has .i64 x := by
  obtain ⟨xs, rfl, hl, hx⟩ := open_struct_ints (k := .i64) Tryz.underlying23 h (show Tryz.prog.cellTypes Tryz.prog.depth 23 = some [3, 2, 2, 2, 2] by kernel_rfl) (by intro u hu; simp at hu; first | (subst hu; kernel_rfl) | (rcases hu with rfl | rfl <;> kernel_rfl))
  rw [show Tryz.prog.cellsOf 23 = 5 by kernel_rfl] at hl
  match xs, hl, hx with
  | [x0, x1, x2, x3, x4], _, hx => exact ⟨x0, x1, x2, x3, x4, rfl, hx⟩

theorem walk (a0_0 a0_1 a0_2 a0_3 a0_4 : Int) (w0 : ∀ x ∈ [a0_0, a0_1, a0_2, a0_3, a0_4], IntKind.has .i64 x) (a1 : Int) (w1 : (Lit.int .i64 a1).wf = true) (w : World) :
    Calls Tryz.prog 7 #[.agg #[.int .i64 a0_0, .int .i64 a0_1, .int .i64 a0_2, .int .i64 a0_3, .int .i64 a0_4], .int .i64 a1] w fun e w' => e = .returned (.bool true) ∧ Below w.heap.size w w' :=
  ssizes a0_0 a0_1 a0_2 a0_3 a0_4 w0 a1 w1 w

set_option maxRecDepth 100000 in
theorem lifted (os : Os) (started : os.Started) (H : Type) (enc : TypeId × Value → H) :
    ReturnsInHanded {} Tryz.checked os 7 .any (Rows.controlStepSizesSpec.pre6 enc Tryz.prog Tryz.f7 Rows.controlStepSizesRow.domain false) (Rows.controlStepSizesSpec.post enc Tryz.prog Tryz.f7 false true false false) := by
  refine returnsInHanded_of_change (C := Tryz.checked) own started (by kernel_rfl) Tryz.func7
    (ChangeSpec.witness6 (enc := enc) (C := Tryz.checked) false ⟨#[], #[.agg #[.int .i64 0, .int .i64 0, .int .i64 0, .int .i64 0, .int .i64 0], .int .i64 0], []⟩ 8 (by kernel_rfl) (by kernel_rfl) (by kernel_rfl) (by kernel_rfl)) ?_
  intro W base args ds gs before hval0 hW hcnd _
  have hval : ∀ (j : Nat) t v, Tryz.f7.params[j]? = some t → args[j]? = some v → Value.okWide Tryz.prog W .any base t v := hval0
  have hW' := hW
  obtain ⟨p, q, hA0, hV, rfl, hfz, hnd⟩ := hW
  have hA : DataW.TrodAll enc Tryz.prog W 0 (fun _ => true) true Tryz.f7.params.toList args.toList ds p := hA0
  rw [Tryz.params7] at hA hval
  obtain ⟨v0, vs0, d0, ds0, p0, q0, hargs, rfl, rfl, h0, r0⟩ := trodAll_cons hA
  obtain ⟨v1, vs1, d1, ds1, p1, q1, rfl, rfl, rfl, h1, r1⟩ := trodAll_cons r0
  obtain ⟨rfl, rfl, rfl⟩ := trodAll_nil r1
  obtain rfl : args = #[v0, v1] := by cases args; simp_all
  obtain ⟨rfl, rfl⟩ := trodVars_none hV
  have k0 := h0
  have lt0 : ∀ x ∈ p0, x.block < W.heap.size := by obtain ⟨m, hm⟩ := k0; exact DataW.trod_lt m _ _ _ hm
  obtain ⟨a0_0, a0_1, a0_2, a0_3, a0_4, rfl, w0⟩ := open0 (hval 0 23 v0 rfl rfl)
  obtain ⟨a1, rfl, rfl, rfl, w1⟩ := open_int Tryz.underlying2 (hval 1 2 v1 rfl rfl) h1
  clear hA0 hval0
  simp only [List.append_nil] at hW'
  refine (walk a0_0 a0_1 a0_2 a0_3 a0_4 w0 a1 w1 W).mono fun e W' ⟨he, bel⟩ => ?_
  subst he
  exact ⟨_, rfl, _, _, _, [], _, [], hW', trodAll_mk1 (shut_bool Tryz.underlying4 _), (trodAll_cons_mk (Below.trod laidOut (by kernel_rfl) (of_decide_eq_true (by kernel_rfl)) k0 bel lt0) (trodAll_cons_mk (shut_int Tryz.underlying2 w1) trodAll_mk0)), rfl, bel.frame _, fun h => by cases h⟩

theorem over : Rows.controlStepSizesRow.holds Tryz.pinned (OpenSpec.ofChange Rows.controlStepSizesSpec) :=
  OpenClaim.holds_of_wide 7 Tryz.f7 rfl rfl rfl rfl rfl rfl rfl ⟨rfl, rfl, rfl, rfl, rfl⟩ rfl rfl rfl rfl rfl (by kernel_rfl) Tryz.func7 (by kernel_rfl)
    (of_decide_eq_true (by kernel_rfl)) (by unfold Func.isWrapper; first | (rw [if_pos (by decide +kernel)]; kernel_rfl) | (rw [if_neg (by decide +kernel)]; exact ⟨rfl, rfl⟩))
    (fun os started H enc _ => lifted os started H enc)

theorem proved : Rows.ControlStepSizesSaid := over
end Go.Proofs.YtekjflfkbgklhaaGreat.controlStepSizes
