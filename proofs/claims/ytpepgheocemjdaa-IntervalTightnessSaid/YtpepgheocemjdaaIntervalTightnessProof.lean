/-
  For every argument the law IntervalTightness returns true: each endpoint of a bounded sum, product, square, quotient or square root is the rounded value for some endpoints of the operands.
  Conditions: none besides those that the given row prints.
-/
import Derived.Test.YtpepgheocemjdaaRows
import Derived.WalkKit
import Derived.ProofKit
import Derived.OpenShut
import Derived.ShutString
import Derived.Test.YtpepgheocemjdaaOpen
import Derived.Test.YtpepgheocemjdaaLTi
namespace Go.Proofs.Ytpepgheocemjdaa.intervalTightness
open Go.ChangeShapes Go.WideShapes Go.ChangeAt Go.RowKit
open Go.ChangeMaps (open_string shut_string)
set_option linter.unusedVariables false
set_option maxRecDepth 100000

theorem own : ownKnob Try.prog.godebug = none := by kernel_rfl

theorem open0 {r : Reach} {base : Nat} {W : World} {v : Value} (h : Value.okWide Try.prog W r base 26 v) : ∃ a0_0 a0_1 a0_2 a0_3 a0_4 a0_5 : Int, v = .agg #[.int .i64 a0_0, .int .i64 a0_1, .int .i64 a0_2, .int .i64 a0_3, .int .i32 a0_4, .int .u16 a0_5] ∧ ∀ p ∈ [(IntKind.i64, a0_0), (IntKind.i64, a0_1), (IntKind.i64, a0_2), (IntKind.i64, a0_3), (IntKind.i32, a0_4), (IntKind.u16, a0_5)], p.1.has p.2 := by
  obtain ⟨xs, rfl, hl, hx⟩ := open_struct_mixed (ks := [.i64, .i64, .i64, .i64, .i32, .u16]) Try.underlying26 h (show Try.prog.cellTypes Try.prog.depth 26 = some [2, 2, 2, 2, 21, 24] by kernel_rfl) (by kernel_rfl) (by rfl) (by intro p hp; simp at hp; rcases hp with rfl | rfl | rfl <;> kernel_rfl)
  match xs, hl, hx with
  | [x0, x1, x2, x3, x4, x5], _, hx => exact ⟨x0, x1, x2, x3, x4, x5, rfl, hx⟩

theorem walk (a0_0 a0_1 a0_2 a0_3 a0_4 a0_5 : Int) (w0 : ∀ p ∈ [(IntKind.i64, a0_0), (IntKind.i64, a0_1), (IntKind.i64, a0_2), (IntKind.i64, a0_3), (IntKind.i32, a0_4), (IntKind.u16, a0_5)], p.1.has p.2) (w : World) :
    Calls Try.prog 3 #[.agg #[.int .i64 a0_0, .int .i64 a0_1, .int .i64 a0_2, .int .i64 a0_3, .int .i32 a0_4, .int .u16 a0_5]] w fun e w' => e = .returned (.bool true) ∧ Below w.heap.size w w' :=
  tight a0_0 a0_1 a0_2 a0_3 a0_4 a0_5 w0 w

set_option maxRecDepth 100000 in
theorem lifted (os : Os) (started : os.Started) (H : Type) (enc : TypeId × Value → H) :
    ReturnsInHanded {} Try.checked os 3 .any (Rows.intervalTightnessSpec.pre6 enc Try.prog Try.f3 Rows.intervalTightnessRow.domain false) (Rows.intervalTightnessSpec.post enc Try.prog Try.f3 false true false false) := by
  refine returnsInHanded_of_change (C := Try.checked) own started (by kernel_rfl) Try.func3
    (ChangeSpec.witness6 (enc := enc) (C := Try.checked) false ⟨#[], #[.agg #[.int .i64 0, .int .i64 0, .int .i64 0, .int .i64 0, .int .i32 0, .int .u16 0]], []⟩ 8 (by kernel_rfl) (by kernel_rfl) (by kernel_rfl) (by kernel_rfl)) ?_
  intro W base args ds gs before hval0 hW hcnd _
  have hval : ∀ (j : Nat) t v, Try.f3.params[j]? = some t → args[j]? = some v → Value.okWide Try.prog W .any base t v := hval0
  have hW' := hW
  obtain ⟨p, q, hA0, hV, rfl, hfz, hnd⟩ := hW
  have hA : DataW.TrodAll enc Try.prog W 0 (fun _ => true) true Try.f3.params.toList args.toList ds p := hA0
  rw [Try.params3] at hA hval
  obtain ⟨v0, vs0, d0, ds0, p0, q0, hargs, rfl, rfl, h0, r0⟩ := trodAll_cons hA
  obtain ⟨rfl, rfl, rfl⟩ := trodAll_nil r0
  obtain rfl : args = #[v0] := by cases args; simp_all
  obtain ⟨rfl, rfl⟩ := trodVars_none hV
  have k0 := h0
  have lt0 : ∀ x ∈ p0, x.block < W.heap.size := by obtain ⟨m, hm⟩ := k0; exact DataW.trod_lt m _ _ _ hm
  obtain ⟨a0_0, a0_1, a0_2, a0_3, a0_4, a0_5, rfl, w0⟩ := open0 (hval 0 26 v0 rfl rfl)
  clear hA0 hval0
  simp only [List.append_nil] at hW'
  refine (walk a0_0 a0_1 a0_2 a0_3 a0_4 a0_5 w0 W).mono fun e W' ⟨he, bel⟩ => ?_
  subst he
  exact ⟨_, rfl, _, _, _, [], _, [], hW', trodAll_mk1 (shut_bool Try.underlying4 _), (trodAll_cons_mk (Below.trod laidOut (by kernel_rfl) (of_decide_eq_true (by kernel_rfl)) k0 bel lt0) trodAll_mk0), rfl, bel.frame _, fun h => by cases h⟩

theorem over : Rows.intervalTightnessRow.holds Try.pinned (OpenSpec.ofChange Rows.intervalTightnessSpec) :=
  OpenClaim.holds_of_wide 3 Try.f3 rfl rfl rfl rfl rfl rfl rfl ⟨rfl, rfl, rfl, rfl, rfl⟩ rfl rfl rfl rfl rfl (by kernel_rfl) Try.func3 (by kernel_rfl)
    (of_decide_eq_true (by kernel_rfl)) (by unfold Func.isWrapper; first | (rw [if_pos (by decide +kernel)]; kernel_rfl) | (rw [if_neg (by decide +kernel)]; exact ⟨rfl, rfl⟩))
    (fun os started H enc _ => lifted os started H enc)

theorem proved : Rows.IntervalTightnessSaid := over
end Go.Proofs.Ytpepgheocemjdaa.intervalTightness
