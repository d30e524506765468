/-
  PROVED: for all intervals, every ratio and all elements picked, armillarylaw02.IntervalInclusion returns true, and its arguments read as before.
  Conditions: none besides those that the given row prints.
-/
import Derived.Test.YtgkhkclpgkohbaaRows
import Derived.WalkKit
import Derived.ProofKit
import Derived.OpenShut
import Derived.ShutString
import Derived.Test.YtgkhkclpgkohbaaOpen
import Derived.Test.YtgkhkclpgkohbaaLInc
namespace Go.Proofs.Ytgkhkclpgkohbaa.intervalInclusion
open Go.ChangeShapes Go.WideShapes Go.ChangeAt Go.RowKit
open Go.ChangeMaps (open_string shut_string)
set_option linter.unusedVariables false

theorem own : ownKnob Try.prog.godebug = none := by kernel_rfl

theorem open0 {r : Reach} {base : Nat} {W : World} {v : Value} (h : Value.okWide Try.prog W r base 26 v) : ∃ a0_0 a0_1 a0_2 a0_3 a0_4 a0_5 : Int, v = .agg #[.int .i64 a0_0, .int .i64 a0_1, .int .i64 a0_2, .int .i64 a0_3, .int .i32 a0_4, .int .u16 a0_5] ∧ ∀ p ∈ [(IntKind.i64, a0_0), (IntKind.i64, a0_1), (IntKind.i64, a0_2), (IntKind.i64, a0_3), (IntKind.i32, a0_4), (IntKind.u16, a0_5)], p.1.has p.2 := by
  obtain ⟨xs, rfl, hl, hx⟩ := open_struct_mixed (ks := [.i64, .i64, .i64, .i64, .i32, .u16]) Try.underlying26 h (show Try.prog.cellTypes Try.prog.depth 26 = some [2, 2, 2, 2, 21, 24] by kernel_rfl) (by kernel_rfl) (by rfl) (by intro p hp; simp at hp; rcases hp with rfl | rfl | rfl <;> kernel_rfl)
  match xs, hl, hx with
  | [x0, x1, x2, x3, x4, x5], _, hx => exact ⟨x0, x1, x2, x3, x4, x5, rfl, hx⟩

theorem walk (a0_0 a0_1 a0_2 a0_3 a0_4 a0_5 : Int) (w0 : ∀ p ∈ [(IntKind.i64, a0_0), (IntKind.i64, a0_1), (IntKind.i64, a0_2), (IntKind.i64, a0_3), (IntKind.i32, a0_4), (IntKind.u16, a0_5)], p.1.has p.2) (a1 : Int) (w1 : (Lit.int .u32 a1).wf = true) (a2 : Int) (w2 : (Lit.int .u32 a2).wf = true) (w : World) :
    Calls Try.prog 4 #[.agg #[.int .i64 a0_0, .int .i64 a0_1, .int .i64 a0_2, .int .i64 a0_3, .int .i32 a0_4, .int .u16 a0_5], .int .u32 a1, .int .u32 a2] w fun e w' => e = .returned (.bool true) ∧ Below w.heap.size w w' :=
  inc a0_0 a0_1 a0_2 a0_3 a0_4 a0_5 w0 a1 w1 a2 w2 w

set_option maxRecDepth 100000 in
theorem lifted (os : Os) (started : os.Started) (H : Type) (enc : TypeId × Value → H) :
    ReturnsInHanded {} Try.checked os 4 .any (Rows.intervalInclusionSpec.pre6 enc Try.prog Try.f4 Rows.intervalInclusionRow.domain false) (Rows.intervalInclusionSpec.post enc Try.prog Try.f4 false true false false) := by
  refine returnsInHanded_of_change (C := Try.checked) own started (by kernel_rfl) Try.func4
    (ChangeSpec.witness6 (enc := enc) (C := Try.checked) false ⟨#[], #[.agg #[.int .i64 0, .int .i64 0, .int .i64 0, .int .i64 0, .int .i32 0, .int .u16 0], .int .u32 0, .int .u32 0], []⟩ 8 (by kernel_rfl) (by kernel_rfl) (by kernel_rfl) (by kernel_rfl)) ?_
  intro W base args ds gs before hval0 hW hcnd _
  have hval : ∀ (j : Nat) t v, Try.f4.params[j]? = some t → args[j]? = some v → Value.okWide Try.prog W .any base t v := hval0
  have hW' := hW
  obtain ⟨p, q, hA0, hV, rfl, hfz, hnd⟩ := hW
  have hA : DataW.TrodAll enc Try.prog W 0 (fun _ => true) true Try.f4.params.toList args.toList ds p := hA0
  rw [Try.params4] at hA hval
  obtain ⟨v0, vs0, d0, ds0, p0, q0, hargs, rfl, rfl, h0, r0⟩ := trodAll_cons hA
  obtain ⟨v1, vs1, d1, ds1, p1, q1, rfl, rfl, rfl, h1, r1⟩ := trodAll_cons r0
  obtain ⟨v2, vs2, d2, ds2, p2, q2, rfl, rfl, rfl, h2, r2⟩ := trodAll_cons r1
  obtain ⟨rfl, rfl, rfl⟩ := trodAll_nil r2
  obtain rfl : args = #[v0, v1, v2] := by cases args; simp_all
  obtain ⟨rfl, rfl⟩ := trodVars_none hV
  have k0 := h0
  have lt0 : ∀ x ∈ p0, x.block < W.heap.size := by obtain ⟨m, hm⟩ := k0; exact DataW.trod_lt m _ _ _ hm
  obtain ⟨a0_0, a0_1, a0_2, a0_3, a0_4, a0_5, rfl, w0⟩ := open0 (hval 0 26 v0 rfl rfl)
  obtain ⟨a1, rfl, rfl, rfl, w1⟩ := open_int Try.underlying45 (hval 1 45 v1 rfl rfl) h1
  obtain ⟨a2, rfl, rfl, rfl, w2⟩ := open_int Try.underlying45 (hval 2 45 v2 rfl rfl) h2
  clear hA0 hval0
  simp only [List.append_nil] at hW'
  refine (walk a0_0 a0_1 a0_2 a0_3 a0_4 a0_5 w0 a1 w1 a2 w2 W).mono fun e W' ⟨he, bel⟩ => ?_
  subst he
  exact ⟨_, rfl, _, _, _, [], _, [], hW', trodAll_mk1 (shut_bool Try.underlying4 _), (trodAll_cons_mk (Below.trod laidOut (by kernel_rfl) (of_decide_eq_true (by kernel_rfl)) k0 bel lt0) (trodAll_cons_mk (shut_int Try.underlying45 w1) (trodAll_cons_mk (shut_int Try.underlying45 w2) trodAll_mk0))), rfl, bel.frame _, fun h => by cases h⟩

theorem over : Rows.intervalInclusionRow.holds Try.pinned (OpenSpec.ofChange Rows.intervalInclusionSpec) :=
  OpenClaim.holds_of_wide 4 Try.f4 rfl rfl rfl rfl rfl rfl rfl ⟨rfl, rfl, rfl, rfl, rfl⟩ rfl rfl rfl rfl rfl (by kernel_rfl) Try.func4 (by kernel_rfl)
    (of_decide_eq_true (by kernel_rfl)) (by unfold Func.isWrapper; first | (rw [if_pos (by decide +kernel)]; kernel_rfl) | (rw [if_neg (by decide +kernel)]; exact ⟨rfl, rfl⟩))
    (fun os started H enc _ => lifted os started H enc)

theorem proved : Rows.IntervalInclusionSaid := over
end Go.Proofs.Ytgkhkclpgkohbaa.intervalInclusion
