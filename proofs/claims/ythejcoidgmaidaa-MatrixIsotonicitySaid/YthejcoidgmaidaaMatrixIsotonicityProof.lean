/-
  For all operands, the law MatrixIsotonicity returns true: products of larger matrices and boxes contain the products of the smaller ones.
  Conditions: none besides those that the given row prints.
-/
import Derived.Test.YthejcoidgmaidaaRows
import Derived.WalkKit
import Derived.ProofKit
import Derived.OpenShut
import Derived.ShutString
import Derived.Test.YthejcoidgmaidaaOpen
import Derived.Test.YthejcoidgmaidaaLIs
import Derived.Test.YthejcoidgmaidaaRead4
namespace Go.Proofs.Ythejcoidgmaidaa.matrixIsotonicity
open Go.ChangeShapes Go.WideShapes Go.ChangeAt Go.RowKit
open Go.ChangeMaps (open_string shut_string)
set_option linter.unusedVariables false
set_option maxRecDepth 100000

theorem own : ownKnob Try.prog.godebug = none := by kernel_rfl


theorem walk (w : World) (a0A a0B a0C : Value) (a0n : Int) (a0la a0lb a0lc : List (Int × Int)) (h0A : Bx w a0A a0la ∧ I64 a0la) (h0B : Bx w a0B a0lb ∧ I64 a0lb) (h0C : Bx w a0C a0lc ∧ I64 a0lc) (h0n : 0 ≤ a0n ∧ a0n < 256) (a1A a1B a1C : Value) (a1n : Int) (a1la a1lb a1lc : List (Int × Int)) (h1A : Bx w a1A a1la ∧ I64 a1la) (h1B : Bx w a1B a1lb ∧ I64 a1lb) (h1C : Bx w a1C a1lc ∧ I64 a1lc) (h1n : 0 ≤ a1n ∧ a1n < 256) :
    Calls Try.prog 5 #[.agg #[a0A, a0B, a0C, .int .u8 a0n], .agg #[a1A, a1B, a1C, .int .u8 a1n]] w fun e w' => e = .returned (.bool true) ∧ Below w.heap.size w w' :=
  isotone w a0A a0B a0C a0n a0la a0lb a0lc h0A h0B h0C h0n a1A a1B a1C a1n a1la a1lb a1lc h1A h1B h1C h1n

set_option maxRecDepth 100000 in
theorem lifted (os : Os) (started : os.Started) (H : Type) (enc : TypeId × Value → H) :
    ReturnsInHanded {} Try.checked os 5 .any (Rows.matrixIsotonicitySpec.pre6 enc Try.prog Try.f5 Rows.matrixIsotonicityRow.domain false) (Rows.matrixIsotonicitySpec.post enc Try.prog Try.f5 false true false false) := by
  refine returnsInHanded_of_change (C := Try.checked) own started (by kernel_rfl) Try.func5
    (ChangeSpec.witness6 (enc := enc) (C := Try.checked) false ⟨#[], #[.agg #[.slice none 0 0, .slice none 0 0, .slice none 0 0, .int .u8 0], .agg #[.slice none 0 0, .slice none 0 0, .slice none 0 0, .int .u8 0]], []⟩ 8 (by kernel_rfl) (by kernel_rfl) (by kernel_rfl) (by kernel_rfl)) ?_
  intro W base args ds gs before hval0 hW hcnd _
  have hval : ∀ (j : Nat) t v, Try.f5.params[j]? = some t → args[j]? = some v → Value.okWide Try.prog W .any base t v := hval0
  have hW' := hW
  obtain ⟨p, q, hA0, hV, rfl, hfz, hnd⟩ := hW
  have hA : DataW.TrodAll enc Try.prog W 0 (fun _ => true) true Try.f5.params.toList args.toList ds p := hA0
  rw [Try.params5] at hA hval
  obtain ⟨v0, vs0, d0, ds0, p0, q0, hargs, rfl, rfl, h0, r0⟩ := trodAll_cons hA
  obtain ⟨v1, vs1, d1, ds1, p1, q1, rfl, rfl, rfl, h1, r1⟩ := trodAll_cons r0
  obtain ⟨rfl, rfl, rfl⟩ := trodAll_nil r1
  obtain rfl : args = #[v0, v1] := by cases args; simp_all
  obtain ⟨rfl, rfl⟩ := trodVars_none hV
  have k0 := h0
  have lt0 : ∀ x ∈ p0, x.block < W.heap.size := by obtain ⟨m, hm⟩ := k0; exact DataW.trod_lt m _ _ _ hm
  obtain ⟨a0A, a0B, a0C, a0n, a0la, a0lb, a0lc, rfl, h0A, h0B, h0C, h0n⟩ := open_operands (hval 0 24 v0 rfl rfl) h0
  have k1 := h1
  have lt1 : ∀ x ∈ p1, x.block < W.heap.size := by obtain ⟨m, hm⟩ := k1; exact DataW.trod_lt m _ _ _ hm
  obtain ⟨a1A, a1B, a1C, a1n, a1la, a1lb, a1lc, rfl, h1A, h1B, h1C, h1n⟩ := open_operands (hval 1 24 v1 rfl rfl) h1
  clear hA0 hval0
  simp only [List.append_nil] at hW'
  refine (walk W a0A a0B a0C a0n a0la a0lb a0lc h0A h0B h0C h0n a1A a1B a1C a1n a1la a1lb a1lc h1A h1B h1C h1n).mono fun e W' ⟨he, bel⟩ => ?_
  subst he
  exact ⟨_, rfl, _, _, _, [], _, [], hW', trodAll_mk1 (shut_bool Try.underlying4 _), (trodAll_cons_mk (Below.trod laidOut (by kernel_rfl) (of_decide_eq_true (by kernel_rfl)) k0 bel lt0) (trodAll_cons_mk (Below.trod laidOut (by kernel_rfl) (of_decide_eq_true (by kernel_rfl)) k1 bel lt1) trodAll_mk0)), rfl, bel.frame _, fun h => by cases h⟩

theorem over : Rows.matrixIsotonicityRow.holds Try.pinned (OpenSpec.ofChange Rows.matrixIsotonicitySpec) :=
  OpenClaim.holds_of_wide 5 Try.f5 rfl rfl rfl rfl rfl rfl rfl ⟨rfl, rfl, rfl, rfl, rfl⟩ rfl rfl rfl rfl rfl (by kernel_rfl) Try.func5 (by kernel_rfl)
    (of_decide_eq_true (by kernel_rfl)) (by unfold Func.isWrapper; first | (rw [if_pos (by decide +kernel)]; kernel_rfl) | (rw [if_neg (by decide +kernel)]; exact ⟨rfl, rfl⟩))
    (fun os started H enc _ => lifted os started H enc)

theorem proved : Rows.MatrixIsotonicitySaid := over
end Go.Proofs.Ythejcoidgmaidaa.matrixIsotonicity
