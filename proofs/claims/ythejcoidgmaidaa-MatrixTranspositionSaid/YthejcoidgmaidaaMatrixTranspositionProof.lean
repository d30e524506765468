/-
  For all operands, the law MatrixTransposition returns true: transposition is an involution that turns products round, and the identity matrix is neutral.
  Conditions: none besides those that the given row prints.
-/
import Derived.Test.YthejcoidgmaidaaRows
import Derived.WalkKit
import Derived.ProofKit
import Derived.OpenShut
import Derived.ShutString
import Derived.Test.YthejcoidgmaidaaOpen
import Derived.Test.YthejcoidgmaidaaLTra
import Derived.Test.YthejcoidgmaidaaRead4
namespace Go.Proofs.Ythejcoidgmaidaa.matrixTransposition
open Go.ChangeShapes Go.WideShapes Go.ChangeAt Go.RowKit
open Go.ChangeMaps (open_string shut_string)
set_option linter.unusedVariables false
set_option maxRecDepth 100000

theorem own : ownKnob Try.prog.godebug = none := by kernel_rfl


theorem walk (w : World) (a0A a0B a0C : Value) (a0n : Int) (a0la a0lb a0lc : List (Int × Int)) (h0A : Bx w a0A a0la ∧ I64 a0la) (h0B : Bx w a0B a0lb ∧ I64 a0lb) (h0C : Bx w a0C a0lc ∧ I64 a0lc) (h0n : 0 ≤ a0n ∧ a0n < 256) :
    Calls Try.prog 6 #[.agg #[a0A, a0B, a0C, .int .u8 a0n]] w fun e w' => e = .returned (.bool true) ∧ Below w.heap.size w w' :=
  transposition w a0A a0B a0C a0n a0la a0lb a0lc h0A h0B h0C h0n

set_option maxRecDepth 100000 in
theorem lifted (os : Os) (started : os.Started) (H : Type) (enc : TypeId × Value → H) :
    ReturnsInHanded {} Try.checked os 6 .any (Rows.matrixTranspositionSpec.pre6 enc Try.prog Try.f6 Rows.matrixTranspositionRow.domain false) (Rows.matrixTranspositionSpec.post enc Try.prog Try.f6 false true false false) := by
  refine returnsInHanded_of_change (C := Try.checked) own started (by kernel_rfl) Try.func6
    (ChangeSpec.witness6 (enc := enc) (C := Try.checked) false ⟨#[], #[.agg #[.slice none 0 0, .slice none 0 0, .slice none 0 0, .int .u8 0]], []⟩ 8 (by kernel_rfl) (by kernel_rfl) (by kernel_rfl) (by kernel_rfl)) ?_
  intro W base args ds gs before hval0 hW hcnd _
  have hval : ∀ (j : Nat) t v, Try.f6.params[j]? = some t → args[j]? = some v → Value.okWide Try.prog W .any base t v := hval0
  have hW' := hW
  obtain ⟨p, q, hA0, hV, rfl, hfz, hnd⟩ := hW
  have hA : DataW.TrodAll enc Try.prog W 0 (fun _ => true) true Try.f6.params.toList args.toList ds p := hA0
  rw [Try.params6] at hA hval
  obtain ⟨v0, vs0, d0, ds0, p0, q0, hargs, rfl, rfl, h0, r0⟩ := trodAll_cons hA
  obtain ⟨rfl, rfl, rfl⟩ := trodAll_nil r0
  obtain rfl : args = #[v0] := by cases args; simp_all
  obtain ⟨rfl, rfl⟩ := trodVars_none hV
  have k0 := h0
  have lt0 : ∀ x ∈ p0, x.block < W.heap.size := by obtain ⟨m, hm⟩ := k0; exact DataW.trod_lt m _ _ _ hm
  obtain ⟨a0A, a0B, a0C, a0n, a0la, a0lb, a0lc, rfl, h0A, h0B, h0C, h0n⟩ := open_operands (hval 0 24 v0 rfl rfl) h0
  clear hA0 hval0
  simp only [List.append_nil] at hW'
  refine (walk W a0A a0B a0C a0n a0la a0lb a0lc h0A h0B h0C h0n).mono fun e W' ⟨he, bel⟩ => ?_
  subst he
  exact ⟨_, rfl, _, _, _, [], _, [], hW', trodAll_mk1 (shut_bool Try.underlying4 _), (trodAll_cons_mk (Below.trod laidOut (by kernel_rfl) (of_decide_eq_true (by kernel_rfl)) k0 bel lt0) trodAll_mk0), rfl, bel.frame _, fun h => by cases h⟩

theorem over : Rows.matrixTranspositionRow.holds Try.pinned (OpenSpec.ofChange Rows.matrixTranspositionSpec) :=
  OpenClaim.holds_of_wide 6 Try.f6 rfl rfl rfl rfl rfl rfl rfl ⟨rfl, rfl, rfl, rfl, rfl⟩ rfl rfl rfl rfl rfl (by kernel_rfl) Try.func6 (by kernel_rfl)
    (of_decide_eq_true (by kernel_rfl)) (by unfold Func.isWrapper; first | (rw [if_pos (by decide +kernel)]; kernel_rfl) | (rw [if_neg (by decide +kernel)]; exact ⟨rfl, rfl⟩))
    (fun os started H enc _ => lifted os started H enc)

theorem proved : Rows.MatrixTranspositionSaid := over
end Go.Proofs.Ythejcoidgmaidaa.matrixTransposition
