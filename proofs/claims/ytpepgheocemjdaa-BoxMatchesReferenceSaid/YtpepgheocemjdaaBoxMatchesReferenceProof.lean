/-
  For every argument the law BoxMatchesReference returns true: Valid, Contains, Subset, Hull, Intersect, Inflate, SquaredDistance, Separated and Point agree with the reference implementation.
  Conditions: none besides those that the given row prints.
-/
import Derived.Test.YtpepgheocemjdaaRows
import Derived.WalkKit
import Derived.ProofKit
import Derived.OpenShut
import Derived.ShutString
import Derived.Test.YtpepgheocemjdaaOpen
import Derived.Test.YtpepgheocemjdaaLBx
import Derived.Test.YtpepgheocemjdaaInputP
import Derived.Test.YtpepgheocemjdaaInputL
namespace Go.Proofs.Ytpepgheocemjdaa.boxMatchesReference
open Go.ChangeShapes Go.WideShapes Go.ChangeAt Go.RowKit
open Go.ChangeMaps (open_string shut_string)
set_option linter.unusedVariables false
set_option maxRecDepth 100000

theorem own : ownKnob Try.prog.godebug = none := by kernel_rfl


theorem walk (w : World) (a0A a0B a0C a0P a0Q : Value) (a0n : Int) (a0la a0lb a0lc : List (Int × Int)) (a0f0 a0f1 : List Int) (h0A : Bx w a0A a0la ∧ I64 a0la) (h0B : Bx w a0B a0lb ∧ I64 a0lb) (h0C : Bx w a0C a0lc ∧ I64 a0lc) (h0n : 0 ≤ a0n ∧ a0n < 256) (h0F : Us w a0P a0f0 ∧ U16 a0f0) (h0G : Us w a0Q a0f1 ∧ U16 a0f1) (a1 : Value) (a1l : List Int) (w1 : Pt w a1 a1l ∧ ∀ x ∈ a1l, -9223372036854775808 ≤ x ∧ x ≤ 9223372036854775807) (a2 : Int) (w2 : (Lit.int .i64 a2).wf = true) :
    Calls Try.prog 4 #[.agg #[a0A, a0B, a0C, .int .u8 a0n, a0P, a0Q], a1, .int .i64 a2] w fun e w' => e = .returned (.bool true) ∧ Below w.heap.size w w' :=
  boxm w a0A a0B a0C a0P a0Q a0n a0la a0lb a0lc a0f0 a0f1 h0A h0B h0C h0n h0F h0G a1 a1l w1 a2 w2

set_option maxRecDepth 100000 in
theorem lifted (os : Os) (started : os.Started) (H : Type) (enc : TypeId × Value → H) :
    ReturnsInHanded {} Try.checked os 4 .any (Rows.boxMatchesReferenceSpec.pre6 enc Try.prog Try.f4 Rows.boxMatchesReferenceRow.domain false) (Rows.boxMatchesReferenceSpec.post enc Try.prog Try.f4 false true false false) := by
  refine returnsInHanded_of_change (C := Try.checked) own started (by kernel_rfl) Try.func4
    (ChangeSpec.witness6 (enc := enc) (C := Try.checked) false ⟨#[], #[.agg #[.slice none 0 0, .slice none 0 0, .slice none 0 0, .int .u8 0, .slice none 0 0, .slice none 0 0], .slice none 0 0, .int .i64 0], []⟩ 8 (by kernel_rfl) (by kernel_rfl) (by kernel_rfl) (by kernel_rfl)) ?_
  intro W base args ds gs before hval0 hW hcnd _
  have hval : ∀ (j : Nat) t v, Try.f4.params[j]? = some t → args[j]? = some v → Value.okWide Try.prog W .any base t v := hval0
  have hW' := hW
  obtain ⟨p, q, hA0, hV, rfl, hfz, hnd⟩ := hW
  have hA : DataW.TrodAll enc Try.prog W 0 (fun _ => true) true Try.f4.params.toList args.toList ds p := hA0
  rw [Try.params4] at hA hval
  obtain ⟨v0, vs0, d0, ds0, p0, q0, hargs, rfl, rfl, h0, r0⟩ := trodAll_cons hA
  obtain ⟨v1, vs1, d1, ds1, p1, q1, rfl, rfl, rfl, h1, r1⟩ := trodAll_cons r0
  obtain ⟨v2, vs2, d2, ds2, p2, q2, rfl, rfl, rfl, h2, r2⟩ := trodAll_cons r1
  obtain ⟨rfl, rfl, rfl⟩ := trodAll_nil r2
  obtain rfl : args = #[v0, v1, v2] := by cases args; simp_all
  obtain ⟨rfl, rfl⟩ := trodVars_none hV
  have k0 := h0
  have lt0 : ∀ x ∈ p0, x.block < W.heap.size := by obtain ⟨m, hm⟩ := k0; exact DataW.trod_lt m _ _ _ hm
  obtain ⟨a0A, a0B, a0C, a0P, a0Q, a0n, a0la, a0lb, a0lc, a0f0, a0f1, rfl, h0A, h0B, h0C, h0n, h0F, h0G⟩ := open_input2 (hval 0 40 v0 rfl rfl) h0
  have k1 := h1
  have lt1 : ∀ x ∈ p1, x.block < W.heap.size := by obtain ⟨m, hm⟩ := k1; exact DataW.trod_lt m _ _ _ hm
  obtain ⟨a1l, w1⟩ := open_i64s (hval 1 30 v1 rfl rfl) h1
  obtain ⟨a1, ha1⟩ : ∃ a, a = v1 := ⟨_, rfl⟩
  subst ha1
  obtain ⟨a2, rfl, rfl, rfl, w2⟩ := open_int Try.underlying2 (hval 2 2 v2 rfl rfl) h2
  clear hA0 hval0
  simp only [List.append_nil] at hW'
  refine (walk W a0A a0B a0C a0P a0Q a0n a0la a0lb a0lc a0f0 a0f1 h0A h0B h0C h0n h0F h0G a1 a1l w1 a2 w2).mono fun e W' ⟨he, bel⟩ => ?_
  subst he
  exact ⟨_, rfl, _, _, _, [], _, [], hW', trodAll_mk1 (shut_bool Try.underlying4 _), (trodAll_cons_mk (Below.trod laidOut (by kernel_rfl) (of_decide_eq_true (by kernel_rfl)) k0 bel lt0) (trodAll_cons_mk (Below.trod laidOut (by kernel_rfl) (of_decide_eq_true (by kernel_rfl)) k1 bel lt1) (trodAll_cons_mk (shut_int Try.underlying2 w2) trodAll_mk0))), rfl, bel.frame _, fun h => by cases h⟩

theorem over : Rows.boxMatchesReferenceRow.holds Try.pinned (OpenSpec.ofChange Rows.boxMatchesReferenceSpec) :=
  OpenClaim.holds_of_wide 4 Try.f4 rfl rfl rfl rfl rfl rfl rfl ⟨rfl, rfl, rfl, rfl, rfl⟩ rfl rfl rfl rfl rfl (by kernel_rfl) Try.func4 (by kernel_rfl)
    (of_decide_eq_true (by kernel_rfl)) (by unfold Func.isWrapper; first | (rw [if_pos (by decide +kernel)]; kernel_rfl) | (rw [if_neg (by decide +kernel)]; exact ⟨rfl, rfl⟩))
    (fun os started H enc _ => lifted os started H enc)

theorem proved : Rows.BoxMatchesReferenceSaid := over
end Go.Proofs.Ytpepgheocemjdaa.boxMatchesReference
