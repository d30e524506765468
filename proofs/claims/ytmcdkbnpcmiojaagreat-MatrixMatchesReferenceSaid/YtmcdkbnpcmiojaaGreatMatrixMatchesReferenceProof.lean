/-
  For all operands, raw intervals and numbers, the law MatrixMatchesReference of the chapter on matrices returns true: every function of package matrix agrees with the reference.
  Conditions: none besides those that the given row prints.
-/
import Derived.Test.YtmcdkbnpcmiojaaGreatRows
import Derived.WalkKit
import Derived.ProofKit
import Derived.OpenShut
import Derived.ShutString
import Derived.Test.YtmcdkbnpcmiojaaGreatOpen
import Derived.Test.YtmcdkbnpcmiojaaGreatLMr
import Derived.Test.YtmcdkbnpcmiojaaGreatRead4
namespace Go.Proofs.YtmcdkbnpcmiojaaGreat.matrixMatchesReference
open Go.ChangeShapes Go.WideShapes Go.ChangeAt Go.RowKit
open Go.ChangeMaps (open_string shut_string)
set_option linter.unusedVariables false
set_option maxRecDepth 100000

theorem own : ownKnob Tryz.prog.godebug = none := by kernel_rfl


theorem walk (w : World) (a0A a0B a0C : Value) (a0n : Int) (a0la a0lb a0lc : List (Int × Int)) (h0A : Bx w a0A a0la ∧ I64 a0la) (h0B : Bx w a0B a0lb ∧ I64 a0lb) (h0C : Bx w a0C a0lc ∧ I64 a0lc) (h0n : 0 ≤ a0n ∧ a0n < 256) (a1 : Value) (a1l : List (List (Int × Int))) (w1 : Mx w a1 a1l ∧ ∀ r ∈ a1l, I64 r) (a2 : Value) (a2l : List Int) (w2 : Pt w a2 a2l ∧ ∀ x ∈ a2l, -9223372036854775808 ≤ x ∧ x ≤ 9223372036854775807) :
    Calls Tryz.prog 3 #[.agg #[a0A, a0B, a0C, .int .u8 a0n], a1, a2] w fun e w' => e = .returned (.bool true) ∧ Below w.heap.size w w' :=
  matref w a0A a0B a0C a0n a0la a0lb a0lc h0A h0B h0C h0n a1 a1l w1 a2 a2l w2

set_option maxRecDepth 100000 in
theorem lifted (os : Os) (started : os.Started) (H : Type) (enc : TypeId × Value → H) :
    ReturnsInHanded {} Tryz.checked os 3 .any (Rows.matrixMatchesReferenceSpec.pre6 enc Tryz.prog Tryz.f3 Rows.matrixMatchesReferenceRow.domain false) (Rows.matrixMatchesReferenceSpec.post enc Tryz.prog Tryz.f3 false true false false) := by
  refine returnsInHanded_of_change (C := Tryz.checked) own started (by kernel_rfl) Tryz.func3
    (ChangeSpec.witness6 (enc := enc) (C := Tryz.checked) false ⟨#[], #[.agg #[.slice none 0 0, .slice none 0 0, .slice none 0 0, .int .u8 0], .slice none 0 0, .slice none 0 0], []⟩ 8 (by kernel_rfl) (by kernel_rfl) (by kernel_rfl) (by kernel_rfl)) ?_
  intro W base args ds gs before hval0 hW hcnd _
  have hval : ∀ (j : Nat) t v, Tryz.f3.params[j]? = some t → args[j]? = some v → Value.okWide Tryz.prog W .any base t v := hval0
  have hW' := hW
  obtain ⟨p, q, hA0, hV, rfl, hfz, hnd⟩ := hW
  have hA : DataW.TrodAll enc Tryz.prog W 0 (fun _ => true) true Tryz.f3.params.toList args.toList ds p := hA0
  rw [Tryz.params3] at hA hval
  obtain ⟨v0, vs0, d0, ds0, p0, q0, hargs, rfl, rfl, h0, r0⟩ := trodAll_cons hA
  obtain ⟨v1, vs1, d1, ds1, p1, q1, rfl, rfl, rfl, h1, r1⟩ := trodAll_cons r0
  obtain ⟨v2, vs2, d2, ds2, p2, q2, rfl, rfl, rfl, h2, r2⟩ := trodAll_cons r1
  obtain ⟨rfl, rfl, rfl⟩ := trodAll_nil r2
  obtain rfl : args = #[v0, v1, v2] := by cases args; simp_all
  obtain ⟨rfl, rfl⟩ := trodVars_none hV
  have k0 := h0
  have lt0 : ∀ x ∈ p0, x.block < W.heap.size := by obtain ⟨m, hm⟩ := k0; exact DataW.trod_lt m _ _ _ hm
  obtain ⟨a0A, a0B, a0C, a0n, a0la, a0lb, a0lc, rfl, h0A, h0B, h0C, h0n⟩ := open_operands (hval 0 24 v0 rfl rfl) h0
  have k1 := h1
  have lt1 : ∀ x ∈ p1, x.block < W.heap.size := by obtain ⟨m, hm⟩ := k1; exact DataW.trod_lt m _ _ _ hm
  obtain ⟨a1l, w1⟩ := open_rows (hval 1 25 v1 rfl rfl) h1
  obtain ⟨a1, ha1⟩ : ∃ a, a = v1 := ⟨_, rfl⟩
  subst ha1
  have k2 := h2
  have lt2 : ∀ x ∈ p2, x.block < W.heap.size := by obtain ⟨m, hm⟩ := k2; exact DataW.trod_lt m _ _ _ hm
  obtain ⟨a2l, w2⟩ := open_i64s (hval 2 26 v2 rfl rfl) h2
  obtain ⟨a2, ha2⟩ : ∃ a, a = v2 := ⟨_, rfl⟩
  subst ha2
  clear hA0 hval0
  simp only [List.append_nil] at hW'
  refine (walk W a0A a0B a0C a0n a0la a0lb a0lc h0A h0B h0C h0n a1 a1l w1 a2 a2l w2).mono fun e W' ⟨he, bel⟩ => ?_
  subst he
  exact ⟨_, rfl, _, _, _, [], _, [], hW', trodAll_mk1 (shut_bool Tryz.underlying4 _), (trodAll_cons_mk (Below.trod laidOut (by kernel_rfl) (of_decide_eq_true (by kernel_rfl)) k0 bel lt0) (trodAll_cons_mk (Below.trod laidOut (by kernel_rfl) (of_decide_eq_true (by kernel_rfl)) k1 bel lt1) (trodAll_cons_mk (Below.trod laidOut (by kernel_rfl) (of_decide_eq_true (by kernel_rfl)) k2 bel lt2) trodAll_mk0))), rfl, bel.frame _, fun h => by cases h⟩

theorem over : Rows.matrixMatchesReferenceRow.holds Tryz.pinned (OpenSpec.ofChange Rows.matrixMatchesReferenceSpec) :=
  OpenClaim.holds_of_wide 3 Tryz.f3 rfl rfl rfl rfl rfl rfl rfl ⟨rfl, rfl, rfl, rfl, rfl⟩ rfl rfl rfl rfl rfl (by kernel_rfl) Tryz.func3 (by kernel_rfl)
    (of_decide_eq_true (by kernel_rfl)) (by unfold Func.isWrapper; first | (rw [if_pos (by decide +kernel)]; kernel_rfl) | (rw [if_neg (by decide +kernel)]; exact ⟨rfl, rfl⟩))
    (fun os started H enc _ => lifted os started H enc)

theorem proved : Rows.MatrixMatchesReferenceSaid := over
end Go.Proofs.YtmcdkbnpcmiojaaGreat.matrixMatchesReference
