/-
  For every valid expression, Simplify gives a valid expression that is not longer, simplifying again changes nothing, and on every box its value lies in the value of the original.
  Conditions: none besides those that the given row prints.
-/
import Derived.Test.YtbppfohcicepcaaGreatRows
import Derived.WalkKit
import Derived.ProofKit
import Derived.OpenShut
import Derived.ShutString
import Derived.Test.YtbppfohcicepcaaGreatKbzl
namespace Go.Proofs.YtbppfohcicepcaaGreat.jacobianSimplify
open Go.ChangeShapes Go.WideShapes Go.ChangeAt Go.RowKit
open Go.ChangeMaps (open_string shut_string)
set_option linter.unusedVariables false
set_option maxRecDepth 100000

theorem own : ownKnob Tryz.prog.godebug = none := by kernel_rfl


theorem walk (w : World) (a0F a0E a0X : Value) (a0p a0q a0n : Int) (a0l : List Nd) (a0x : List (Int × Int)) (h0E : NxC w a0E a0l ∧ ∀ x ∈ a0l, NW x) (h0X : Vx w a0X a0x ∧ ∀ q ∈ a0x, W64 q.1 ∧ W64 q.2) (h0t : W64 a0p ∧ W64 a0q) (h0n : 0 ≤ a0n) (h0m : a0n ≤ 255) :
    Calls Tryz.prog 4 #[.agg #[a0F, a0E, a0X, .int .i64 a0p, .int .i64 a0q, .int .u8 a0n]] w fun e w' => e = .returned (.bool true) ∧ Below w.heap.size w w' :=
  simpl10 w a0F a0E a0X a0p a0q a0n a0l a0x h0E h0X h0t h0n h0m

set_option maxRecDepth 100000 in
theorem lifted (os : Os) (started : os.Started) (H : Type) (enc : TypeId × Value → H) :
    ReturnsInHanded {} Tryz.checked os 4 .any (Rows.jacobianSimplifySpec.pre6 enc Tryz.prog Tryz.f4 Rows.jacobianSimplifyRow.domain false) (Rows.jacobianSimplifySpec.post enc Tryz.prog Tryz.f4 false true false false) := by
  refine returnsInHanded_of_change (C := Tryz.checked) own started (by kernel_rfl) Tryz.func4
    (ChangeSpec.witness6 (enc := enc) (C := Tryz.checked) false ⟨#[], #[.agg #[.slice none 0 0, .slice none 0 0, .slice none 0 0, .int .i64 0, .int .i64 0, .int .u8 0]], []⟩ 8 (by kernel_rfl) (by kernel_rfl) (by kernel_rfl) (by kernel_rfl)) ?_
  intro W base args ds gs before hval0 hW hcnd _
  have hval : ∀ (j : Nat) t v, Tryz.f4.params[j]? = some t → args[j]? = some v → Value.okWide Tryz.prog W .any base t v := hval0
  have hW' := hW
  obtain ⟨p, q, hA0, hV, rfl, hfz, hnd⟩ := hW
  have hA : DataW.TrodAll enc Tryz.prog W 0 (fun _ => true) true Tryz.f4.params.toList args.toList ds p := hA0
  rw [Tryz.params4] at hA hval
  obtain ⟨v0, vs0, d0, ds0, p0, q0, hargs, rfl, rfl, h0, r0⟩ := trodAll_cons hA
  obtain ⟨rfl, rfl, rfl⟩ := trodAll_nil r0
  obtain rfl : args = #[v0] := by cases args; simp_all
  obtain ⟨rfl, rfl⟩ := trodVars_none hV
  have k0 := h0
  have lt0 : ∀ x ∈ p0, x.block < W.heap.size := by obtain ⟨m, hm⟩ := k0; exact DataW.trod_lt m _ _ _ hm
  obtain ⟨a0F, a0E, a0X, a0p, a0q, a0n, a0l, a0x, rfl, h0E, h0X, h0t, h0n, h0m⟩ := open_input10 (hval 0 28 v0 rfl rfl) h0
  clear hA0 hval0
  simp only [List.append_nil] at hW'
  refine (walk W a0F a0E a0X a0p a0q a0n a0l a0x h0E h0X h0t h0n h0m).mono fun e W' ⟨he, bel⟩ => ?_
  subst he
  exact ⟨_, rfl, _, _, _, [], _, [], hW', trodAll_mk1 (shut_bool Tryz.underlying4 _), (trodAll_cons_mk (Below.trod laidOut (by kernel_rfl) (of_decide_eq_true (by kernel_rfl)) k0 bel lt0) trodAll_mk0), rfl, bel.frame _, fun h => by cases h⟩

theorem over : Rows.jacobianSimplifyRow.holds Tryz.pinned (OpenSpec.ofChange Rows.jacobianSimplifySpec) :=
  OpenClaim.holds_of_wide 4 Tryz.f4 rfl rfl rfl rfl rfl rfl rfl ⟨rfl, rfl, rfl, rfl, rfl⟩ rfl rfl rfl rfl rfl (by kernel_rfl) Tryz.func4 (by kernel_rfl)
    (of_decide_eq_true (by kernel_rfl)) (by unfold Func.isWrapper; first | (rw [if_pos (by decide +kernel)]; kernel_rfl) | (rw [if_neg (by decide +kernel)]; exact ⟨rfl, rfl⟩))
    (fun os started H enc _ => lifted os started H enc)

theorem proved : Rows.JacobianSimplifySaid := over
end Go.Proofs.YtbppfohcicepcaaGreat.jacobianSimplify
