/-
  For every system, horizon and start the law's call of Integrate with an invalid control, an empty or reversed horizon, or a time that is no number fails with ErrArg, and the law answers true.
  Conditions: none besides those that the given row prints.
-/
import Derived.Test.YtdfdpghdjlgghaaGreatRows
import Derived.WalkKit
import Derived.ProofKit
import Derived.OpenShut
import Derived.ShutString
import Derived.Test.YtdfdpghdjlgghaaGreatKdErr
namespace Go.Proofs.YtdfdpghdjlgghaaGreat.flowErrors
open Go.ChangeShapes Go.WideShapes Go.ChangeAt Go.RowKit
open Go.ChangeMaps (open_string shut_string)
set_option linter.unusedVariables false
set_option maxRecDepth 100000

theorem own : ownKnob Tryz.prog.godebug = none := by kernel_rfl


theorem walk (w : World) (a0L a0O a0X : Value) (a0n a0d a0t a0e : Int) (a0l : List Is) (a0o : List Int) (a0x : List (Int × Int)) (h0L : Ix w a0L a0l ∧ ∀ x ∈ a0l, IW x) (h0O : Px w a0O a0o ∧ ∀ x ∈ a0o, W64 x) (h0X : Vx w a0X a0x ∧ ∀ q ∈ a0x, W64 q.1 ∧ W64 q.2) (h0n : W64 a0n) (h0d : 0 ≤ a0d ∧ a0d ≤ 255) (h0t : -2147483648 ≤ a0t ∧ a0t ≤ 2147483647) (h0e : 0 ≤ a0e ∧ a0e ≤ 65535) (a1 : Int) (w1 : (Lit.int .i64 a1).wf = true) (a2 : Int) (w2 : (Lit.int .i64 a2).wf = true) :
    Calls Tryz.prog 12 #[.agg #[.int .i64 a0n, a0L, a0O, a0X, .int .u8 a0d, .int .i32 a0t, .int .u16 a0e], .int .i64 a1, .int .i64 a2] w fun e w' => e = .returned (.bool true) ∧ Below w.heap.size w w' :=
  flerr w a0L a0O a0X a0n a0d a0t a0e a0l a0o a0x h0L h0O h0X h0n h0d h0t h0e a1 w1 a2 w2

set_option maxRecDepth 100000 in
theorem lifted (os : Os) (started : os.Started) (H : Type) (enc : TypeId × Value → H) :
    ReturnsInHanded {} Tryz.checked os 12 .any (Rows.flowErrorsSpec.pre6 enc Tryz.prog Tryz.f12 Rows.flowErrorsRow.domain false) (Rows.flowErrorsSpec.post enc Tryz.prog Tryz.f12 false true false false) := by
  refine returnsInHanded_of_change (C := Tryz.checked) own started (by kernel_rfl) Tryz.func12
    (ChangeSpec.witness6 (enc := enc) (C := Tryz.checked) false ⟨#[], #[.agg #[.int .i64 0, .slice none 0 0, .slice none 0 0, .slice none 0 0, .int .u8 0, .int .i32 0, .int .u16 0], .int .i64 0, .int .i64 0], []⟩ 8 (by kernel_rfl) (by kernel_rfl) (by kernel_rfl) (by kernel_rfl)) ?_
  intro W base args ds gs before hval0 hW hcnd _
  have hval : ∀ (j : Nat) t v, Tryz.f12.params[j]? = some t → args[j]? = some v → Value.okWide Tryz.prog W .any base t v := hval0
  have hW' := hW
  obtain ⟨p, q, hA0, hV, rfl, hfz, hnd⟩ := hW
  have hA : DataW.TrodAll enc Tryz.prog W 0 (fun _ => true) true Tryz.f12.params.toList args.toList ds p := hA0
  rw [Tryz.params12] at hA hval
  obtain ⟨v0, vs0, d0, ds0, p0, q0, hargs, rfl, rfl, h0, r0⟩ := trodAll_cons hA
  obtain ⟨v1, vs1, d1, ds1, p1, q1, rfl, rfl, rfl, h1, r1⟩ := trodAll_cons r0
  obtain ⟨v2, vs2, d2, ds2, p2, q2, rfl, rfl, rfl, h2, r2⟩ := trodAll_cons r1
  obtain ⟨rfl, rfl, rfl⟩ := trodAll_nil r2
  obtain rfl : args = #[v0, v1, v2] := by cases args; simp_all
  obtain ⟨rfl, rfl⟩ := trodVars_none hV
  have k0 := h0
  have lt0 : ∀ x ∈ p0, x.block < W.heap.size := by obtain ⟨m, hm⟩ := k0; exact DataW.trod_lt m _ _ _ hm
  obtain ⟨a0L, a0O, a0X, a0n, a0d, a0t, a0e, a0l, a0o, a0x, rfl, h0L, h0O, h0X, h0n, h0d, h0t, h0e⟩ := open_problem14 (hval 0 47 v0 rfl rfl) h0
  obtain ⟨a1, rfl, rfl, rfl, w1⟩ := open_int Tryz.underlying2 (hval 1 2 v1 rfl rfl) h1
  obtain ⟨a2, rfl, rfl, rfl, w2⟩ := open_int Tryz.underlying2 (hval 2 2 v2 rfl rfl) h2
  clear hA0 hval0
  simp only [List.append_nil] at hW'
  refine (walk W a0L a0O a0X a0n a0d a0t a0e a0l a0o a0x h0L h0O h0X h0n h0d h0t h0e a1 w1 a2 w2).mono fun e W' ⟨he, bel⟩ => ?_
  subst he
  exact ⟨_, rfl, _, _, _, [], _, [], hW', trodAll_mk1 (shut_bool Tryz.underlying4 _), (trodAll_cons_mk (Below.trod laidOut (by kernel_rfl) (of_decide_eq_true (by kernel_rfl)) k0 bel lt0) (trodAll_cons_mk (shut_int Tryz.underlying2 w1) (trodAll_cons_mk (shut_int Tryz.underlying2 w2) trodAll_mk0))), rfl, bel.frame _, fun h => by cases h⟩

theorem over : Rows.flowErrorsRow.holds Tryz.pinned (OpenSpec.ofChange Rows.flowErrorsSpec) :=
  OpenClaim.holds_of_wide 12 Tryz.f12 rfl rfl rfl rfl rfl rfl rfl ⟨rfl, rfl, rfl, rfl, rfl⟩ rfl rfl rfl rfl rfl (by kernel_rfl) Tryz.func12 (by kernel_rfl)
    (of_decide_eq_true (by kernel_rfl)) (by unfold Func.isWrapper; first | (rw [if_pos (by decide +kernel)]; kernel_rfl) | (rw [if_neg (by decide +kernel)]; exact ⟨rfl, rfl⟩))
    (fun os started H enc _ => lifted os started H enc)

theorem proved : Rows.FlowErrorsSaid := over
end Go.Proofs.YtdfdpghdjlgghaaGreat.flowErrors
