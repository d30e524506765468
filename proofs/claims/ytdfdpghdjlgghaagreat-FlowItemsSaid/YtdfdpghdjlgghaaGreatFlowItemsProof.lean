/-
  For every flow that the law makes, Items gives one item per segment, each with the given identifier, the segment's time and a box that is a subset of During's box at that time; the items meet without gaps from the start to End's time.
  Conditions: none besides those that the given row prints.
-/
import Derived.Test.YtdfdpghdjlgghaaGreatRows
import Derived.WalkKit
import Derived.ProofKit
import Derived.OpenShut
import Derived.ShutString
import Derived.Test.YtdfdpghdjlgghaaGreatKdItems
namespace Go.Proofs.YtdfdpghdjlgghaaGreat.flowItems
open Go.ChangeShapes Go.WideShapes Go.ChangeAt Go.RowKit
open Go.ChangeMaps (open_string shut_string)
set_option linter.unusedVariables false
set_option maxRecDepth 100000

theorem own : ownKnob Tryz.prog.godebug = none := by kernel_rfl


theorem walk (w : World) (a0L : Value) (a0n a0t a0p a0q a0i : Int) (a0l : List Sr) (h0L : Zx w a0L a0l ∧ ∀ x ∈ a0l, SrW w x) (h0n : 0 ≤ a0n ∧ a0n ≤ 255) (h0t : W64 a0t) (h0p : W64 a0p) (h0q : W64 a0q) (h0i : W64 a0i) :
    Calls Tryz.prog 11 #[.agg #[a0L, .int .u8 a0n, .int .i64 a0t, .int .i64 a0p, .int .i64 a0q, .int .i64 a0i]] w fun e w' => e = .returned (.bool true) ∧ Below w.heap.size w w' :=
  flitems w a0L a0n a0t a0p a0q a0i a0l h0L h0n h0t h0p h0q h0i

set_option maxRecDepth 100000 in
theorem lifted (os : Os) (started : os.Started) (H : Type) (enc : TypeId × Value → H) :
    ReturnsInHanded {} Tryz.checked os 11 .any (Rows.flowItemsSpec.pre6 enc Tryz.prog Tryz.f11 Rows.flowItemsRow.domain false) (Rows.flowItemsSpec.post enc Tryz.prog Tryz.f11 false true false false) := by
  refine returnsInHanded_of_change (C := Tryz.checked) own started (by kernel_rfl) Tryz.func11
    (ChangeSpec.witness6 (enc := enc) (C := Tryz.checked) false ⟨#[], #[.agg #[.slice none 0 0, .int .u8 0, .int .i64 0, .int .i64 0, .int .i64 0, .int .i64 0]], []⟩ 8 (by kernel_rfl) (by kernel_rfl) (by kernel_rfl) (by kernel_rfl)) ?_
  intro W base args ds gs before hval0 hW hcnd _
  have hval : ∀ (j : Nat) t v, Tryz.f11.params[j]? = some t → args[j]? = some v → Value.okWide Tryz.prog W .any base t v := hval0
  have hW' := hW
  obtain ⟨p, q, hA0, hV, rfl, hfz, hnd⟩ := hW
  have hA : DataW.TrodAll enc Tryz.prog W 0 (fun _ => true) true Tryz.f11.params.toList args.toList ds p := hA0
  rw [Tryz.params11] at hA hval
  obtain ⟨v0, vs0, d0, ds0, p0, q0, hargs, rfl, rfl, h0, r0⟩ := trodAll_cons hA
  obtain ⟨rfl, rfl, rfl⟩ := trodAll_nil r0
  obtain rfl : args = #[v0] := by cases args; simp_all
  obtain ⟨rfl, rfl⟩ := trodVars_none hV
  have k0 := h0
  have lt0 : ∀ x ∈ p0, x.block < W.heap.size := by obtain ⟨m, hm⟩ := k0; exact DataW.trod_lt m _ _ _ hm
  obtain ⟨a0L, a0n, a0t, a0p, a0q, a0i, a0l, rfl, h0L, h0n, h0t, h0p, h0q, h0i⟩ := open_queries14 (hval 0 81 v0 rfl rfl) h0
  clear hA0 hval0
  simp only [List.append_nil] at hW'
  refine (walk W a0L a0n a0t a0p a0q a0i a0l h0L h0n h0t h0p h0q h0i).mono fun e W' ⟨he, bel⟩ => ?_
  subst he
  exact ⟨_, rfl, _, _, _, [], _, [], hW', trodAll_mk1 (shut_bool Tryz.underlying4 _), (trodAll_cons_mk (Below.trod laidOut (by kernel_rfl) (of_decide_eq_true (by kernel_rfl)) k0 bel lt0) trodAll_mk0), rfl, bel.frame _, fun h => by cases h⟩

theorem over : Rows.flowItemsRow.holds Tryz.pinned (OpenSpec.ofChange Rows.flowItemsSpec) :=
  OpenClaim.holds_of_wide 11 Tryz.f11 rfl rfl rfl rfl rfl rfl rfl ⟨rfl, rfl, rfl, rfl, rfl⟩ rfl rfl rfl rfl rfl (by kernel_rfl) Tryz.func11 (by kernel_rfl)
    (of_decide_eq_true (by kernel_rfl)) (by unfold Func.isWrapper; first | (rw [if_pos (by decide +kernel)]; kernel_rfl) | (rw [if_neg (by decide +kernel)]; exact ⟨rfl, rfl⟩))
    (fun os started H enc _ => lifted os started H enc)

theorem proved : Rows.FlowItemsSaid := over
end Go.Proofs.YtdfdpghdjlgghaaGreat.flowItems
