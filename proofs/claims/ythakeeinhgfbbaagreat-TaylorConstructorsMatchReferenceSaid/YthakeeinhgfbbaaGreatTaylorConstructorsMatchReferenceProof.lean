/-
  For all intervals, variables, models and boxes in [-1, 1], the law TaylorConstructorsMatchReference returns true: Const, Var and Eval agree with the reference.
  Conditions: none besides those that the given row prints.
-/
import Derived.Test.YthakeeinhgfbbaaGreatRows
import Derived.WalkKit
import Derived.ProofKit
import Derived.OpenShut
import Derived.ShutString
import Derived.Test.YthakeeinhgfbbaaGreatOpen
import Derived.Test.YthakeeinhgfbbaaGreatLTc
import Derived.Test.YthakeeinhgfbbaaGreatYe
namespace Go.Proofs.YthakeeinhgfbbaaGreat.taylorConstructorsMatchReference
open Go.ChangeShapes Go.WideShapes Go.ChangeAt Go.RowKit
open Go.ChangeMaps (open_string shut_string)
set_option linter.unusedVariables false
set_option maxRecDepth 100000

theorem own : ownKnob Tryz.prog.godebug = none := by kernel_rfl

theorem open0 {r : Reach} {base : Nat} {W : World} {v : Value} (h : Value.okWide Tryz.prog W r base 24 v) : ∃ a0_0 a0_1 : Int, v = .agg #[.int .i64 a0_0, .int .i64 a0_1] ∧ ∀ x ∈ [a0_0, a0_1], IntKind.has .i64 x := by
  obtain ⟨xs, rfl, hl, hx⟩ := open_struct_ints (k := .i64) Tryz.underlying24 h (show Tryz.prog.cellTypes Tryz.prog.depth 24 = some [2, 2] by kernel_rfl) (by intro u hu; simp at hu; first | (subst hu; kernel_rfl) | (rcases hu with rfl <;> kernel_rfl))
  rw [show Tryz.prog.cellsOf 24 = 2 by kernel_rfl] at hl
  match xs, hl, hx with
  | [x0, x1], _, hx => exact ⟨x0, x1, rfl, hx⟩

theorem walk (w : World) (a0_0 a0_1 : Int) (w0 : ∀ x ∈ [a0_0, a0_1], IntKind.has .i64 x) (a1 : Int) (w1 : (Lit.int .u8 a1).wf = true) (a2M : Value) (a2p a2q : Int) (a2l : List Tm) (h2M : Tx w a2M a2l ∧ ∀ t ∈ a2l, TV t) (h2p : -9223372036854775808 ≤ a2p ∧ a2p ≤ 9223372036854775807) (h2q : -9223372036854775808 ≤ a2q ∧ a2q ≤ 9223372036854775807) (a3 : Value) (a3l : List (Int × Int)) (w3 : Bx w a3 a3l ∧ ∀ p ∈ a3l, (-9223372036854775808 ≤ p.1 ∧ p.1 ≤ 9223372036854775807) ∧ -9223372036854775808 ≤ p.2 ∧ p.2 ≤ 9223372036854775807) :
    Calls Tryz.prog 4 #[.agg #[.int .i64 a0_0, .int .i64 a0_1], .int .u8 a1, .agg #[a2M, .int .i64 a2p, .int .i64 a2q], a3] w fun e w' => e = .returned (.bool true) ∧ Below w.heap.size w w' :=
  tcons w a0_0 a0_1 w0 a1 w1 a2M a2p a2q a2l h2M h2p h2q a3 a3l w3

set_option maxRecDepth 100000 in
theorem lifted (os : Os) (started : os.Started) (H : Type) (enc : TypeId × Value → H) :
    ReturnsInHanded {} Tryz.checked os 4 .any (Rows.taylorConstructorsMatchReferenceSpec.pre6 enc Tryz.prog Tryz.f4 Rows.taylorConstructorsMatchReferenceRow.domain false) (Rows.taylorConstructorsMatchReferenceSpec.post enc Tryz.prog Tryz.f4 false true false false) := by
  refine returnsInHanded_of_change (C := Tryz.checked) own started (by kernel_rfl) Tryz.func4
    (ChangeSpec.witness6 (enc := enc) (C := Tryz.checked) false ⟨#[], #[.agg #[.int .i64 0, .int .i64 0], .int .u8 0, .agg #[.slice none 0 0, .int .i64 0, .int .i64 0], .slice none 0 0], []⟩ 8 (by kernel_rfl) (by kernel_rfl) (by kernel_rfl) (by kernel_rfl)) ?_
  intro W base args ds gs before hval0 hW hcnd _
  have hval : ∀ (j : Nat) t v, Tryz.f4.params[j]? = some t → args[j]? = some v → Value.okWide Tryz.prog W .any base t v := hval0
  have hW' := hW
  obtain ⟨p, q, hA0, hV, rfl, hfz, hnd⟩ := hW
  have hA : DataW.TrodAll enc Tryz.prog W 0 (fun _ => true) true Tryz.f4.params.toList args.toList ds p := hA0
  rw [Tryz.params4] at hA hval
  obtain ⟨v0, vs0, d0, ds0, p0, q0, hargs, rfl, rfl, h0, r0⟩ := trodAll_cons hA
  obtain ⟨v1, vs1, d1, ds1, p1, q1, rfl, rfl, rfl, h1, r1⟩ := trodAll_cons r0
  obtain ⟨v2, vs2, d2, ds2, p2, q2, rfl, rfl, rfl, h2, r2⟩ := trodAll_cons r1
  obtain ⟨v3, vs3, d3, ds3, p3, q3, rfl, rfl, rfl, h3, r3⟩ := trodAll_cons r2
  obtain ⟨rfl, rfl, rfl⟩ := trodAll_nil r3
  obtain rfl : args = #[v0, v1, v2, v3] := by cases args; simp_all
  obtain ⟨rfl, rfl⟩ := trodVars_none hV
  have k0 := h0
  have lt0 : ∀ x ∈ p0, x.block < W.heap.size := by obtain ⟨m, hm⟩ := k0; exact DataW.trod_lt m _ _ _ hm
  obtain ⟨a0_0, a0_1, rfl, w0⟩ := open0 (hval 0 24 v0 rfl rfl)
  obtain ⟨a1, rfl, rfl, rfl, w1⟩ := open_int Tryz.underlying5 (hval 1 5 v1 rfl rfl) h1
  have k2 := h2
  have lt2 : ∀ x ∈ p2, x.block < W.heap.size := by obtain ⟨m, hm⟩ := k2; exact DataW.trod_lt m _ _ _ hm
  obtain ⟨a2M, a2p, a2q, a2l, rfl, h2M, h2p, h2q⟩ := open_model6 (hval 2 26 v2 rfl rfl) h2
  have k3 := h3
  have lt3 : ∀ x ∈ p3, x.block < W.heap.size := by obtain ⟨m, hm⟩ := k3; exact DataW.trod_lt m _ _ _ hm
  obtain ⟨a3l, w3⟩ := open_ivs6 (hval 3 44 v3 rfl rfl) h3
  obtain ⟨a3, ha3⟩ : ∃ a, a = v3 := ⟨_, rfl⟩
  subst ha3
  clear hA0 hval0
  simp only [List.append_nil] at hW'
  refine (walk W a0_0 a0_1 w0 a1 w1 a2M a2p a2q a2l h2M h2p h2q a3 a3l w3).mono fun e W' ⟨he, bel⟩ => ?_
  subst he
  exact ⟨_, rfl, _, _, _, [], _, [], hW', trodAll_mk1 (shut_bool Tryz.underlying4 _), (trodAll_cons_mk (Below.trod laidOut (by kernel_rfl) (of_decide_eq_true (by kernel_rfl)) k0 bel lt0) (trodAll_cons_mk (shut_int Tryz.underlying5 w1) (trodAll_cons_mk (Below.trod laidOut (by kernel_rfl) (of_decide_eq_true (by kernel_rfl)) k2 bel lt2) (trodAll_cons_mk (Below.trod laidOut (by kernel_rfl) (of_decide_eq_true (by kernel_rfl)) k3 bel lt3) trodAll_mk0)))), rfl, bel.frame _, fun h => by cases h⟩

theorem over : Rows.taylorConstructorsMatchReferenceRow.holds Tryz.pinned (OpenSpec.ofChange Rows.taylorConstructorsMatchReferenceSpec) :=
  OpenClaim.holds_of_wide 4 Tryz.f4 rfl rfl rfl rfl rfl rfl rfl ⟨rfl, rfl, rfl, rfl, rfl⟩ rfl rfl rfl rfl rfl (by kernel_rfl) Tryz.func4 (by kernel_rfl)
    (of_decide_eq_true (by kernel_rfl)) (by unfold Func.isWrapper; first | (rw [if_pos (by decide +kernel)]; kernel_rfl) | (rw [if_neg (by decide +kernel)]; exact ⟨rfl, rfl⟩))
    (fun os started H enc _ => lifted os started H enc)

theorem proved : Rows.TaylorConstructorsMatchReferenceSaid := over
end Go.Proofs.YthakeeinhgfbbaaGreat.taylorConstructorsMatchReference
