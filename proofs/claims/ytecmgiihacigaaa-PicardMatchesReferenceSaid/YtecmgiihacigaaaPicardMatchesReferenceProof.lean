/-
  For every tape, box and step, Image, Validates and Enclose return what the reference returns.
  Conditions: none besides those that the given row prints.
-/
import Derived.Test.YtecmgiihacigaaaRows
import Derived.WalkKit
import Derived.ProofKit
import Derived.OpenShut
import Derived.ShutString
import Derived.Test.YtecmgiihacigaaaOpen
import Derived.Test.YtecmgiihacigaaaVw
import Derived.Test.YtecmgiihacigaaaVq
namespace Go.Proofs.Ytecmgiihacigaaa.picardMatchesReference
open Go.ChangeShapes Go.WideShapes Go.ChangeAt Go.RowKit
open Go.ChangeMaps (open_string shut_string)
set_option linter.unusedVariables false
set_option maxRecDepth 100000

theorem own : ownKnob Try.prog.godebug = none := by kernel_rfl

theorem open1 {r : Reach} {base : Nat} {W : World} {v : Value} (h : Value.okWide Try.prog W r base 30 v) : ∃ a1_0 a1_1 a1_2 a1_3 a1_4 a1_5 : Int, v = .agg #[.int .u16 a1_0, .int .u16 a1_1, .int .u16 a1_2, .int .u16 a1_3, .int .u16 a1_4, .int .u16 a1_5] ∧ ∀ x ∈ [a1_0, a1_1, a1_2, a1_3, a1_4, a1_5], IntKind.has .u16 x := by
  obtain ⟨xs, rfl, hl, hx⟩ := open_array_ints (k := .u16) Try.underlying30 h (show Try.prog.cellTypes Try.prog.depth 30 = some [29, 29, 29, 29, 29, 29] by kernel_rfl) (by intro u hu; simp at hu; first | (subst hu; kernel_rfl) | (rcases hu with rfl <;> kernel_rfl))
  rw [show Try.prog.cellsOf 30 = 6 by kernel_rfl] at hl
  match xs, hl, hx with
  | [x0, x1, x2, x3, x4, x5], _, hx => exact ⟨x0, x1, x2, x3, x4, x5, rfl, hx⟩

theorem walk (w : World) (a0L a0O a0X : Value) (a0n a0p a0q : Int) (a0l : List Is) (a0o : List Int) (a0x : List (Int × Int)) (h0L : Ix w a0L a0l ∧ ∀ x ∈ a0l, IW x) (h0O : Px w a0O a0o ∧ ∀ x ∈ a0o, W64 x) (h0X : Vx w a0X a0x ∧ ∀ q ∈ a0x, W64 q.1 ∧ W64 q.2) (h0n : W64 a0n) (h0p : W64 a0p) (h0q : W64 a0q) (a1_0 a1_1 a1_2 a1_3 a1_4 a1_5 : Int) (w1 : ∀ x ∈ [a1_0, a1_1, a1_2, a1_3, a1_4, a1_5], IntKind.has .u16 x) :
    Calls Try.prog 3 #[.agg #[.int .i64 a0n, a0L, a0O, a0X, .int .i64 a0p, .int .i64 a0q], .agg #[.int .u16 a1_0, .int .u16 a1_1, .int .u16 a1_2, .int .u16 a1_3, .int .u16 a1_4, .int .u16 a1_5]] w fun e w' => e = .returned (.bool true) ∧ Below w.heap.size w w' :=
  pmat w a0L a0O a0X a0n a0p a0q a0l a0o a0x h0L h0O h0X h0n h0p h0q a1_0 a1_1 a1_2 a1_3 a1_4 a1_5 w1

set_option maxRecDepth 100000 in
theorem lifted (os : Os) (started : os.Started) (H : Type) (enc : TypeId × Value → H) :
    ReturnsInHanded {} Try.checked os 3 .any (Rows.picardMatchesReferenceSpec.pre6 enc Try.prog Try.f3 Rows.picardMatchesReferenceRow.domain false) (Rows.picardMatchesReferenceSpec.post enc Try.prog Try.f3 false true false false) := by
  refine returnsInHanded_of_change (C := Try.checked) own started (by kernel_rfl) Try.func3
    (ChangeSpec.witness6 (enc := enc) (C := Try.checked) false ⟨#[], #[.agg #[.int .i64 0, .slice none 0 0, .slice none 0 0, .slice none 0 0, .int .i64 0, .int .i64 0], .agg #[.int .u16 0, .int .u16 0, .int .u16 0, .int .u16 0, .int .u16 0, .int .u16 0]], []⟩ 8 (by kernel_rfl) (by kernel_rfl) (by kernel_rfl) (by kernel_rfl)) ?_
  intro W base args ds gs before hval0 hW hcnd _
  have hval : ∀ (j : Nat) t v, Try.f3.params[j]? = some t → args[j]? = some v → Value.okWide Try.prog W .any base t v := hval0
  have hW' := hW
  obtain ⟨p, q, hA0, hV, rfl, hfz, hnd⟩ := hW
  have hA : DataW.TrodAll enc Try.prog W 0 (fun _ => true) true Try.f3.params.toList args.toList ds p := hA0
  rw [Try.params3] at hA hval
  obtain ⟨v0, vs0, d0, ds0, p0, q0, hargs, rfl, rfl, h0, r0⟩ := trodAll_cons hA
  obtain ⟨v1, vs1, d1, ds1, p1, q1, rfl, rfl, rfl, h1, r1⟩ := trodAll_cons r0
  obtain ⟨rfl, rfl, rfl⟩ := trodAll_nil r1
  obtain rfl : args = #[v0, v1] := by cases args; simp_all
  obtain ⟨rfl, rfl⟩ := trodVars_none hV
  have k0 := h0
  have lt0 : ∀ x ∈ p0, x.block < W.heap.size := by obtain ⟨m, hm⟩ := k0; exact DataW.trod_lt m _ _ _ hm
  obtain ⟨a0L, a0O, a0X, a0n, a0p, a0q, a0l, a0o, a0x, rfl, h0L, h0O, h0X, h0n, h0p, h0q⟩ := open_query11 (hval 0 28 v0 rfl rfl) h0
  have k1 := h1
  have lt1 : ∀ x ∈ p1, x.block < W.heap.size := by obtain ⟨m, hm⟩ := k1; exact DataW.trod_lt m _ _ _ hm
  obtain ⟨a1_0, a1_1, a1_2, a1_3, a1_4, a1_5, rfl, w1⟩ := open1 (hval 1 30 v1 rfl rfl)
  clear hA0 hval0
  simp only [List.append_nil] at hW'
  refine (walk W a0L a0O a0X a0n a0p a0q a0l a0o a0x h0L h0O h0X h0n h0p h0q a1_0 a1_1 a1_2 a1_3 a1_4 a1_5 w1).mono fun e W' ⟨he, bel⟩ => ?_
  subst he
  exact ⟨_, rfl, _, _, _, [], _, [], hW', trodAll_mk1 (shut_bool Try.underlying4 _), (trodAll_cons_mk (Below.trod laidOut (by kernel_rfl) (of_decide_eq_true (by kernel_rfl)) k0 bel lt0) (trodAll_cons_mk (Below.trod laidOut (by kernel_rfl) (of_decide_eq_true (by kernel_rfl)) k1 bel lt1) trodAll_mk0)), rfl, bel.frame _, fun h => by cases h⟩

theorem over : Rows.picardMatchesReferenceRow.holds Try.pinned (OpenSpec.ofChange Rows.picardMatchesReferenceSpec) :=
  OpenClaim.holds_of_wide 3 Try.f3 rfl rfl rfl rfl rfl rfl rfl ⟨rfl, rfl, rfl, rfl, rfl⟩ rfl rfl rfl rfl rfl (by kernel_rfl) Try.func3 (by kernel_rfl)
    (of_decide_eq_true (by kernel_rfl)) (by unfold Func.isWrapper; first | (rw [if_pos (by decide +kernel)]; kernel_rfl) | (rw [if_neg (by decide +kernel)]; exact ⟨rfl, rfl⟩))
    (fun os started H enc _ => lifted os started H enc)

theorem proved : Rows.PicardMatchesReferenceSaid := over
end Go.Proofs.Ytecmgiihacigaaa.picardMatchesReference
