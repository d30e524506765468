/-
  The argument Query of the laws over picard, opened.
-/
import Derived.Test.YtecmgiihacigaaaUC
import Derived.Test.YtecmgiihacigaaaOpen
namespace Go.Proofs.Ytecmgiihacigaaa
open Go.ChangeShapes Go.WideShapes Go.ChangeAt Go.RowKit
set_option linter.unusedVariables false
set_option linter.unusedSimpArgs false
set_option maxRecDepth 100000
section
variable {H : Type} {enc : TypeId × Value → H} {w : World} {base : Nat} {spare : Nat → Bool} {held : Bool}
theorem open_query11 {r : Reach} {b0 : Nat} {v : Value} {d : DataW H} {p : List MemPlace} (hv : Value.okWide Try.prog w r b0 28 v) (h : DataW.Trod enc Try.prog w base spare held 28 v d p) :
    ∃ (vL vO vX : Value) (n lo hi : Int) (L : List Is) (out : List Int) (X : List (Int × Int)), v = .agg #[.int .i64 n, vL, vO, vX, .int .i64 lo, .int .i64 hi] ∧ (Ix w vL L ∧ ∀ x ∈ L, IW x) ∧ (Px w vO out ∧ ∀ x ∈ out, W64 x) ∧ (Vx w vX X ∧ ∀ q ∈ X, W64 q.1 ∧ W64 q.2) ∧ W64 n ∧ W64 lo ∧ W64 hi := by
  have k1 : Try.prog.cellsOf 26 = 1 := by kernel_rfl
  have k2 : Try.prog.cellsOf 2 = 1 := by kernel_rfl
  have k3 : Try.prog.cellsOf 3 = 1 := by kernel_rfl
  have k4 : Try.prog.cellsOf 25 = 3 := by kernel_rfl
  have k5 : Try.prog.cellsOf 45 = 2 := by kernel_rfl
  have k6 : Try.prog.cellsOf 22 = 1 := by kernel_rfl
  have k7 : Try.prog.cellsOf 23 = 1 := by kernel_rfl
  obtain ⟨cs, rfl, hsz⟩ := okWide_struct Try.underlying28 hv
  obtain ⟨l⟩ := cs
  match l, hsz.trans (show Try.prog.cellsOf 28 = 6 by kernel_rfl) with
  | [c0, c1, c2, c3, c4, c5], _ =>
    obtain ⟨fuel, hf⟩ := h
    obtain ⟨xs, n, _, _, _, hlen, hg⟩ := DataW.trod_struct Try.underlying28 hf
    match xs, hlen with
    | [y0, y1, y2, y3], _ =>
      have g0 := hg 0 _ rfl
      have g1 := hg 1 _ rfl
      have g2 := hg 2 _ rfl
      have g3 := hg 3 _ rfl
      simp [Value.cells, k1, k2, k4, k5] at g0 g1 g2 g3
      obtain ⟨zs, n', _, _, _, hlen', hg'⟩ := DataW.trod_struct Try.underlying25 g0
      match zs, hlen' with
      | [z0, z1, z2], _ =>
        have j0 := hg' 0 _ rfl
        have j1 := hg' 1 _ rfl
        have j2 := hg' 2 _ rfl
        simp [k3, k6, k7] at j0 j1 j2
        obtain ⟨k, e0, _, w0⟩ := DataW.trod_int Try.underlying3 j0
        obtain ⟨L, a1, a2⟩ := ix_read j1
        obtain ⟨out, b1, b2⟩ := px_read j2
        obtain ⟨X, x1, x2⟩ := vx_read g1
        obtain ⟨p3, e3, _, w3⟩ := DataW.trod_int Try.underlying2 g2
        obtain ⟨p4, e4, _, w4⟩ := DataW.trod_int Try.underlying2 g3
        simp [k2] at e0 e3 e4
        subst e0 e3 e4
        exact ⟨c1, c2, c3, k, p3, p4, L, out, X, rfl, ⟨a1, a2⟩, ⟨b1, b2⟩, ⟨x1, x2⟩, wf64t w0, wf64t w3, wf64t w4⟩
end
end Go.Proofs.Ytecmgiihacigaaa
