/-
  The reference's Made: a valid box out of whatever intervals.
-/
import Derived.Test.YtmcdkbnpcmiojaaMap
import Derived.Test.YtmcdkbnpcmiojaaR1
namespace Go.Proofs.Ytmcdkbnpcmiojaa
open Go.ChangeShapes Go.WideShapes Go.ChangeAt Go.RowKit
set_option linter.unusedVariables false
set_option linter.unusedSimpArgs false
set_option maxRecDepth 100000
attribute [local irreducible] Calls

/-- A slice of the call's own. -/
def OwnB (B : Nat) (w : World) (v : Value) (l : List (Int × Int)) : Prop := ∃ g cap, v = .slice (some ⟨g, 0, none⟩) l.length cap ∧ w.ownsRow B 38 2 v l.length (cz l)
theorem cz_snoc (l : List (Int × Int)) (x y : Int) : cz (l ++ [(x, y)]) = cz l ++ [.int .i64 x, .int .i64 y] := by rw [cz_app]; rfl
theorem grownBy_setCell'' (W : World) (b o : Nat) (v : Value) : W.grownBy (W.setCell ⟨b, o, none⟩ v) (some b) :=
  ⟨rfl, rfl, rfl, by simp [World.setCell], fun k _ hk => Below.heap_setCell _ _ _ k (fun e => hk (by rw [e]))⟩
theorem vb_zero : VB (0, 0) := .inr ⟨⟨by decide, by decide⟩, ⟨by decide, by decide⟩, by decide⟩

end Go.Proofs.Ytmcdkbnpcmiojaa
