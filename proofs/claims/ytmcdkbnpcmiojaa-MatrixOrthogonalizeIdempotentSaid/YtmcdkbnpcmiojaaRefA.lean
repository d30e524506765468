/-
  The reference's Apply and FromNumbers of matrices, its Point of boxes.
-/
import Derived.Test.YtmcdkbnpcmiojaaRef4
import Derived.Test.YtmcdkbnpcmiojaaK4
import Derived.Test.YtmcdkbnpcmiojaaR6
namespace Go.Proofs.Ytmcdkbnpcmiojaa
open Go.ChangeShapes Go.WideShapes Go.ChangeAt Go.RowKit
set_option linter.unusedVariables false
set_option linter.unusedSimpArgs false
set_option maxRecDepth 100000

attribute [local irreducible] Calls
theorem tk_snoc {α : Type} {m l : List α} {z : α} (h : m = l.take m.length) (hz : l[m.length]? = some z) : m ++ [z] = l.take (m ++ [z]).length := by
  rw [List.length_append, List.length_singleton, List.take_add_one, hz, ← h]
  rfl
theorem tk_end {α : Type} {m l : List α} (h : m = l.take m.length) (hl : l.length ≤ m.length) : m = l := by
  rw [List.take_of_length_le hl] at h
  exact h
theorem mp_some {α β : Type} {l : List α} {g : α → β} {k : Nat} {x : α} (h : l[k]? = some x) : (l.map g)[k]? = some (g x) := by rw [List.getElem?_map, h]; rfl
end Go.Proofs.Ytmcdkbnpcmiojaa
