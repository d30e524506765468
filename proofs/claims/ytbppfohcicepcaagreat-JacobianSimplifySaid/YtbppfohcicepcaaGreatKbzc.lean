/-
  Re Rcp
-/
import Derived.Test.YtbppfohcicepcaaGreatKbn
import Derived.Test.YtbppfohcicepcaaGreatKbp
import Derived.Maps.AppendAt
namespace Go.Proofs.YtbppfohcicepcaaGreat
open Go.ChangeShapes Go.WideShapes Go.ChangeAt Go.RowKit Go.Maps
set_option linter.unusedVariables false
set_option linter.unusedSimpArgs false
set_option maxRecDepth 100000
attribute [local irreducible] Calls
/-- Instructions in a slice that may be appended elsewhere. -/
def IxN (w : World) (v : Value) (L : List Is) : Prop := Ix w v L ∧ ∃ p c, v = .slice p L.length c ∧ (p = none → c = 0)
theorem IxN.grow {w w' : World} {v : Value} {L : List Is} (h : IxN w v L) (hB : Below w.heap.size w w') : IxN w' v L := ⟨h.1.grow hB, h.2⟩
theorem IxN.nil (w : World) : IxN w (.slice none 0 0) [] := ⟨Rx.nil _ _ _, none, 0, rfl, fun _ => rfl⟩
end Go.Proofs.YtbppfohcicepcaaGreat
namespace Go.Proofs.YtbppfohcicepcaaGreat
open Go.ChangeShapes Go.WideShapes Go.ChangeAt Go.RowKit Go.Maps
set_option linter.unusedVariables false
set_option linter.unusedSimpArgs false
set_option maxRecDepth 100000
attribute [local irreducible] Calls
/-- The list of instructions while compile runs. -/
structure RcI (w : World) (X8 X9 : Nat) (vl l : Value) (T : List Is) (W : World) : Prop where
  ix : IxN W l T
  d : T = [] ∨ (l.ownBlock ≠ some X8 ∧ l.ownBlock ≠ some X9)
  f : l = vl ∨ ∀ b, l.ownBlock = some b → w.heap.size ≤ b
theorem RcI.grow {w W W' : World} {X8 X9 : Nat} {vl l : Value} {T : List Is} (h : RcI w X8 X9 vl l T W) (hB : Below W.heap.size W W') : RcI w X8 X9 vl l T W' := ⟨h.ix.grow hB, h.d, h.f⟩
end Go.Proofs.YtbppfohcicepcaaGreat
