/-
  box.pairs: the iterator over two slices of intervals.
  box.pairs: the iterator over a slice of intervals and a slice of numbers.
-/
import Derived.RangeFuncNested
import Derived.RangeFuncBound
import Derived.RangeFuncCalls
import Derived.RangeFuncLeaves
import Derived.Shelf.Abstract
import Derived.Shelf.RegionOpen
import Derived.WalkKit
import Derived.OwnWalkIn
import Derived.TacticsInMore
import Derived.LoopNIn
import Derived.LoopIn
import Derived.Test.YtmcdkbnpcmiojaaBox
import Derived.Test.YtmcdkbnpcmiojaaRegIn
namespace Go.Proofs.Ytmcdkbnpcmiojaa
open Go.ChangeShapes Go.WideShapes Go.ChangeAt Go.RowKit Go.Shelf
set_option linter.unusedVariables false
set_option linter.unusedSimpArgs false
set_option maxRecDepth 100000
attribute [local go_sem] Oper.semAt_some

/-- What a round keeps: what lay below n₀, and the two boxed slices. -/
def KpB (n₀ x y : Nat) (W W' : World) : Prop := Below n₀ W W' ∧ W'.heap[x]? = W.heap[x]? ∧ W'.heap[y]? = W.heap[y]?
theorem KpB.trans {n₀ x y : Nat} {A B C : World} (h : KpB n₀ x y A B) (k : KpB n₀ x y B C) : KpB n₀ x y A C := ⟨h.1.trans k.1, k.2.1.trans h.2.1, k.2.2.trans h.2.2⟩
def iva (p : Int × Int) : Value := .agg #[.int .i64 p.1, .int .i64 p.2]

theorem grown_below {W W' : World} (h : Below W.heap.size W W') : W.grownBy W' none := ⟨h.os, h.tape, h.output, h.size, fun k hk _ => h.block k hk⟩



end Go.Proofs.Ytmcdkbnpcmiojaa

namespace Go.Proofs.Ytmcdkbnpcmiojaa
open Go.ChangeShapes Go.WideShapes Go.ChangeAt Go.RowKit Go.Shelf
set_option linter.unusedVariables false
set_option linter.unusedSimpArgs false
set_option maxRecDepth 100000
attribute [local go_sem] Oper.semAt_some



end Go.Proofs.Ytmcdkbnpcmiojaa
