/-
 The openers and the walk, together.
-/
import Derived.Test.YtdfdpghdjlgghaaGreatKdzq
import Derived.Test.YtdfdpghdjlgghaaGreatKdGo
namespace Go.Proofs.YtdfdpghdjlgghaaGreat
theorem both14 : True := trivial
end Go.Proofs.YtdfdpghdjlgghaaGreat
