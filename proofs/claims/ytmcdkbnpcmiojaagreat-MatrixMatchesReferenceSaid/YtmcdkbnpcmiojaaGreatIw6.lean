/-
  Contract of package interval: Hull.
-/
import Derived.Test.YtmcdkbnpcmiojaaGreatIw4a
namespace Go.Proofs.YtmcdkbnpcmiojaaGreat
open Go.ChangeShapes Go.WideShapes Go.ChangeAt Go.RowKit
set_option linter.unusedVariables false
set_option linter.unusedSimpArgs false
set_option maxRecDepth 100000










end Go.Proofs.YtmcdkbnpcmiojaaGreat
