/-
  Contract of package interval: Hull.
-/
import Derived.Test.YtmcdkbnpcmiojaaIw4a
namespace Go.Proofs.Ytmcdkbnpcmiojaa
open Go.ChangeShapes Go.WideShapes Go.ChangeAt Go.RowKit
set_option linter.unusedVariables false
set_option linter.unusedSimpArgs false
set_option maxRecDepth 100000










end Go.Proofs.Ytmcdkbnpcmiojaa
