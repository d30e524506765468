/-
  Contract of the reference's Mul.
-/
import Derived.Test.YtmcdkbnpcmiojaaR2
import Derived.Outline
import Derived.WalkMore
namespace Go.Proofs.Ytmcdkbnpcmiojaa
open Go.ChangeShapes Go.WideShapes Go.ChangeAt Go.RowKit
set_option linter.unusedVariables false
set_option linter.unusedSimpArgs false
set_option maxRecDepth 100000

open Go.BigFrame
attribute [local go_sem ↓] run_max_two run_min_two run_max_three

end Go.Proofs.Ytmcdkbnpcmiojaa
