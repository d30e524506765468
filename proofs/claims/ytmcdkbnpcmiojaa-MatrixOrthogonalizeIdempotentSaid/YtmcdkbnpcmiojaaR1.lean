/-
  Contracts of the reference: Valid, Small, Made.
-/
import Derived.Test.YtmcdkbnpcmiojaaIw8
import Derived.Test.YtmcdkbnpcmiojaaKit
import Derived.Test.YtmcdkbnpcmiojaaIv
namespace Go.Proofs.Ytmcdkbnpcmiojaa
open Go.ChangeShapes Go.WideShapes Go.ChangeAt Go.RowKit
set_option linter.unusedVariables false
set_option linter.unusedSimpArgs false
set_option maxRecDepth 100000

open Go.BigFrame
attribute [local go_sem ↓] run_max_two run_min_two run_max_three



theorem small_vi (a b : Int) : VI (min (a.tmod 16777216) (b.tmod 16777216)) (max (a.tmod 16777216) (b.tmod 16777216)) := by
  have h1 := Int.lt_tmod_of_pos a (show (0 : Int) < 16777216 by decide)
  have h2 := Int.tmod_lt_of_pos a (show (0 : Int) < 16777216 by decide)
  have h3 := Int.lt_tmod_of_pos b (show (0 : Int) < 16777216 by decide)
  have h4 := Int.tmod_lt_of_pos b (show (0 : Int) < 16777216 by decide)
  unfold VI Num
  right
  omega





end Go.Proofs.Ytmcdkbnpcmiojaa
