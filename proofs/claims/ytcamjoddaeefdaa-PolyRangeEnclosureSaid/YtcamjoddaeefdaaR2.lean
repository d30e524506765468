/-
  Contracts of the reference: Sign, Mag, Contains, Point, MulRatio.
-/
import Derived.Test.YtcamjoddaeefdaaIw8
import Derived.Test.YtcamjoddaeefdaaIw10
import Derived.Test.YtcamjoddaeefdaaKit
import Derived.Test.YtcamjoddaeefdaaIv
namespace Go.Proofs.Ytcamjoddaeefdaa
open Go.ChangeShapes Go.WideShapes Go.ChangeAt Go.RowKit
set_option linter.unusedVariables false
set_option linter.unusedSimpArgs false
set_option maxRecDepth 100000

open Go.BigFrame
attribute [local go_sem ↓] run_max_two run_min_two run_max_three





theorem dn_within {n d B : Int} (hd : 0 < d) (h1 : -B ≤ n) (h2 : n ≤ B) (hB : 0 ≤ B) : -B ≤ dn n d ∧ dn n d ≤ B := by
  have q1 := dn_mul n hd
  constructor
  · refine dn_le hd ?_
    have := Int.mul_le_mul_of_nonpos_left (a := -B) (by omega) (show 1 ≤ d by omega); omega
  · by_cases hh : dn n d ≤ 0
    · omega
    · have := Int.mul_le_mul_of_nonneg_left (show 1 ≤ d by omega) (show 0 ≤ dn n d by omega); omega

end Go.Proofs.Ytcamjoddaeefdaa
