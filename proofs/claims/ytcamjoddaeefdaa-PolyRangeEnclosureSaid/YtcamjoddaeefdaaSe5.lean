/-
  What the sanity's examples give.
-/
import Derived.Test.YtcamjoddaeefdaaPk5
namespace Go.Proofs.Ytcamjoddaeefdaa
set_option linter.unusedVariables false
set_option maxRecDepth 100000
theorem se_a : mulR [(65536, [0, 0, 0, 0, 0, 0]), (65536, [1, 0, 0, 0, 0, 0])] [(65536, [0, 0, 0, 0, 0, 0]), (-65536, [1, 0, 0, 0, 0, 0])] 6 = ([(65536, [0, 0, 0, 0, 0, 0]), (-65536, [2, 0, 0, 0, 0, 0])], (0, 0)) := by decide
theorem se_b : mulR [(65536, [0, 0, 0, 0, 0, 0]), (65536, [1, 0, 0, 0, 0, 0])] [(65536, [0, 0, 0, 0, 0, 0]), (-65536, [1, 0, 0, 0, 0, 0])] 1 = ([(65536, [0, 0, 0, 0, 0, 0])], (-65536, 0)) := by decide
theorem se_c : mulR [(3, [1, 0, 0, 0, 0, 0])] (constT 32768) 6 = ([(1, [1, 0, 0, 0, 0, 0])], (-1, 1)) := by decide
theorem se_d : mulR [(1, [2, 0, 0, 0, 0, 0])] (constT 1) 6 = ([], (0, 1)) := by decide
theorem se_e1 : mergeP [(65536, [0, 0, 0, 0, 0, 0]), (65536, [1, 0, 0, 0, 0, 0])] [(65536, [0, 0, 0, 0, 0, 0]), (-65536, [1, 0, 0, 0, 0, 0])] = [(131072, [0, 0, 0, 0, 0, 0])] := by simp [mergeP, cmpE]
theorem se_e : truncP [(131072, [0, 0, 0, 0, 0, 0])] 6 (0, 0) = ([(131072, [0, 0, 0, 0, 0, 0])], (0, 0)) := by decide
theorem se_f1 : mergeP [(2147483647, [0, 1, 0, 0, 0, 0])] [(1, [0, 1, 0, 0, 0, 0])] = [(2147483648, [0, 1, 0, 0, 0, 0])] := by simp [mergeP, cmpE]
theorem se_f : truncP [(2147483648, [0, 1, 0, 0, 0, 0])] 6 (0, 0) = ([], (-2147483648, 2147483648)) := by decide
theorem se_g : truncP [(5, [0, 0, 0, 0, 0, 0]), (7, [0, 2, 0, 0, 0, 0]), (-9, [2, 0, 0, 0, 0, 0]), (4, [2, 1, 0, 0, 0, 0])] 1 (0, 0) = ([(5, [0, 0, 0, 0, 0, 0])], (-13, 11)) := by decide
theorem se_r : newR (sumR [(65536, [0, 0, 0, 0, 0, 0]), (65536, [1, 0, 0, 0, 0, 0]), (-65536, [2, 0, 0, 0, 0, 0])]) = (-65536, 131072) := by decide
theorem se_z : evalP [(-65536, 131072), (3, 4)] [(65536, [0, 1, 0, 0, 0, 0]), (65536, [2, 0, 0, 0, 0, 0])] = (3, 262148) := by
  have h2 : powX (-65536, 131072) 2 = sqI2 (-65536, 131072) := by rw [powX_even _ (by decide) (by decide), show 2 / 2 = 1 from rfl, powX_one]
  have e1 : valI [(-65536, 131072), (3, 4)] (65536, [0, 1, 0, 0, 0, 0]) 6 = mulI2 (ptI 65536) (3, 4) := by
    simp [valI, List.range_succ, varX, powX_one]
  have e2 : valI [(-65536, 131072), (3, 4)] (65536, [2, 0, 0, 0, 0, 0]) 6 = mulI2 (ptI 65536) (sqI2 (-65536, 131072)) := by
    simp [valI, List.range_succ, varX, h2]
  unfold evalP
  simp only [List.foldl_cons, List.foldl_nil, e1, e2]
  decide
end Go.Proofs.Ytcamjoddaeefdaa
