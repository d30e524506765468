/-
  min and max of integers, undecided.
-/
import Derived.Test.YtdnndmpdlelliaaKit
namespace Go.Proofs.Ytdnndmpdlelliaa
open Go.ChangeShapes Go.WideShapes Go.ChangeAt Go.RowKit
variable {P : Program}
theorem ok_int {k : IntKind} {a b : Int} {w : World} (h : a = b) : (Result.ok (Value.int k a) w : Result Value) = Result.ok (Value.int k b) w := by rw [h]
theorem run_max2 (k : IntKind) (x y : Int) (w : World) : (Builtin.max2 (.int k x) (.int k y)).run P w = .ok (.int k (max x y)) w := by
  unfold Builtin.max2
  simp only [Sem.run_pure]
  refine ok_int ?_
  by_cases h : y > x
  · simp [h]; omega
  · simp [h]; omega
theorem run_min2 (k : IntKind) (x y : Int) (w : World) : (Builtin.min2 (.int k x) (.int k y)).run P w = .ok (.int k (min x y)) w := by
  unfold Builtin.min2
  simp only [Sem.run_pure]
  refine ok_int ?_
  by_cases h : y < x
  · simp [h]; omega
  · simp [h]; omega
theorem run_max_two (ts : Array TypeId) (t : TypeId) (k : IntKind) (x y : Int) (w : World) : (Builtin.max_ ts t #[.int k x, .int k y]).run P w = .ok (.int k (max x y)) w := by
  unfold Builtin.max_
  simp only [List.foldlM_cons, List.foldlM_nil, bind_pure]
  exact run_max2 k x y w
theorem run_min_two (ts : Array TypeId) (t : TypeId) (k : IntKind) (x y : Int) (w : World) : (Builtin.min_ ts t #[.int k x, .int k y]).run P w = .ok (.int k (min x y)) w := by
  unfold Builtin.min_
  simp only [List.foldlM_cons, List.foldlM_nil, bind_pure]
  exact run_min2 k x y w
theorem run_max_three (ts : Array TypeId) (t : TypeId) (k : IntKind) (x y z : Int) (w : World) : (Builtin.max_ ts t #[.int k x, .int k y, .int k z]).run P w = .ok (.int k (max (max x y) z)) w := by
  unfold Builtin.max_
  simp only [List.foldlM_cons, List.foldlM_nil, bind_pure, Sem.run_bind, run_max2, Result.andThen_ok]
end Go.Proofs.Ytdnndmpdlelliaa
