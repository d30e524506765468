/-
  The walk of the law FixedRounding.
-/
import Derived.Test.YtjjllfaehipemaaLawQ
namespace Go.Proofs.Ytjjllfaehipemaa
open Go.ChangeShapes Go.WideShapes Go.ChangeAt Go.RowKit

set_option maxRecDepth 100000 in
set_option maxHeartbeats 2000000 in
theorem rounding_walk (x y r0 r1 : Int) (w : World) :
    Calls Try.prog 5 #[.int .i64 x, .int .i64 y, .agg #[.int .i64 r0, .int .i64 r1]] w fun e w' => e = .returned (.bool true) ∧ Below w.heap.size w w' := by
  obtain ⟨a, ha1, ha2, hx⟩ := num_ex x
  obtain ⟨b, hb1, hb2, hy⟩ := num_ex y
  have n1 := Int.lt_tmod_of_pos r0 (b := 1073741825) (by decide)
  have n2 := Int.tmod_lt_of_pos r0 (b := 1073741825) (by decide)
  have m1 := Int.lt_tmod_of_pos r1 (b := 1073741824) (by decide)
  have m2 := Int.tmod_lt_of_pos r1 (b := 1073741824) (by decide)
  go_enter Try.func5, Try.ntmps5
  go_wp2_with (fail)
  refine (sanity_any _).mono ?_
  rintro e0 w0 ⟨rfl, hB⟩
  have hsz := hB.size
  have hk0 : w0.cell? ⟨w.heap.size, 0, none⟩ = some (.int .i64 r0) := by
    rw [hB.cell (p := ⟨w.heap.size, 0, none⟩) (by simp)]
    go_cell
  have hk1 : w0.cell? ⟨w.heap.size, 1, none⟩ = some (.int .i64 r1) := by
    rw [hB.cell (p := ⟨w.heap.size, 1, none⟩) (by simp)]
    go_cell
  go_wp2_with (fail)
  refine (hx _).mono ?_
  rintro e1 w1 ⟨rfl, rfl⟩
  go_wp2_with (fail)
  refine (hy _).mono ?_
  rintro e2 w2 ⟨rfl, rfl⟩
  go_wp2_with (fail)
  go_quiet (fail)
  go_wp2_with (fail)
  generalize hd : 1 + r1.tmod 1073741824 % 1073741824 = d
  have hd1 : 1 ≤ d := by omega
  have hd2 : d ≤ 1073741824 := by omega
  generalize r0.tmod 1073741825 = n at *
  clear hd m1 m2 hk0 hk1
  have mb := mul_bound a b 2147483648 2147483648 (by omega) (by omega) (by omega) (by omega)
  have nb := mul_bound a n 2147483648 1073741824 (by omega) (by omega) (by omega) (by omega)
  have mb1 : -4611686018427387904 ≤ a * b := by omega
  have mb2 : a * b ≤ 4611686018427387904 := by omega
  have nb1 : -4611686018427387904 ≤ a * n := by omega
  have nb2 : a * n ≤ 4611686018427387904 := by omega
  clear mb nb
  refine (mul_any a b _ (by omega) (by omega) (by omega) (by omega)).mono ?_
  rintro e3 w3 ⟨rfl, hB3⟩
  go_wp2_with (fail)
  refine (ratio_any a n d _ (by omega) (by omega) (by omega) (by omega) hd1 hd2).mono ?_
  rintro e4 w4 ⟨rfl, hB4⟩
  go_wp2_with (fail)
  refine (encl_any 65536 (a * b) _ (by decide) (by decide) mb1 mb2).mono ?_
  rintro e5 w5 ⟨rfl, rfl⟩
  go_wp2_with (fail)
  refine (encl_any d (a * n) _ (by omega) (by omega) nb1 nb2).mono ?_
  rintro e6 w6 ⟨rfl, rfl⟩
  go_wp2_with (fail)
  go_ret
  exact ⟨rfl, below_then (below_then (below_drewN (below_then ((Below.refl _ _).alloc (Nat.le_refl _) _) hB) _) hB3) hB4⟩
theorem rounding_all (x : Int) (_ : (Lit.int .i64 x).wf = true) (y : Int) (_ : (Lit.int .i64 y).wf = true) (r0 r1 : Int) (_ : ∀ x ∈ [r0, r1], IntKind.has .i64 x) (w : World) :
    Calls Try.prog 5 #[.int .i64 x, .int .i64 y, .agg #[.int .i64 r0, .int .i64 r1]] w fun e w' => e = .returned (.bool true) ∧ Below w.heap.size w w' := rounding_walk x y r0 r1 w
end Go.Proofs.Ytjjllfaehipemaa
