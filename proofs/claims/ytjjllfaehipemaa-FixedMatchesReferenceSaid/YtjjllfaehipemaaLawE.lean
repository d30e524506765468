/-
  The walk of the law FixedMatchesReference.
-/
import Derived.Test.YtjjllfaehipemaaLawQ
import Derived.Test.YtjjllfaehipemaaRef3
namespace Go.Proofs.Ytjjllfaehipemaa
open Go.ChangeShapes Go.WideShapes Go.ChangeAt Go.RowKit

theorem same_below {w w' : World} (h : w = w') : Below w.heap.size w w' := by subst h; exact Below.refl _ _

theorem both_valid (x : Int) : ∃ v : Bool, (∀ w, Calls Try.prog 13 #[.int .i64 x] w fun e w' => e = .returned (.bool v) ∧ w = w') ∧ (∀ w, Calls Try.prog 14 #[.int .i64 x] w fun e w' => e = .returned (.bool v) ∧ w = w') :=
  ⟨_, fun w => valid_any x w, fun w => rvalid_any x w⟩
theorem both_mul (a b : Int) (h1 : -2147483648 ≤ a) (h2 : a ≤ 2147483648) (h3 : -2147483648 ≤ b) (h4 : b ≤ 2147483648) : ∃ p q : Int, (∀ w, Calls Try.prog 16 #[.int .i64 a, .int .i64 b] w fun e w' => e = .returned (.tuple #[.int .i64 p, .int .i64 q]) ∧ Below w.heap.size w w') ∧ (∀ w, Calls Try.prog 17 #[.int .i64 a, .int .i64 b] w fun e w' => e = .returned (.tuple #[.int .i64 p, .int .i64 q]) ∧ w = w') :=
  ⟨_, _, fun w => mul_any a b w h1 h2 h3 h4, fun w => rmul_any a b w h1 h2 h3 h4⟩
theorem both_div (a b : Int) (h1 : -2147483648 ≤ a) (h2 : a ≤ 2147483648) : ∃ p q r : Int, (∀ w, Calls Try.prog 18 #[.int .i64 a, .int .i64 b] w fun e w' => e = .returned (.tuple #[.int .i64 p, .int .i64 q, .int .i64 r]) ∧ Below w.heap.size w w') ∧ (∀ w, Calls Try.prog 19 #[.int .i64 a, .int .i64 b] w fun e w' => e = .returned (.tuple #[.int .i64 p, .int .i64 q, .int .i64 r]) ∧ w = w') := by
  by_cases hb : b = 0
  · subst hb
    exact ⟨0, 0, 3, fun w => (div_zero a w).mono fun _ _ h => ⟨h.1, same_below h.2⟩, fun w => rdiv_zero a w⟩
  · exact ⟨_, _, 0, fun w => div_any a b w h1 h2 (by simpa using hb), fun w => rdiv_any a b w h1 h2 (by simpa using hb)⟩
theorem both_sqrt (a : Int) (h2 : a ≤ 2147483648) : ∃ p q r : Int, (∀ w, Calls Try.prog 20 #[.int .i64 a] w fun e w' => e = .returned (.tuple #[.int .i64 p, .int .i64 q, .int .i64 r]) ∧ w = w') ∧ (∀ w, Calls Try.prog 21 #[.int .i64 a] w fun e w' => e = .returned (.tuple #[.int .i64 p, .int .i64 q, .int .i64 r]) ∧ w = w') := by
  by_cases hb : a < 0
  · exact ⟨0, 0, 4, fun w => sqrt_neg a w hb, fun w => rsqrt_neg a w hb⟩
  · exact ⟨_, _, 0, fun w => sqrt_any a w (by omega) h2, fun w => rsqrt_any a w (by omega) h2⟩
theorem both_ratio (a n d : Int) (h1 : -2147483648 ≤ a) (h2 : a ≤ 2147483648) : ∃ p q r : Int, (∀ w, Calls Try.prog 22 #[.int .i64 a, .int .i64 n, .int .i64 d] w fun e w' => e = .returned (.tuple #[.int .i64 p, .int .i64 q, .int .i64 r]) ∧ Below w.heap.size w w') ∧ (∀ w, Calls Try.prog 23 #[.int .i64 a, .int .i64 n, .int .i64 d] w fun e w' => e = .returned (.tuple #[.int .i64 p, .int .i64 q, .int .i64 r]) ∧ w = w') := by
  by_cases hb : n < -1073741824 ∨ 1073741824 < n ∨ d < 1 ∨ 1073741824 < d
  · exact ⟨0, 0, 1, fun w => (ratio_arg a n d w hb).mono fun _ _ h => ⟨h.1, same_below h.2⟩, fun w => rratio_arg a n d w hb⟩
  · exact ⟨_, _, 0, fun w => ratio_any a n d w h1 h2 (by omega) (by omega) (by omega) (by omega), fun w => rratio_any a n d w h1 h2 (by omega) (by omega) (by omega) (by omega)⟩

set_option maxRecDepth 100000 in
set_option maxHeartbeats 2000000 in
theorem matches_walk (x y r0 r1 : Int) (w : World) :
    Calls Try.prog 3 #[.int .i64 x, .int .i64 y, .agg #[.int .i64 r0, .int .i64 r1]] w fun e w' => e = .returned (.bool true) ∧ Below w.heap.size w w' := by
  obtain ⟨a, ha1, ha2, hx⟩ := num_ex x
  obtain ⟨b, hb1, hb2, hy⟩ := num_ex y
  obtain ⟨v, hv1, hv2⟩ := both_valid x
  obtain ⟨c1, c2, hm1, hm2⟩ := both_mul a b (by omega) (by omega) (by omega) (by omega)
  obtain ⟨d1, d2, d3, hd1, hd2⟩ := both_div a b (by omega) (by omega)
  obtain ⟨s1, s2, s3, hs1, hs2⟩ := both_sqrt a (by omega)
  obtain ⟨t1, t2, t3, ht1, ht2⟩ := both_ratio a r0 r1 (by omega) (by omega)
  go_enter Try.func3, Try.ntmps3
  go_wp2_with (fail)
  refine (sanity_any _).mono ?_
  rintro e0 w0 ⟨rfl, hB⟩
  have hk : Hid (∀ o, w0.cell? ⟨w.heap.size, o, none⟩ = (w.alloc (.cells #[.int .i64 r0, .int .i64 r1] 22)).cell? ⟨w.heap.size, o, none⟩) := fun o => hB.cell (p := ⟨w.heap.size, o, none⟩) (by simp)
  have hz : w.heap.size < w0.heap.size := by have := hB.size; simp at this; omega
  go_wp2_with (fail)
  refine (hv1 _).mono ?_
  rintro e1 w1 ⟨rfl, rfl⟩
  go_wp2_with (fail)
  refine (hv2 _).mono ?_
  rintro e1 w1 ⟨rfl, rfl⟩
  go_wp2_with (fail)
  refine (hx _).mono ?_
  rintro e1 w1 ⟨rfl, rfl⟩
  go_wp2_with (fail)
  refine (hy _).mono ?_
  rintro e1 w1 ⟨rfl, rfl⟩
  go_wp2_with (fail)
  refine (hm1 _).mono ?_
  rintro e1 w1 ⟨rfl, hB1⟩
  have hk1 : Hid (∀ o, w1.cell? ⟨w.heap.size, o, none⟩ = (w.alloc (.cells #[.int .i64 r0, .int .i64 r1] 22)).cell? ⟨w.heap.size, o, none⟩) := fun o => (hB1.cell (p := ⟨w.heap.size, o, none⟩) hz).trans (hk.out o)
  have hz1 : w.heap.size < w1.heap.size := by have := hB1.size; omega
  go_wp2_with (fail)
  refine (hm2 _).mono ?_
  rintro e1 w1 ⟨rfl, rfl⟩
  go_wp2_with (fail)
  refine (hd1 _).mono ?_
  rintro e1 w2 ⟨rfl, hB2⟩
  have hk2 : Hid (∀ o, w2.cell? ⟨w.heap.size, o, none⟩ = (w.alloc (.cells #[.int .i64 r0, .int .i64 r1] 22)).cell? ⟨w.heap.size, o, none⟩) := fun o => (hB2.cell (p := ⟨w.heap.size, o, none⟩) hz1).trans (hk1.out o)
  have hz2 : w.heap.size < w2.heap.size := by have := hB2.size; omega
  go_wp2_with (fail)
  refine (hd2 _).mono ?_
  rintro e1 w1 ⟨rfl, rfl⟩
  go_wp2_with (fail)
  refine (hs1 _).mono ?_
  rintro e1 w1 ⟨rfl, rfl⟩
  go_wp2_with (fail)
  refine (hs2 _).mono ?_
  rintro e1 w1 ⟨rfl, rfl⟩
  have q0w2 : w2.cell? ⟨w.heap.size, 0, none⟩ = some (.int .i64 r0) := by rw [hk2.out]; go_cell
  have q1w2 : w2.cell? ⟨w.heap.size, 1, none⟩ = some (.int .i64 r1) := by rw [hk2.out]; go_cell
  go_wp2_with (fail)
  refine (ht1 _).mono ?_
  rintro e1 w3 ⟨rfl, hB3⟩
  have hk3 : Hid (∀ o, w3.cell? ⟨w.heap.size, o, none⟩ = (w.alloc (.cells #[.int .i64 r0, .int .i64 r1] 22)).cell? ⟨w.heap.size, o, none⟩) := fun o => (hB3.cell (p := ⟨w.heap.size, o, none⟩) hz2).trans (hk2.out o)
  have hz3 : w.heap.size < w3.heap.size := by have := hB3.size; omega
  have q0w3 : w3.cell? ⟨w.heap.size, 0, none⟩ = some (.int .i64 r0) := by rw [hk3.out]; go_cell
  have q1w3 : w3.cell? ⟨w.heap.size, 1, none⟩ = some (.int .i64 r1) := by rw [hk3.out]; go_cell
  go_wp2_with (fail)
  refine (ht2 _).mono ?_
  rintro e1 w1 ⟨rfl, rfl⟩
  go_wp2_with (fail)
  go_ret
  exact ⟨rfl, below_then (below_then (below_then (below_then ((Below.refl _ _).alloc (Nat.le_refl _) _) hB) hB1) hB2) hB3⟩
theorem matches_all (x : Int) (_ : (Lit.int .i64 x).wf = true) (y : Int) (_ : (Lit.int .i64 y).wf = true) (r0 r1 : Int) (_ : ∀ x ∈ [r0, r1], IntKind.has .i64 x) (w : World) :
    Calls Try.prog 3 #[.int .i64 x, .int .i64 y, .agg #[.int .i64 r0, .int .i64 r1]] w fun e w' => e = .returned (.bool true) ∧ Below w.heap.size w w' := matches_walk x y r0 r1 w
end Go.Proofs.Ytjjllfaehipemaa
