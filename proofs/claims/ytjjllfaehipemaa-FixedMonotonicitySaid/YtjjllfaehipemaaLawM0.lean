/-
  What FixedMonotonicity compares.
-/
import Derived.Test.YtjjllfaehipemaaLawQ
namespace Go.Proofs.Ytjjllfaehipemaa
open Go.ChangeShapes Go.WideShapes Go.ChangeAt Go.RowKit
set_option linter.unusedVariables false

theorem usq_mono {n m : Int} (h : 0 ≤ n) (hm : n ≤ m) : usq n ≤ usq m := by
  have a := isq_spec h
  have b := isq_spec (n := m) (by omega)
  have c := isq_mono h hm
  unfold usq
  by_cases h1 : isq n * isq n = n
  · rw [if_pos h1]
    split <;> omega
  · rw [if_neg h1]
    by_cases h2 : isq n = isq m
    · rw [if_neg (by rw [← h2]; omega)]
      omega
    · split <;> omega
theorem mul_le (x y z : Int) (h : x ≤ y) (hz : 0 ≤ z) (h1 : -2147483648 ≤ x) (h2 : x ≤ 2147483648) (h3 : -2147483648 ≤ y) (h4 : y ≤ 2147483648) (h5 : -2147483648 ≤ z) (h6 : z ≤ 2147483648) :
    ∃ i k l m : Int, i ≤ l ∧ k ≤ m ∧ (∀ w, Calls Try.prog 16 #[.int .i64 x, .int .i64 z] w fun e w' => e = .returned (.tuple #[.int .i64 i, .int .i64 k]) ∧  Below w.heap.size w w') ∧ (∀ w, Calls Try.prog 16 #[.int .i64 y, .int .i64 z] w fun e w' => e = .returned (.tuple #[.int .i64 l, .int .i64 m]) ∧  Below w.heap.size w w') :=
  ⟨dn (x * z) 65536, up (x * z) 65536, dn (y * z) 65536, up (y * z) 65536, dn_mono (by decide) (Int.mul_le_mul_of_nonneg_right h hz), up_mono (by decide) (Int.mul_le_mul_of_nonneg_right h hz), fun w => mul_any x z w h1 h2 h5 h6, fun w => mul_any y z w h3 h4 h5 h6⟩
theorem mul_ge (x y z : Int) (h : x ≤ y) (hz : z ≤ 0) (h1 : -2147483648 ≤ x) (h2 : x ≤ 2147483648) (h3 : -2147483648 ≤ y) (h4 : y ≤ 2147483648) (h5 : -2147483648 ≤ z) (h6 : z ≤ 2147483648) :
    ∃ i k l m : Int, l ≤ i ∧ m ≤ k ∧ (∀ w, Calls Try.prog 16 #[.int .i64 x, .int .i64 z] w fun e w' => e = .returned (.tuple #[.int .i64 i, .int .i64 k]) ∧  Below w.heap.size w w') ∧ (∀ w, Calls Try.prog 16 #[.int .i64 y, .int .i64 z] w fun e w' => e = .returned (.tuple #[.int .i64 l, .int .i64 m]) ∧  Below w.heap.size w w') :=
  ⟨dn (x * z) 65536, up (x * z) 65536, dn (y * z) 65536, up (y * z) 65536, dn_mono (by decide) (Int.mul_le_mul_of_nonpos_right h hz), up_mono (by decide) (Int.mul_le_mul_of_nonpos_right h hz), fun w => mul_any x z w h1 h2 h5 h6, fun w => mul_any y z w h3 h4 h5 h6⟩
theorem div_le (x y z : Int) (h : x ≤ y) (hz : 0 < z) (h1 : -2147483648 ≤ x) (h2 : x ≤ 2147483648) (h3 : -2147483648 ≤ y) (h4 : y ≤ 2147483648) :
    ∃ i k l m : Int, i ≤ l ∧ k ≤ m ∧ (∀ w, Calls Try.prog 18 #[.int .i64 x, .int .i64 z] w fun e w' => e = .returned (.tuple #[.int .i64 i, .int .i64 k, .int .i64 0]) ∧  Below w.heap.size w w') ∧ (∀ w, Calls Try.prog 18 #[.int .i64 y, .int .i64 z] w fun e w' => e = .returned (.tuple #[.int .i64 l, .int .i64 m, .int .i64 0]) ∧  Below w.heap.size w w') :=
  ⟨dn (x * 65536) z, up (x * 65536) z, dn (y * 65536) z, up (y * 65536) z, dn_mono hz (by omega), up_mono hz (by omega), fun w => div_any x z w h1 h2 (by simp; omega), fun w => div_any y z w h3 h4 (by simp; omega)⟩
theorem ratio_le (x y d : Int) (h : x ≤ y) (h1 : -2147483648 ≤ x) (h2 : x ≤ 2147483648) (h3 : -2147483648 ≤ y) (h4 : y ≤ 2147483648) (h5 : 1 ≤ d) (h6 : d ≤ 1000) :
    ∃ i k l m : Int, i ≤ l ∧ k ≤ m ∧ (∀ w, Calls Try.prog 22 #[.int .i64 x, .int .i64 3, .int .i64 d] w fun e w' => e = .returned (.tuple #[.int .i64 i, .int .i64 k, .int .i64 0]) ∧  Below w.heap.size w w') ∧ (∀ w, Calls Try.prog 22 #[.int .i64 y, .int .i64 3, .int .i64 d] w fun e w' => e = .returned (.tuple #[.int .i64 l, .int .i64 m, .int .i64 0]) ∧  Below w.heap.size w w') :=
  ⟨dn (x * 3) d, up (x * 3) d, dn (y * 3) d, up (y * 3) d, dn_mono (by omega) (by omega), up_mono (by omega) (by omega), fun w => ratio_any x 3 d w h1 h2 (by decide) (by decide) h5 (by omega), fun w => ratio_any y 3 d w h3 h4 (by decide) (by decide) h5 (by omega)⟩
theorem sqrt_le (x y : Int) (h : x ≤ y) (h1 : 0 ≤ x) (h4 : y ≤ 2147483648) :
    ∃ i k l m : Int, i ≤ l ∧ k ≤ m ∧ (∀ w, Calls Try.prog 20 #[.int .i64 x] w fun e w' => e = .returned (.tuple #[.int .i64 i, .int .i64 k, .int .i64 0]) ∧  w = w') ∧ (∀ w, Calls Try.prog 20 #[.int .i64 y] w fun e w' => e = .returned (.tuple #[.int .i64 l, .int .i64 m, .int .i64 0]) ∧  w = w') :=
  ⟨isq (x * 65536), usq (x * 65536), isq (y * 65536), usq (y * 65536), isq_mono (by omega) (by omega), usq_mono (by omega) (by omega), fun w => sqrt_any x w h1 (by omega), fun w => sqrt_any y w (by omega) h4⟩
end Go.Proofs.Ytjjllfaehipemaa
