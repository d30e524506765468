/-
  Contracts of package armillaryref02: functions of one interval or two that call nothing.
-/
import Derived.Test.YtdnndmpdlelliaaIv1
namespace Go.Proofs.Ytdnndmpdlelliaa
open Go.ChangeShapes Go.WideShapes Go.ChangeAt Go.RowKit
set_option linter.unusedVariables false

theorem r2neg (a b : Int) (w : World) (ha1 : -2147483648 ≤ a) (ha2 : a ≤ 2147483648) (hb1 : -2147483648 ≤ b) (hb2 : b ≤ 2147483648) :
    Calls Try.prog 53 #[.agg #[.int .i64 a, .int .i64 b]] w fun e w' => e = .returned (.agg #[.int .i64 (-b), .int .i64 (-a)]) ∧ Below w.heap.size w w' := by
  go_enter Try.func53, Try.ntmps53
  go_wp2_with (fail)
  refine bodyPost_ret (v := .agg #[.int .i64 (-b), .int .i64 (-a)]) (by simp [results, Try.results53, go_sem]) rfl ⟨rfl, ?_⟩
  go_grown

theorem r2width (a b : Int) (w : World) (ha1 : -2147483648 ≤ a) (ha2 : a ≤ 2147483648) (hb1 : -2147483648 ≤ b) (hb2 : b ≤ 2147483648) :
    Calls Try.prog 35 #[.agg #[.int .i64 a, .int .i64 b]] w fun e w' => e = .returned (.int .i64 (b - a)) ∧ Below w.heap.size w w' := by
  go_enter Try.func35, Try.ntmps35
  go_wp2_with (fail)
  go_ret
  refine ⟨rfl, ?_⟩
  go_grown

theorem r2subset_0 (a b c d : Int) (w : World) (h1 : c ≤ a) (h2 : decide (b ≤ d) = true) :
    Calls Try.prog 31 #[.agg #[.int .i64 a, .int .i64 b], .agg #[.int .i64 c, .int .i64 d]] w fun e w' => e = .returned (.bool true) ∧ Below w.heap.size w w' := by
  go_enter Try.func31, Try.ntmps31
  go_wp2_with (fail)
  go_ret
  refine ⟨by first | rfl | (simp; omega), ?_⟩
  go_grown

theorem r2subset_1 (a b c d : Int) (w : World) (h1 : c ≤ a) (h2 : decide (b ≤ d) = false) :
    Calls Try.prog 31 #[.agg #[.int .i64 a, .int .i64 b], .agg #[.int .i64 c, .int .i64 d]] w fun e w' => e = .returned (.bool false) ∧ Below w.heap.size w w' := by
  go_enter Try.func31, Try.ntmps31
  go_wp2_with (fail)
  go_ret
  refine ⟨by first | rfl | (simp; omega), ?_⟩
  go_grown

theorem r2subset_2 (a b c d : Int) (w : World) (h1 : a < c) :
    Calls Try.prog 31 #[.agg #[.int .i64 a, .int .i64 b], .agg #[.int .i64 c, .int .i64 d]] w fun e w' => e = .returned (.bool false) ∧ Below w.heap.size w w' := by
  go_enter Try.func31, Try.ntmps31
  go_wp2_with (fail)
  go_ret
  refine ⟨by first | rfl | (simp; omega), ?_⟩
  go_grown

theorem r2same_0 (a b c d : Int) (w : World) (h1 : (a == c) = true) (h2 : (b == d) = true) :
    Calls Try.prog 25 #[.agg #[.int .i64 a, .int .i64 b], .agg #[.int .i64 c, .int .i64 d]] w fun e w' => e = .returned (.bool true) ∧ Below w.heap.size w w' := by
  go_enter Try.func25, Try.ntmps25
  go_wp2_with (fail)
  go_ret
  refine ⟨by first | rfl | (simp; omega), ?_⟩
  go_grown

theorem r2same_1 (a b c d : Int) (w : World) (h1 : (a == c) = true) (h2 : (b == d) = false) :
    Calls Try.prog 25 #[.agg #[.int .i64 a, .int .i64 b], .agg #[.int .i64 c, .int .i64 d]] w fun e w' => e = .returned (.bool false) ∧ Below w.heap.size w w' := by
  go_enter Try.func25, Try.ntmps25
  go_wp2_with (fail)
  go_ret
  refine ⟨by first | rfl | (simp; omega), ?_⟩
  go_grown

theorem r2same_2 (a b c d : Int) (w : World) (h1 : (a == c) = false) :
    Calls Try.prog 25 #[.agg #[.int .i64 a, .int .i64 b], .agg #[.int .i64 c, .int .i64 d]] w fun e w' => e = .returned (.bool false) ∧ Below w.heap.size w w' := by
  go_enter Try.func25, Try.ntmps25
  go_wp2_with (fail)
  go_ret
  refine ⟨by first | rfl | (simp; omega), ?_⟩
  go_grown

theorem r2hull_00 (a b c d : Int) (w : World) (h1 : a < c) (h2 : b < d) :
    Calls Try.prog 29 #[.agg #[.int .i64 a, .int .i64 b], .agg #[.int .i64 c, .int .i64 d]] w fun e w' => e = .returned (.agg #[.int .i64 a, .int .i64 d]) ∧ Below w.heap.size w w' := by
  go_enter Try.func29, Try.ntmps29
  go_wp2_with (fail)
  refine bodyPost_ret (v := .agg #[.int .i64 a, .int .i64 d]) (by simp [results, Try.results29, go_sem]) rfl ⟨rfl, ?_⟩
  go_grown

theorem r2hull_01 (a b c d : Int) (w : World) (h1 : a < c) (h2 : b = d) :
    Calls Try.prog 29 #[.agg #[.int .i64 a, .int .i64 b], .agg #[.int .i64 c, .int .i64 d]] w fun e w' => e = .returned (.agg #[.int .i64 a, .int .i64 b]) ∧ Below w.heap.size w w' := by
  subst h2
  go_enter Try.func29, Try.ntmps29
  go_wp2_with (fail)
  refine bodyPost_ret (v := .agg #[.int .i64 a, .int .i64 b]) (by simp [results, Try.results29, go_sem]) rfl ⟨rfl, ?_⟩
  go_grown

theorem r2hull_02 (a b c d : Int) (w : World) (h1 : a < c) (h2 : d < b) :
    Calls Try.prog 29 #[.agg #[.int .i64 a, .int .i64 b], .agg #[.int .i64 c, .int .i64 d]] w fun e w' => e = .returned (.agg #[.int .i64 a, .int .i64 b]) ∧ Below w.heap.size w w' := by
  go_enter Try.func29, Try.ntmps29
  go_wp2_with (fail)
  refine bodyPost_ret (v := .agg #[.int .i64 a, .int .i64 b]) (by simp [results, Try.results29, go_sem]) rfl ⟨rfl, ?_⟩
  go_grown

theorem r2hull_10 (a b c d : Int) (w : World) (h1 : a = c) (h2 : b < d) :
    Calls Try.prog 29 #[.agg #[.int .i64 a, .int .i64 b], .agg #[.int .i64 c, .int .i64 d]] w fun e w' => e = .returned (.agg #[.int .i64 a, .int .i64 d]) ∧ Below w.heap.size w w' := by
  subst h1
  go_enter Try.func29, Try.ntmps29
  go_wp2_with (fail)
  refine bodyPost_ret (v := .agg #[.int .i64 a, .int .i64 d]) (by simp [results, Try.results29, go_sem]) rfl ⟨rfl, ?_⟩
  go_grown

theorem r2hull_11 (a b c d : Int) (w : World) (h1 : a = c) (h2 : b = d) :
    Calls Try.prog 29 #[.agg #[.int .i64 a, .int .i64 b], .agg #[.int .i64 c, .int .i64 d]] w fun e w' => e = .returned (.agg #[.int .i64 a, .int .i64 b]) ∧ Below w.heap.size w w' := by
  subst h1
  subst h2
  go_enter Try.func29, Try.ntmps29
  go_wp2_with (fail)
  refine bodyPost_ret (v := .agg #[.int .i64 a, .int .i64 b]) (by simp [results, Try.results29, go_sem]) rfl ⟨rfl, ?_⟩
  go_grown

theorem r2hull_12 (a b c d : Int) (w : World) (h1 : a = c) (h2 : d < b) :
    Calls Try.prog 29 #[.agg #[.int .i64 a, .int .i64 b], .agg #[.int .i64 c, .int .i64 d]] w fun e w' => e = .returned (.agg #[.int .i64 a, .int .i64 b]) ∧ Below w.heap.size w w' := by
  subst h1
  go_enter Try.func29, Try.ntmps29
  go_wp2_with (fail)
  refine bodyPost_ret (v := .agg #[.int .i64 a, .int .i64 b]) (by simp [results, Try.results29, go_sem]) rfl ⟨rfl, ?_⟩
  go_grown

theorem r2hull_20 (a b c d : Int) (w : World) (h1 : c < a) (h2 : b < d) :
    Calls Try.prog 29 #[.agg #[.int .i64 a, .int .i64 b], .agg #[.int .i64 c, .int .i64 d]] w fun e w' => e = .returned (.agg #[.int .i64 c, .int .i64 d]) ∧ Below w.heap.size w w' := by
  go_enter Try.func29, Try.ntmps29
  go_wp2_with (fail)
  refine bodyPost_ret (v := .agg #[.int .i64 c, .int .i64 d]) (by simp [results, Try.results29, go_sem]) rfl ⟨rfl, ?_⟩
  go_grown

theorem r2hull_21 (a b c d : Int) (w : World) (h1 : c < a) (h2 : b = d) :
    Calls Try.prog 29 #[.agg #[.int .i64 a, .int .i64 b], .agg #[.int .i64 c, .int .i64 d]] w fun e w' => e = .returned (.agg #[.int .i64 c, .int .i64 b]) ∧ Below w.heap.size w w' := by
  subst h2
  go_enter Try.func29, Try.ntmps29
  go_wp2_with (fail)
  refine bodyPost_ret (v := .agg #[.int .i64 c, .int .i64 b]) (by simp [results, Try.results29, go_sem]) rfl ⟨rfl, ?_⟩
  go_grown

theorem r2hull_22 (a b c d : Int) (w : World) (h1 : c < a) (h2 : d < b) :
    Calls Try.prog 29 #[.agg #[.int .i64 a, .int .i64 b], .agg #[.int .i64 c, .int .i64 d]] w fun e w' => e = .returned (.agg #[.int .i64 c, .int .i64 b]) ∧ Below w.heap.size w w' := by
  go_enter Try.func29, Try.ntmps29
  go_wp2_with (fail)
  refine bodyPost_ret (v := .agg #[.int .i64 c, .int .i64 b]) (by simp [results, Try.results29, go_sem]) rfl ⟨rfl, ?_⟩
  go_grown

theorem r2hull (a b c d : Int) (w : World) :
    Calls Try.prog 29 #[.agg #[.int .i64 a, .int .i64 b], .agg #[.int .i64 c, .int .i64 d]] w fun e w' => e = .returned (.agg #[.int .i64 (min a c), .int .i64 (max b d)]) ∧ Below w.heap.size w w' := by
  rcases Int.lt_trichotomy a c with h1 | h1 | h1 <;> rcases Int.lt_trichotomy b d with h2 | h2 | h2
  · have e1 : min a c = a := by omega
    have e2 : max b d = d := by omega
    rw [e1, e2]
    exact r2hull_00 a b c d w (by omega) (by omega)
  · have e1 : min a c = a := by omega
    have e2 : max b d = b := by omega
    rw [e1, e2]
    exact r2hull_01 a b c d w (by omega) (by omega)
  · have e1 : min a c = a := by omega
    have e2 : max b d = b := by omega
    rw [e1, e2]
    exact r2hull_02 a b c d w (by omega) (by omega)
  · have e1 : min a c = a := by omega
    have e2 : max b d = d := by omega
    rw [e1, e2]
    exact r2hull_10 a b c d w (by omega) (by omega)
  · have e1 : min a c = a := by omega
    have e2 : max b d = b := by omega
    rw [e1, e2]
    exact r2hull_11 a b c d w (by omega) (by omega)
  · have e1 : min a c = a := by omega
    have e2 : max b d = b := by omega
    rw [e1, e2]
    exact r2hull_12 a b c d w (by omega) (by omega)
  · have e1 : min a c = c := by omega
    have e2 : max b d = d := by omega
    rw [e1, e2]
    exact r2hull_20 a b c d w (by omega) (by omega)
  · have e1 : min a c = c := by omega
    have e2 : max b d = b := by omega
    rw [e1, e2]
    exact r2hull_21 a b c d w (by omega) (by omega)
  · have e1 : min a c = c := by omega
    have e2 : max b d = b := by omega
    rw [e1, e2]
    exact r2hull_22 a b c d w (by omega) (by omega)
end Go.Proofs.Ytdnndmpdlelliaa
