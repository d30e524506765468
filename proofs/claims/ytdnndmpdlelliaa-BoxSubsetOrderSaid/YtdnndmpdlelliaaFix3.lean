/-
  Contracts of package fixed's 'bounds' at int64, of 'Valid', 'Mul', 'Div' and 'MulRatio'.
-/
import Derived.Test.YtdnndmpdlelliaaFix2
namespace Go.Proofs.Ytdnndmpdlelliaa
open Go.ChangeShapes Go.WideShapes Go.ChangeAt Go.RowKit

theorem bounds_any (n d : Int) (w : World)
    (hn1 : -4611686018427387904 ≤ n) (hn2 : n ≤ 4611686018427387904) (hd : ¬ d = 0)  :
    Calls Try.prog 124 #[.int .i64 n, .int .i64 d] w fun e w' => e = .returned (.tuple #[.int .i64 (dn n d), .int .i64 (up n d)]) ∧ Below w.heap.size w w' := by
  go_enter Try.func124, Try.ntmps124
  go_wp2_with (fail)
  refine (toward_any (-1) _).mono ?_
  rintro e w' ⟨rfl, rfl⟩
  go_wp2_with (fail)
  refine (div_dn n d _ _ (by go_cell) hn1 hn2 hd).mono ?_
  rintro e w' ⟨rfl, k, rfl⟩
  go_wp2_with (fail)
  refine (toward_any 1 _).mono ?_
  rintro e w' ⟨rfl, rfl⟩
  go_wp2_with (fail)
  refine (div_up n d _ _ (by go_cell) hn1 hn2 hd).mono ?_
  rintro e w' ⟨rfl, k, rfl⟩
  go_wp2_with (fail)
  go_ret2
  exact ⟨rfl, below_drewN (Below.alloc (below_drewN (Below.alloc (Below.refl _ _) (Nat.le_refl _) _) _) (by go_size) _) _⟩

theorem valid_any (x : Int) (w : World) :
    Calls Try.prog 122 #[.int .i64 x] w fun e w' => e = .returned (.bool (decide (-2147483648 < x) && decide (x < 2147483648))) ∧ w = w' := by
  by_cases h : -2147483648 < x
  all_goals
    go_enter Try.func122, Try.ntmps122
    go_wp2
    go_ret
    first | (simp [h]; done) | (simp; omega)

theorem mul_any (a b : Int) (w : World) (h1 : -2147483648 ≤ a) (h2 : a ≤ 2147483648) (h3 : -2147483648 ≤ b) (h4 : b ≤ 2147483648) :
    Calls Try.prog 107 #[.int .i64 a, .int .i64 b] w fun e w' => e = .returned (.tuple #[.int .i64 (dn (a * b) 65536), .int .i64 (up (a * b) 65536)]) ∧ Below w.heap.size w w' := by
  have hb := mul_bound a b 2147483648 2147483648 h1 h2 h3 h4
  have hm1 : -4611686018427387904 ≤ a * b := by omega
  have hm2 : a * b ≤ 4611686018427387904 := by omega
  clear hb
  go_enter Try.func107, Try.ntmps107
  go_wp2_with (fail)
  refine (bounds_any (a * b) 65536 _ (by omega) (by omega) (by decide)).mono ?_
  rintro e w' ⟨rfl, hb⟩
  go_wp2_with (fail)
  go_ret2
  exact ⟨rfl, hb⟩

theorem div_zero (a : Int) (w : World) :
    Calls Try.prog 109 #[.int .i64 a, .int .i64 0] w fun e w' => e = .returned (.tuple #[.int .i64 0, .int .i64 0, .int .i64 3]) ∧ w = w' := by
  go_enter Try.func109, Try.ntmps109
  go_wp2
  go_ret3
  exact ⟨rfl, rfl⟩

theorem div_any (a b : Int) (w : World) (h1 : -2147483648 ≤ a) (h2 : a ≤ 2147483648) (hb0 : (b == 0) = false) :
    Calls Try.prog 109 #[.int .i64 a, .int .i64 b] w fun e w' => e = .returned (.tuple #[.int .i64 (dn (a * 65536) b), .int .i64 (up (a * 65536) b), .int .i64 0]) ∧ Below w.heap.size w w' := by
  go_enter Try.func109, Try.ntmps109
  go_wp2_with (fail)
  refine (bounds_any (a * 65536) b _ (by omega) (by omega) (by simpa using hb0)).mono ?_
  rintro e w' ⟨rfl, hb⟩
  go_wp2_with (fail)
  go_ret3
  exact ⟨rfl, hb⟩

theorem ratio_arg (a n d : Int) (w : World) (h : n < -1073741824 ∨ 1073741824 < n ∨ d < 1 ∨ 1073741824 < d) :
    Calls Try.prog 103 #[.int .i64 a, .int .i64 n, .int .i64 d] w fun e w' => e = .returned (.tuple #[.int .i64 0, .int .i64 0, .int .i64 1]) ∧ w = w' := by
  by_cases c1 : n < -1073741824
  · go_enter Try.func103, Try.ntmps103
    go_wp2
    go_ret3
    exact ⟨rfl, rfl⟩
  by_cases c2 : 1073741824 < n
  · go_enter Try.func103, Try.ntmps103
    go_wp2
    go_ret3
    exact ⟨rfl, rfl⟩
  by_cases c3 : d < 1
  · go_enter Try.func103, Try.ntmps103
    go_wp2
    go_ret3
    exact ⟨rfl, rfl⟩
  have c4 : 1073741824 < d := by omega
  clear h
  go_enter Try.func103, Try.ntmps103
  go_wp2
  go_ret3
  exact ⟨rfl, rfl⟩

theorem ratio_any (a n d : Int) (w : World) (h1 : -2147483648 ≤ a) (h2 : a ≤ 2147483648) (c1 : -1073741824 ≤ n) (c2 : n ≤ 1073741824) (c3 : 1 ≤ d) (c4 : d ≤ 1073741824) :
    Calls Try.prog 103 #[.int .i64 a, .int .i64 n, .int .i64 d] w fun e w' => e = .returned (.tuple #[.int .i64 (dn (a * n) d), .int .i64 (up (a * n) d), .int .i64 0]) ∧ Below w.heap.size w w' := by
  have hb := mul_bound a n 2147483648 1073741824 h1 h2 c1 c2
  have hm1 : -4611686018427387904 ≤ a * n := by omega
  have hm2 : a * n ≤ 4611686018427387904 := by omega
  clear hb
  go_enter Try.func103, Try.ntmps103
  go_wp2_with (fail)
  refine (bounds_any (a * n) d _ (by omega) (by omega) (by omega)).mono ?_
  rintro e w' ⟨rfl, hb⟩
  go_wp2_with (fail)
  go_ret3
  exact ⟨rfl, hb⟩
end Go.Proofs.Ytdnndmpdlelliaa
