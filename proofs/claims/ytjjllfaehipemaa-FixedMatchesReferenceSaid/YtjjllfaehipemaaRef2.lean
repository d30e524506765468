/-
  Contracts of package armillaryref01's Mul, Div, MulRatio.
-/
import Derived.Test.YtjjllfaehipemaaRef1
namespace Go.Proofs.Ytjjllfaehipemaa
open Go.ChangeShapes Go.WideShapes Go.ChangeAt Go.RowKit

theorem rmul_any (a b : Int) (w : World) (h1 : -2147483648 ≤ a) (h2 : a ≤ 2147483648) (h3 : -2147483648 ≤ b) (h4 : b ≤ 2147483648) :
    Calls Try.prog 17 #[.int .i64 a, .int .i64 b] w fun e w' => e = .returned (.tuple #[.int .i64 (dn (a * b) 65536), .int .i64 (up (a * b) 65536)]) ∧ w = w' := by
  have hb := mul_bound a b 2147483648 2147483648 h1 h2 h3 h4
  have hm1 : -4611686018427387904 ≤ a * b := by omega
  have hm2 : a * b ≤ 4611686018427387904 := by omega
  clear hb
  go_enter Try.func17, Try.ntmps17
  go_wp2_with (fail)
  refine (down_any (a * b) 65536 _ hm1 hm2 (by decide)).mono ?_
  rintro e w' ⟨rfl, rfl⟩
  go_wp2_with (fail)
  refine (upward_any (a * b) 65536 _ hm1 hm2 (by decide)).mono ?_
  rintro e w' ⟨rfl, rfl⟩
  go_wp2_with (fail)
  go_ret2
  exact ⟨rfl, rfl⟩

theorem rdiv_zero (a : Int) (w : World) :
    Calls Try.prog 19 #[.int .i64 a, .int .i64 0] w fun e w' => e = .returned (.tuple #[.int .i64 0, .int .i64 0, .int .i64 3]) ∧ w = w' := by
  go_enter Try.func19, Try.ntmps19
  go_wp2
  go_ret3
  exact ⟨rfl, rfl⟩

theorem rdiv_any (a b : Int) (w : World) (h1 : -2147483648 ≤ a) (h2 : a ≤ 2147483648) (hb0 : (b == 0) = false) :
    Calls Try.prog 19 #[.int .i64 a, .int .i64 b] w fun e w' => e = .returned (.tuple #[.int .i64 (dn (a * 65536) b), .int .i64 (up (a * 65536) b), .int .i64 0]) ∧ w = w' := by
  have hb1 := Lib.hid (show ¬ b = 0 by simpa using hb0)
  go_enter Try.func19, Try.ntmps19
  go_wp2_with (fail)
  refine (down_any (a * 65536) b _ (by omega) (by omega) hb1.out).mono ?_
  rintro e w' ⟨rfl, rfl⟩
  go_wp2_with (fail)
  refine (upward_any (a * 65536) b _ (by omega) (by omega) hb1.out).mono ?_
  rintro e w' ⟨rfl, rfl⟩
  go_wp2_with (fail)
  go_ret3
  exact ⟨rfl, rfl⟩

theorem rratio_arg (a n d : Int) (w : World) (h : n < -1073741824 ∨ 1073741824 < n ∨ d < 1 ∨ 1073741824 < d) :
    Calls Try.prog 23 #[.int .i64 a, .int .i64 n, .int .i64 d] w fun e w' => e = .returned (.tuple #[.int .i64 0, .int .i64 0, .int .i64 1]) ∧ w = w' := by
  by_cases c1 : n < -1073741824
  · go_enter Try.func23, Try.ntmps23
    go_wp2
    go_ret3
    exact ⟨rfl, rfl⟩
  by_cases c2 : 1073741824 < n
  · go_enter Try.func23, Try.ntmps23
    go_wp2
    go_ret3
    exact ⟨rfl, rfl⟩
  by_cases c3 : d < 1
  · go_enter Try.func23, Try.ntmps23
    go_wp2
    go_ret3
    exact ⟨rfl, rfl⟩
  have c4 : 1073741824 < d := by omega
  clear h
  go_enter Try.func23, Try.ntmps23
  go_wp2
  go_ret3
  exact ⟨rfl, rfl⟩

theorem rratio_any (a n d : Int) (w : World) (h1 : -2147483648 ≤ a) (h2 : a ≤ 2147483648) (c1 : -1073741824 ≤ n) (c2 : n ≤ 1073741824) (c3 : 1 ≤ d) (c4 : d ≤ 1073741824) :
    Calls Try.prog 23 #[.int .i64 a, .int .i64 n, .int .i64 d] w fun e w' => e = .returned (.tuple #[.int .i64 (dn (a * n) d), .int .i64 (up (a * n) d), .int .i64 0]) ∧ w = w' := by
  have hb := mul_bound a n 2147483648 1073741824 h1 h2 c1 c2
  have hm1 : -4611686018427387904 ≤ a * n := by omega
  have hm2 : a * n ≤ 4611686018427387904 := by omega
  clear hb
  go_enter Try.func23, Try.ntmps23
  go_wp2_with (fail)
  refine (down_any (a * n) d _ hm1 hm2 (by omega)).mono ?_
  rintro e w' ⟨rfl, rfl⟩
  go_wp2_with (fail)
  refine (upward_any (a * n) d _ hm1 hm2 (by omega)).mono ?_
  rintro e w' ⟨rfl, rfl⟩
  go_wp2_with (fail)
  go_ret3
  exact ⟨rfl, rfl⟩
end Go.Proofs.Ytjjllfaehipemaa
