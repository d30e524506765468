/-
  The walks of the law FixedMonotonicity, c zero.
-/
import Derived.Test.YtjjllfaehipemaaLawM0
namespace Go.Proofs.Ytjjllfaehipemaa
open Go.ChangeShapes Go.WideShapes Go.ChangeAt Go.RowKit
set_option linter.unusedVariables false

set_option maxRecDepth 100000 in
set_option maxHeartbeats 2000000 in
theorem mono_zero_0_0 (x1 y1 z1 a b z : Int) (w : World) (hx : ∀ w, Calls Try.prog 15 #[.int .i64 x1] w fun e w' => e = .returned (.int .i64 a) ∧ w = w') (hy : ∀ w, Calls Try.prog 15 #[.int .i64 y1] w fun e w' => e = .returned (.int .i64 b) ∧ w = w') (hz : ∀ w, Calls Try.prog 15 #[.int .i64 z1] w fun e w' => e = .returned (.int .i64 z) ∧ w = w')
    (ha1 : -2147483648 < a) (ha2 : a < 2147483648) (hb1 : -2147483648 < b) (hb2 : b < 2147483648) (hz1 : -2147483648 < z) (hz2 : z < 2147483648) (ho : a < b) (hsg : b < 0) (hsg2 : a < 0) (hz0 : z = 0) :
    Calls Try.prog 9 #[.int .i64 x1, .int .i64 y1, .int .i64 z1] w fun e w' => e = .returned (.bool true) ∧ Below w.heap.size w w' := by
  subst hz0
  obtain ⟨i, k, l, m, c1, c2, hm1, hm2⟩ := mul_le a b 0 (by omega) (by omega) (by omega) (by omega) (by omega) (by omega) (by omega) (by omega)
  obtain ⟨d, e, f, g, c7, c8, hs1, hs2⟩ := sqrt_le 0 0 (by omega) (by omega) (by omega)
  go_enter Try.func9, Try.ntmps9
  go_wp2_with (fail)
  refine (sanity_any _).mono ?_
  rintro e0 w0 ⟨rfl, hB⟩
  go_wp2_with (fail)
  refine (hx _).mono ?_
  rintro e1 w1 ⟨rfl, rfl⟩
  go_wp2_with (fail)
  refine (hy _).mono ?_
  rintro e1 w1 ⟨rfl, rfl⟩
  go_wp2_with (fail)
  refine (hx _).mono ?_
  rintro e1 w1 ⟨rfl, rfl⟩
  go_wp2_with (fail)
  refine (hy _).mono ?_
  rintro e1 w1 ⟨rfl, rfl⟩
  go_wp2_with (fail)
  refine (hz _).mono ?_
  rintro e1 w1 ⟨rfl, rfl⟩
  go_wp2_with (fail)
  refine (hm1 _).mono ?_
  rintro e1 w1 ⟨rfl, hhm1⟩
  have Bhm1 := below_then hB hhm1
  clear hB hhm1
  go_wp2_with (fail)
  refine (hm2 _).mono ?_
  rintro e1 w1 ⟨rfl, hhm2⟩
  have Bhm2 := below_then Bhm1 hhm2
  clear Bhm1 hhm2
  go_wp2_with (fail)
  refine (hs1 _).mono ?_
  rintro e1 w1 ⟨rfl, rfl⟩
  go_wp2_with (fail)
  refine (hs2 _).mono ?_
  rintro e1 w1 ⟨rfl, rfl⟩
  go_wp2_with (fail)
  go_ret
  exact ⟨rfl, Bhm2⟩

set_option maxRecDepth 100000 in
set_option maxHeartbeats 2000000 in
theorem mono_zero_0_1 (x1 y1 z1 a b z : Int) (w : World) (hx : ∀ w, Calls Try.prog 15 #[.int .i64 x1] w fun e w' => e = .returned (.int .i64 a) ∧ w = w') (hy : ∀ w, Calls Try.prog 15 #[.int .i64 y1] w fun e w' => e = .returned (.int .i64 b) ∧ w = w') (hz : ∀ w, Calls Try.prog 15 #[.int .i64 z1] w fun e w' => e = .returned (.int .i64 z) ∧ w = w')
    (ha1 : -2147483648 < a) (ha2 : a < 2147483648) (hb1 : -2147483648 < b) (hb2 : b < 2147483648) (hz1 : -2147483648 < z) (hz2 : z < 2147483648) (ho : b < a) (hsg : a < 0) (hsg2 : b < 0) (hz0 : z = 0) :
    Calls Try.prog 9 #[.int .i64 x1, .int .i64 y1, .int .i64 z1] w fun e w' => e = .returned (.bool true) ∧ Below w.heap.size w w' := by
  subst hz0
  obtain ⟨i, k, l, m, c1, c2, hm1, hm2⟩ := mul_le b a 0 (by omega) (by omega) (by omega) (by omega) (by omega) (by omega) (by omega) (by omega)
  obtain ⟨d, e, f, g, c7, c8, hs1, hs2⟩ := sqrt_le 0 0 (by omega) (by omega) (by omega)
  go_enter Try.func9, Try.ntmps9
  go_wp2_with (fail)
  refine (sanity_any _).mono ?_
  rintro e0 w0 ⟨rfl, hB⟩
  go_wp2_with (fail)
  refine (hx _).mono ?_
  rintro e1 w1 ⟨rfl, rfl⟩
  go_wp2_with (fail)
  refine (hy _).mono ?_
  rintro e1 w1 ⟨rfl, rfl⟩
  go_wp2_with (fail)
  refine (hx _).mono ?_
  rintro e1 w1 ⟨rfl, rfl⟩
  go_wp2_with (fail)
  refine (hy _).mono ?_
  rintro e1 w1 ⟨rfl, rfl⟩
  go_wp2_with (fail)
  refine (hz _).mono ?_
  rintro e1 w1 ⟨rfl, rfl⟩
  go_wp2_with (fail)
  refine (hm1 _).mono ?_
  rintro e1 w1 ⟨rfl, hhm1⟩
  have Bhm1 := below_then hB hhm1
  clear hB hhm1
  go_wp2_with (fail)
  refine (hm2 _).mono ?_
  rintro e1 w1 ⟨rfl, hhm2⟩
  have Bhm2 := below_then Bhm1 hhm2
  clear Bhm1 hhm2
  go_wp2_with (fail)
  refine (hs1 _).mono ?_
  rintro e1 w1 ⟨rfl, rfl⟩
  go_wp2_with (fail)
  refine (hs2 _).mono ?_
  rintro e1 w1 ⟨rfl, rfl⟩
  go_wp2_with (fail)
  go_ret
  exact ⟨rfl, Bhm2⟩

set_option maxRecDepth 100000 in
set_option maxHeartbeats 2000000 in
theorem mono_zero_0_2 (x1 y1 z1 a b z : Int) (w : World) (hx : ∀ w, Calls Try.prog 15 #[.int .i64 x1] w fun e w' => e = .returned (.int .i64 a) ∧ w = w') (hy : ∀ w, Calls Try.prog 15 #[.int .i64 y1] w fun e w' => e = .returned (.int .i64 b) ∧ w = w') (hz : ∀ w, Calls Try.prog 15 #[.int .i64 z1] w fun e w' => e = .returned (.int .i64 z) ∧ w = w')
    (ha1 : -2147483648 < a) (ha2 : a < 2147483648) (hb1 : -2147483648 < b) (hb2 : b < 2147483648) (hz1 : -2147483648 < z) (hz2 : z < 2147483648) (ho : b = a) (hsg : a < 0) (hsg2 : a < 0) (hz0 : z = 0) :
    Calls Try.prog 9 #[.int .i64 x1, .int .i64 y1, .int .i64 z1] w fun e w' => e = .returned (.bool true) ∧ Below w.heap.size w w' := by
  subst ho
  subst hz0
  obtain ⟨i, k, l, m, c1, c2, hm1, hm2⟩ := mul_le b b 0 (by omega) (by omega) (by omega) (by omega) (by omega) (by omega) (by omega) (by omega)
  obtain ⟨d, e, f, g, c7, c8, hs1, hs2⟩ := sqrt_le 0 0 (by omega) (by omega) (by omega)
  go_enter Try.func9, Try.ntmps9
  go_wp2_with (fail)
  refine (sanity_any _).mono ?_
  rintro e0 w0 ⟨rfl, hB⟩
  go_wp2_with (fail)
  refine (hx _).mono ?_
  rintro e1 w1 ⟨rfl, rfl⟩
  go_wp2_with (fail)
  refine (hy _).mono ?_
  rintro e1 w1 ⟨rfl, rfl⟩
  go_wp2_with (fail)
  refine (hx _).mono ?_
  rintro e1 w1 ⟨rfl, rfl⟩
  go_wp2_with (fail)
  refine (hy _).mono ?_
  rintro e1 w1 ⟨rfl, rfl⟩
  go_wp2_with (fail)
  refine (hz _).mono ?_
  rintro e1 w1 ⟨rfl, rfl⟩
  go_wp2_with (fail)
  refine (hm1 _).mono ?_
  rintro e1 w1 ⟨rfl, hhm1⟩
  have Bhm1 := below_then hB hhm1
  clear hB hhm1
  go_wp2_with (fail)
  refine (hm2 _).mono ?_
  rintro e1 w1 ⟨rfl, hhm2⟩
  have Bhm2 := below_then Bhm1 hhm2
  clear Bhm1 hhm2
  go_wp2_with (fail)
  refine (hs1 _).mono ?_
  rintro e1 w1 ⟨rfl, rfl⟩
  go_wp2_with (fail)
  refine (hs2 _).mono ?_
  rintro e1 w1 ⟨rfl, rfl⟩
  go_wp2_with (fail)
  go_ret
  exact ⟨rfl, Bhm2⟩

set_option maxRecDepth 100000 in
set_option maxHeartbeats 2000000 in
theorem mono_zero_1_0 (x1 y1 z1 a b z : Int) (w : World) (hx : ∀ w, Calls Try.prog 15 #[.int .i64 x1] w fun e w' => e = .returned (.int .i64 a) ∧ w = w') (hy : ∀ w, Calls Try.prog 15 #[.int .i64 y1] w fun e w' => e = .returned (.int .i64 b) ∧ w = w') (hz : ∀ w, Calls Try.prog 15 #[.int .i64 z1] w fun e w' => e = .returned (.int .i64 z) ∧ w = w')
    (ha1 : -2147483648 < a) (ha2 : a < 2147483648) (hb1 : -2147483648 < b) (hb2 : b < 2147483648) (hz1 : -2147483648 < z) (hz2 : z < 2147483648) (ho : a < b) (hsg : a < 0) (hsg2 : 0 ≤ b) (hz0 : z = 0) :
    Calls Try.prog 9 #[.int .i64 x1, .int .i64 y1, .int .i64 z1] w fun e w' => e = .returned (.bool true) ∧ Below w.heap.size w w' := by
  subst hz0
  obtain ⟨i, k, l, m, c1, c2, hm1, hm2⟩ := mul_le a b 0 (by omega) (by omega) (by omega) (by omega) (by omega) (by omega) (by omega) (by omega)
  obtain ⟨d, e, f, g, c7, c8, hs1, hs2⟩ := sqrt_le 0 b (by omega) (by omega) (by omega)
  go_enter Try.func9, Try.ntmps9
  go_wp2_with (fail)
  refine (sanity_any _).mono ?_
  rintro e0 w0 ⟨rfl, hB⟩
  go_wp2_with (fail)
  refine (hx _).mono ?_
  rintro e1 w1 ⟨rfl, rfl⟩
  go_wp2_with (fail)
  refine (hy _).mono ?_
  rintro e1 w1 ⟨rfl, rfl⟩
  go_wp2_with (fail)
  refine (hx _).mono ?_
  rintro e1 w1 ⟨rfl, rfl⟩
  go_wp2_with (fail)
  refine (hy _).mono ?_
  rintro e1 w1 ⟨rfl, rfl⟩
  go_wp2_with (fail)
  refine (hz _).mono ?_
  rintro e1 w1 ⟨rfl, rfl⟩
  go_wp2_with (fail)
  refine (hm1 _).mono ?_
  rintro e1 w1 ⟨rfl, hhm1⟩
  have Bhm1 := below_then hB hhm1
  clear hB hhm1
  go_wp2_with (fail)
  refine (hm2 _).mono ?_
  rintro e1 w1 ⟨rfl, hhm2⟩
  have Bhm2 := below_then Bhm1 hhm2
  clear Bhm1 hhm2
  go_wp2_with (fail)
  refine (hs1 _).mono ?_
  rintro e1 w1 ⟨rfl, rfl⟩
  go_wp2_with (fail)
  refine (hs2 _).mono ?_
  rintro e1 w1 ⟨rfl, rfl⟩
  go_wp2_with (fail)
  go_ret
  exact ⟨rfl, Bhm2⟩

set_option maxRecDepth 100000 in
set_option maxHeartbeats 2000000 in
theorem mono_zero_1_1 (x1 y1 z1 a b z : Int) (w : World) (hx : ∀ w, Calls Try.prog 15 #[.int .i64 x1] w fun e w' => e = .returned (.int .i64 a) ∧ w = w') (hy : ∀ w, Calls Try.prog 15 #[.int .i64 y1] w fun e w' => e = .returned (.int .i64 b) ∧ w = w') (hz : ∀ w, Calls Try.prog 15 #[.int .i64 z1] w fun e w' => e = .returned (.int .i64 z) ∧ w = w')
    (ha1 : -2147483648 < a) (ha2 : a < 2147483648) (hb1 : -2147483648 < b) (hb2 : b < 2147483648) (hz1 : -2147483648 < z) (hz2 : z < 2147483648) (ho : b < a) (hsg : b < 0) (hsg2 : 0 ≤ a) (hz0 : z = 0) :
    Calls Try.prog 9 #[.int .i64 x1, .int .i64 y1, .int .i64 z1] w fun e w' => e = .returned (.bool true) ∧ Below w.heap.size w w' := by
  subst hz0
  obtain ⟨i, k, l, m, c1, c2, hm1, hm2⟩ := mul_le b a 0 (by omega) (by omega) (by omega) (by omega) (by omega) (by omega) (by omega) (by omega)
  obtain ⟨d, e, f, g, c7, c8, hs1, hs2⟩ := sqrt_le 0 a (by omega) (by omega) (by omega)
  go_enter Try.func9, Try.ntmps9
  go_wp2_with (fail)
  refine (sanity_any _).mono ?_
  rintro e0 w0 ⟨rfl, hB⟩
  go_wp2_with (fail)
  refine (hx _).mono ?_
  rintro e1 w1 ⟨rfl, rfl⟩
  go_wp2_with (fail)
  refine (hy _).mono ?_
  rintro e1 w1 ⟨rfl, rfl⟩
  go_wp2_with (fail)
  refine (hx _).mono ?_
  rintro e1 w1 ⟨rfl, rfl⟩
  go_wp2_with (fail)
  refine (hy _).mono ?_
  rintro e1 w1 ⟨rfl, rfl⟩
  go_wp2_with (fail)
  refine (hz _).mono ?_
  rintro e1 w1 ⟨rfl, rfl⟩
  go_wp2_with (fail)
  refine (hm1 _).mono ?_
  rintro e1 w1 ⟨rfl, hhm1⟩
  have Bhm1 := below_then hB hhm1
  clear hB hhm1
  go_wp2_with (fail)
  refine (hm2 _).mono ?_
  rintro e1 w1 ⟨rfl, hhm2⟩
  have Bhm2 := below_then Bhm1 hhm2
  clear Bhm1 hhm2
  go_wp2_with (fail)
  refine (hs1 _).mono ?_
  rintro e1 w1 ⟨rfl, rfl⟩
  go_wp2_with (fail)
  refine (hs2 _).mono ?_
  rintro e1 w1 ⟨rfl, rfl⟩
  go_wp2_with (fail)
  go_ret
  exact ⟨rfl, Bhm2⟩

set_option maxRecDepth 100000 in
set_option maxHeartbeats 2000000 in
theorem mono_zero_2_0 (x1 y1 z1 a b z : Int) (w : World) (hx : ∀ w, Calls Try.prog 15 #[.int .i64 x1] w fun e w' => e = .returned (.int .i64 a) ∧ w = w') (hy : ∀ w, Calls Try.prog 15 #[.int .i64 y1] w fun e w' => e = .returned (.int .i64 b) ∧ w = w') (hz : ∀ w, Calls Try.prog 15 #[.int .i64 z1] w fun e w' => e = .returned (.int .i64 z) ∧ w = w')
    (ha1 : -2147483648 < a) (ha2 : a < 2147483648) (hb1 : -2147483648 < b) (hb2 : b < 2147483648) (hz1 : -2147483648 < z) (hz2 : z < 2147483648) (ho : a < b) (hsg : 0 ≤ a) (hsg2 : 0 ≤ b) (hz0 : z = 0) :
    Calls Try.prog 9 #[.int .i64 x1, .int .i64 y1, .int .i64 z1] w fun e w' => e = .returned (.bool true) ∧ Below w.heap.size w w' := by
  subst hz0
  obtain ⟨i, k, l, m, c1, c2, hm1, hm2⟩ := mul_le a b 0 (by omega) (by omega) (by omega) (by omega) (by omega) (by omega) (by omega) (by omega)
  obtain ⟨d, e, f, g, c7, c8, hs1, hs2⟩ := sqrt_le a b (by omega) (by omega) (by omega)
  go_enter Try.func9, Try.ntmps9
  go_wp2_with (fail)
  refine (sanity_any _).mono ?_
  rintro e0 w0 ⟨rfl, hB⟩
  go_wp2_with (fail)
  refine (hx _).mono ?_
  rintro e1 w1 ⟨rfl, rfl⟩
  go_wp2_with (fail)
  refine (hy _).mono ?_
  rintro e1 w1 ⟨rfl, rfl⟩
  go_wp2_with (fail)
  refine (hx _).mono ?_
  rintro e1 w1 ⟨rfl, rfl⟩
  go_wp2_with (fail)
  refine (hy _).mono ?_
  rintro e1 w1 ⟨rfl, rfl⟩
  go_wp2_with (fail)
  refine (hz _).mono ?_
  rintro e1 w1 ⟨rfl, rfl⟩
  go_wp2_with (fail)
  refine (hm1 _).mono ?_
  rintro e1 w1 ⟨rfl, hhm1⟩
  have Bhm1 := below_then hB hhm1
  clear hB hhm1
  go_wp2_with (fail)
  refine (hm2 _).mono ?_
  rintro e1 w1 ⟨rfl, hhm2⟩
  have Bhm2 := below_then Bhm1 hhm2
  clear Bhm1 hhm2
  go_wp2_with (fail)
  refine (hs1 _).mono ?_
  rintro e1 w1 ⟨rfl, rfl⟩
  go_wp2_with (fail)
  refine (hs2 _).mono ?_
  rintro e1 w1 ⟨rfl, rfl⟩
  go_wp2_with (fail)
  go_ret
  exact ⟨rfl, Bhm2⟩

set_option maxRecDepth 100000 in
set_option maxHeartbeats 2000000 in
theorem mono_zero_2_1 (x1 y1 z1 a b z : Int) (w : World) (hx : ∀ w, Calls Try.prog 15 #[.int .i64 x1] w fun e w' => e = .returned (.int .i64 a) ∧ w = w') (hy : ∀ w, Calls Try.prog 15 #[.int .i64 y1] w fun e w' => e = .returned (.int .i64 b) ∧ w = w') (hz : ∀ w, Calls Try.prog 15 #[.int .i64 z1] w fun e w' => e = .returned (.int .i64 z) ∧ w = w')
    (ha1 : -2147483648 < a) (ha2 : a < 2147483648) (hb1 : -2147483648 < b) (hb2 : b < 2147483648) (hz1 : -2147483648 < z) (hz2 : z < 2147483648) (ho : b < a) (hsg : 0 ≤ b) (hsg2 : 0 ≤ a) (hz0 : z = 0) :
    Calls Try.prog 9 #[.int .i64 x1, .int .i64 y1, .int .i64 z1] w fun e w' => e = .returned (.bool true) ∧ Below w.heap.size w w' := by
  subst hz0
  obtain ⟨i, k, l, m, c1, c2, hm1, hm2⟩ := mul_le b a 0 (by omega) (by omega) (by omega) (by omega) (by omega) (by omega) (by omega) (by omega)
  obtain ⟨d, e, f, g, c7, c8, hs1, hs2⟩ := sqrt_le b a (by omega) (by omega) (by omega)
  go_enter Try.func9, Try.ntmps9
  go_wp2_with (fail)
  refine (sanity_any _).mono ?_
  rintro e0 w0 ⟨rfl, hB⟩
  go_wp2_with (fail)
  refine (hx _).mono ?_
  rintro e1 w1 ⟨rfl, rfl⟩
  go_wp2_with (fail)
  refine (hy _).mono ?_
  rintro e1 w1 ⟨rfl, rfl⟩
  go_wp2_with (fail)
  refine (hx _).mono ?_
  rintro e1 w1 ⟨rfl, rfl⟩
  go_wp2_with (fail)
  refine (hy _).mono ?_
  rintro e1 w1 ⟨rfl, rfl⟩
  go_wp2_with (fail)
  refine (hz _).mono ?_
  rintro e1 w1 ⟨rfl, rfl⟩
  go_wp2_with (fail)
  refine (hm1 _).mono ?_
  rintro e1 w1 ⟨rfl, hhm1⟩
  have Bhm1 := below_then hB hhm1
  clear hB hhm1
  go_wp2_with (fail)
  refine (hm2 _).mono ?_
  rintro e1 w1 ⟨rfl, hhm2⟩
  have Bhm2 := below_then Bhm1 hhm2
  clear Bhm1 hhm2
  go_wp2_with (fail)
  refine (hs1 _).mono ?_
  rintro e1 w1 ⟨rfl, rfl⟩
  go_wp2_with (fail)
  refine (hs2 _).mono ?_
  rintro e1 w1 ⟨rfl, rfl⟩
  go_wp2_with (fail)
  go_ret
  exact ⟨rfl, Bhm2⟩

set_option maxRecDepth 100000 in
set_option maxHeartbeats 2000000 in
theorem mono_zero_2_2 (x1 y1 z1 a b z : Int) (w : World) (hx : ∀ w, Calls Try.prog 15 #[.int .i64 x1] w fun e w' => e = .returned (.int .i64 a) ∧ w = w') (hy : ∀ w, Calls Try.prog 15 #[.int .i64 y1] w fun e w' => e = .returned (.int .i64 b) ∧ w = w') (hz : ∀ w, Calls Try.prog 15 #[.int .i64 z1] w fun e w' => e = .returned (.int .i64 z) ∧ w = w')
    (ha1 : -2147483648 < a) (ha2 : a < 2147483648) (hb1 : -2147483648 < b) (hb2 : b < 2147483648) (hz1 : -2147483648 < z) (hz2 : z < 2147483648) (ho : b = a) (hsg : 0 ≤ a) (hsg2 : 0 ≤ a) (hz0 : z = 0) :
    Calls Try.prog 9 #[.int .i64 x1, .int .i64 y1, .int .i64 z1] w fun e w' => e = .returned (.bool true) ∧ Below w.heap.size w w' := by
  subst ho
  subst hz0
  obtain ⟨i, k, l, m, c1, c2, hm1, hm2⟩ := mul_le b b 0 (by omega) (by omega) (by omega) (by omega) (by omega) (by omega) (by omega) (by omega)
  obtain ⟨d, e, f, g, c7, c8, hs1, hs2⟩ := sqrt_le b b (by omega) (by omega) (by omega)
  go_enter Try.func9, Try.ntmps9
  go_wp2_with (fail)
  refine (sanity_any _).mono ?_
  rintro e0 w0 ⟨rfl, hB⟩
  go_wp2_with (fail)
  refine (hx _).mono ?_
  rintro e1 w1 ⟨rfl, rfl⟩
  go_wp2_with (fail)
  refine (hy _).mono ?_
  rintro e1 w1 ⟨rfl, rfl⟩
  go_wp2_with (fail)
  refine (hx _).mono ?_
  rintro e1 w1 ⟨rfl, rfl⟩
  go_wp2_with (fail)
  refine (hy _).mono ?_
  rintro e1 w1 ⟨rfl, rfl⟩
  go_wp2_with (fail)
  refine (hz _).mono ?_
  rintro e1 w1 ⟨rfl, rfl⟩
  go_wp2_with (fail)
  refine (hm1 _).mono ?_
  rintro e1 w1 ⟨rfl, hhm1⟩
  have Bhm1 := below_then hB hhm1
  clear hB hhm1
  go_wp2_with (fail)
  refine (hm2 _).mono ?_
  rintro e1 w1 ⟨rfl, hhm2⟩
  have Bhm2 := below_then Bhm1 hhm2
  clear Bhm1 hhm2
  go_wp2_with (fail)
  refine (hs1 _).mono ?_
  rintro e1 w1 ⟨rfl, rfl⟩
  go_wp2_with (fail)
  refine (hs2 _).mono ?_
  rintro e1 w1 ⟨rfl, rfl⟩
  go_wp2_with (fail)
  go_ret
  exact ⟨rfl, Bhm2⟩
end Go.Proofs.Ytjjllfaehipemaa
