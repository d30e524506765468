/-
  The walk of the law FixedSymmetry.
-/
import Derived.Test.YtjjllfaehipemaaLawQ
namespace Go.Proofs.Ytjjllfaehipemaa
open Go.ChangeShapes Go.WideShapes Go.ChangeAt Go.RowKit

theorem ratio_self (a d : Int) (w : World) (h1 : -2147483648 ≤ a) (h2 : a ≤ 2147483648) (h3 : 1 ≤ d) (h4 : d ≤ 1073741824) :
    Calls Try.prog 22 #[.int .i64 a, .int .i64 d, .int .i64 d] w fun e w' => e = .returned (.tuple #[.int .i64 a, .int .i64 a, .int .i64 0]) ∧ Below w.heap.size w w' := by
  have h := ratio_any a d d w h1 h2 (by omega) (by omega) h3 h4
  rwa [dn_mul_self a (by omega), up_mul_self a (by omega)] at h
theorem ratio_minus (a d : Int) (w : World) (h1 : -2147483648 ≤ a) (h2 : a ≤ 2147483648) (h3 : 1 ≤ d) (h4 : d ≤ 1073741824) :
    Calls Try.prog 22 #[.int .i64 a, .int .i64 (-d), .int .i64 d] w fun e w' => e = .returned (.tuple #[.int .i64 (-a), .int .i64 (-a), .int .i64 0]) ∧ Below w.heap.size w w' := by
  have h := ratio_any a (-d) d w h1 h2 (by omega) (by omega) h3 h4
  have e : a * -d = -a * d := by rw [Int.mul_neg, Int.neg_mul]
  rwa [e, dn_mul_self (-a) (by omega), up_mul_self (-a) (by omega)] at h
theorem mul_one' (a : Int) (w : World) (h1 : -2147483648 ≤ a) (h2 : a ≤ 2147483648) :
    Calls Try.prog 16 #[.int .i64 a, .int .i64 65536] w fun e w' => e = .returned (.tuple #[.int .i64 a, .int .i64 a]) ∧ Below w.heap.size w w' := by
  have h := mul_any a 65536 w h1 h2 (by decide) (by decide)
  rwa [dn_mul_self a (by decide), up_mul_self a (by decide)] at h
theorem div_one' (a : Int) (w : World) (h1 : -2147483648 ≤ a) (h2 : a ≤ 2147483648) :
    Calls Try.prog 18 #[.int .i64 a, .int .i64 65536] w fun e w' => e = .returned (.tuple #[.int .i64 a, .int .i64 a, .int .i64 0]) ∧ Below w.heap.size w w' := by
  have h := div_any a 65536 w h1 h2 (by decide)
  rwa [dn_mul_self a (by decide), up_mul_self a (by decide)] at h

theorem dn_range (n d : Int) (h : ¬ d = 0) (B : Int) (h1 : -B ≤ n) (h2 : n ≤ B) : -B - 1 ≤ dn n d ∧ dn n d ≤ B + 1 ∧ -B - 1 ≤ up n d ∧ up n d ≤ B + 1 := by
  rcases Int.lt_or_gt_of_ne h with hd | hd
  · have a := dn_size (-n) (d := -d) (by omega) B (by omega) (by omega)
    have b := up_dn (-n) (d := -d) (by omega)
    rw [dn_flip, up_flip] at a b
    omega
  · have a := dn_size n hd B h1 h2
    have b := up_dn n hd
    omega

set_option maxRecDepth 100000 in
set_option maxHeartbeats 2000000 in
theorem symm_walk (x y n : Int) (w : World) :
    Calls Try.prog 10 #[.int .i64 x, .int .i64 y, .int .i64 n] w fun e w' => e = .returned (.bool true) ∧ Below w.heap.size w w' := by
  obtain ⟨a, ha1, ha2, hx⟩ := num_ex x
  obtain ⟨b, hb1, hb2, hy⟩ := num_ex y
  have tm1 := Int.lt_tmod_of_pos n (b := 1073741824) (by decide)
  have tm2 := Int.tmod_lt_of_pos n (b := 1073741824) (by decide)
  have hm1 := fun w => mul_any a b w (by omega) (by omega) (by omega) (by omega)
  have hm2 := fun w => mul_any (-a) b w (by omega) (by omega) (by omega) (by omega)
  have hm3 := fun w => mul_any b a w (by omega) (by omega) (by omega) (by omega)
  rw [Int.neg_mul, dn_neg, up_neg] at hm2
  rw [Int.mul_comm b a] at hm3
  have mb := mul_bound a b 2147483648 2147483648 (by omega) (by omega) (by omega) (by omega)
  have db := dn_size (a * b) (d := 65536) (by decide) 4611686018427387904 (by omega) (by omega)
  have ub := up_dn (a * b) (d := 65536) (by decide)
  clear mb
  generalize dn (a * b) 65536 = lo at *
  generalize up (a * b) 65536 = hi at *
  by_cases hb : b = 0
  · subst hb
    go_enter Try.func10, Try.ntmps10
    go_wp2_with (fail)
    refine (sanity_any _).mono ?_
    rintro e0 w0 ⟨rfl, hB⟩
    go_wp2_with (fail)
    refine (hx _).mono ?_
    rintro e1 w1 ⟨rfl, rfl⟩
    go_wp2_with (fail)
    refine (hy _).mono ?_
    rintro e2 w2 ⟨rfl, rfl⟩
    go_wp2_with (fail)
    generalize hd : 1 + n.tmod 1073741824 % 1073741824 = d
    have hd1 : 1 ≤ d := by omega
    have hd2 : d ≤ 1073741824 := by omega
    clear hd tm1 tm2
    refine (hm1 _).mono ?_
    rintro e3 w3 ⟨rfl, hq0⟩
    have B0 := below_then hB hq0
    clear hB hq0
    go_wp2_with (fail)
    refine (hm2 _).mono ?_
    rintro e4 w4 ⟨rfl, hq1⟩
    have B1 := below_then B0 hq1
    clear B0 hq1
    go_wp2_with (fail)
    refine (hm3 _).mono ?_
    rintro e5 w5 ⟨rfl, hq2⟩
    have B2 := below_then B1 hq2
    clear B1 hq2
    go_wp2_with (fail)
    refine (div_zero a _).mono ?_
    rintro e6 w6 ⟨rfl, rfl⟩
    go_wp2_with (fail)
    refine (div_zero (-a) _).mono ?_
    rintro e7 w7 ⟨rfl, rfl⟩
    go_wp2_with (fail)
    refine (mul_one' a _ (by omega) (by omega)).mono ?_
    rintro e8 w8 ⟨rfl, hq5⟩
    have B5 := below_then B2 hq5
    clear B2 hq5
    go_wp2_with (fail)
    refine (div_one' a _ (by omega) (by omega)).mono ?_
    rintro e9 w9 ⟨rfl, hq6⟩
    have B6 := below_then B5 hq6
    clear B5 hq6
    go_wp2_with (fail)
    refine (ratio_self a d _ (by omega) (by omega) hd1 hd2).mono ?_
    rintro e10 w10 ⟨rfl, hq7⟩
    have B7 := below_then B6 hq7
    clear B6 hq7
    go_wp2_with (fail)
    refine (ratio_minus a d _ (by omega) (by omega) hd1 hd2).mono ?_
    rintro e11 w11 ⟨rfl, hq8⟩
    have B8 := below_then B7 hq8
    clear B7 hq8
    go_wp2_with (fail)
    go_ret
    exact ⟨rfl, B8⟩
  · have hb0 : (b == 0) = false := by simpa using hb
    have hv1 := fun w => div_any a b w (by omega) (by omega) hb0
    have hv2 := fun w => div_any (-a) b w (by omega) (by omega) hb0
    rw [Int.neg_mul, dn_neg, up_neg] at hv2
    have vb := dn_range (a * 65536) b hb 140737488355328 (by omega) (by omega)
    clear hb
    generalize dn (a * 65536) b = h at *
    generalize up (a * 65536) b = i at *
    go_enter Try.func10, Try.ntmps10
    go_wp2_with (fail)
    refine (sanity_any _).mono ?_
    rintro e0 w0 ⟨rfl, hB⟩
    go_wp2_with (fail)
    refine (hx _).mono ?_
    rintro e1 w1 ⟨rfl, rfl⟩
    go_wp2_with (fail)
    refine (hy _).mono ?_
    rintro e2 w2 ⟨rfl, rfl⟩
    go_wp2_with (fail)
    generalize hd : 1 + n.tmod 1073741824 % 1073741824 = d
    have hd1 : 1 ≤ d := by omega
    have hd2 : d ≤ 1073741824 := by omega
    clear hd tm1 tm2
    refine (hm1 _).mono ?_
    rintro e3 w3 ⟨rfl, hq0⟩
    have B0 := below_then hB hq0
    clear hB hq0
    go_wp2_with (fail)
    refine (hm2 _).mono ?_
    rintro e4 w4 ⟨rfl, hq1⟩
    have B1 := below_then B0 hq1
    clear B0 hq1
    go_wp2_with (fail)
    refine (hm3 _).mono ?_
    rintro e5 w5 ⟨rfl, hq2⟩
    have B2 := below_then B1 hq2
    clear B1 hq2
    go_wp2_with (fail)
    refine (hv1 _).mono ?_
    rintro e6 w6 ⟨rfl, hq3⟩
    have B3 := below_then B2 hq3
    clear B2 hq3
    go_wp2_with (fail)
    refine (hv2 _).mono ?_
    rintro e7 w7 ⟨rfl, hq4⟩
    have B4 := below_then B3 hq4
    clear B3 hq4
    go_wp2_with (fail)
    refine (mul_one' a _ (by omega) (by omega)).mono ?_
    rintro e8 w8 ⟨rfl, hq5⟩
    have B5 := below_then B4 hq5
    clear B4 hq5
    go_wp2_with (fail)
    refine (div_one' a _ (by omega) (by omega)).mono ?_
    rintro e9 w9 ⟨rfl, hq6⟩
    have B6 := below_then B5 hq6
    clear B5 hq6
    go_wp2_with (fail)
    refine (ratio_self a d _ (by omega) (by omega) hd1 hd2).mono ?_
    rintro e10 w10 ⟨rfl, hq7⟩
    have B7 := below_then B6 hq7
    clear B6 hq7
    go_wp2_with (fail)
    refine (ratio_minus a d _ (by omega) (by omega) hd1 hd2).mono ?_
    rintro e11 w11 ⟨rfl, hq8⟩
    have B8 := below_then B7 hq8
    clear B7 hq8
    go_wp2_with (fail)
    go_ret
    exact ⟨rfl, B8⟩
end Go.Proofs.Ytjjllfaehipemaa
