/-
  Contracts of package fixed's 'floorRoot' and 'Sqrt'.
-/
import Derived.Test.YtdnndmpdlelliaaFix3
import Derived.Outline
import Derived.WalkMore
namespace Go.Proofs.Ytdnndmpdlelliaa
open Go.ChangeShapes Go.WideShapes Go.ChangeAt Go.RowKit

set_option maxRecDepth 100000 in
theorem root_any (n : Int) (w : World) (hn1 : 1 ≤ n) (hn2 : n < 281474976710656) :
    Calls Try.prog 123 #[.int .u64 n] w fun e w' => e = .returned (.int .u64 (isq n)) ∧ w = w' := by
  have hz : (n == 0) = false := by simp; omega
  have hs : isq n < 16777216 := isq_lt (by omega) (by omega) (by omega)
  go_enter Try.func123, Try.ntmps123
  go_wp2
  go_step3
  go_wp2
  go_step3
  go_wp2
  go_loop [3] (fun r => ∃ q : Int, r = .int .u64 q ∧ 1 ≤ q ∧ q ≤ 16777216 ∧ isq n ≤ q) (fun r => (intOf r).toNat)
  case atStart => exact ⟨_, rfl, by omega, by omega, by omega⟩
  case round =>
    obtain ⟨q, rfl, hq1, hq2, hq3⟩ := hrel
    have hdv : 0 ≤ n / q := Int.ediv_nonneg (by omega) (by omega)
    have hdv2 : n / q < 281474976710656 := by have := Int.ediv_le_self (a := n) q (by omega); omega
    have H := Lib.hid hq3
    clear hq3 hs hz
    by_cases hlt : (q + n / q) / 2 < q
    · go_wp2
      go_round
      case rel => exact ⟨_, rfl, by have := H.out; have := newton_ge (n := n) (r := q) (by omega) hq1; have := isq_pos hn1; omega, by omega, newton_ge (by omega) hq1⟩
      case measure => simp [intOf]; omega
    · go_wp2
      go_ret
      exact ⟨ret_int (newton_end (by omega) hq1 H.out (by omega)).symm, rfl⟩

theorem root_zero (w : World) :
    Calls Try.prog 123 #[.int .u64 0] w fun e w' => e = .returned (.int .u64 0) ∧ w = w' := by
  go_enter Try.func123, Try.ntmps123
  go_wp2
  go_step3
  go_wp2
  try rw [Exit.noGoto_ret]
  go_ret
  exact ⟨rfl, rfl⟩

theorem root_all (n : Int) (w : World) (hn1 : 0 ≤ n) (hn2 : n < 281474976710656) :
    Calls Try.prog 123 #[.int .u64 n] w fun e w' => e = .returned (.int .u64 (isq n)) ∧ w = w' := by
  by_cases h : n = 0
  · subst h
    exact root_zero w
  · exact root_any n w (by omega) hn2

theorem sqrt_neg (a : Int) (w : World) (h : a < 0) :
    Calls Try.prog 101 #[.int .i64 a] w fun e w' => e = .returned (.tuple #[.int .i64 0, .int .i64 0, .int .i64 4]) ∧ w = w' := by
  go_enter Try.func101, Try.ntmps101
  go_wp2
  go_ret3
  exact ⟨rfl, rfl⟩

/-- The square root rounded up. -/
def usq (n : Int) : Int := if isq n * isq n = n then isq n else isq n + 1

theorem sqrt_any (a : Int) (w : World) (h0 : 0 ≤ a) (h1 : a ≤ 2147483648) :
    Calls Try.prog 101 #[.int .i64 a] w fun e w' => e = .returned (.tuple #[.int .i64 (isq (a * 65536)), .int .i64 (usq (a * 65536)), .int .i64 0]) ∧ w = w' := by
  have hs : isq (a * 65536) < 16777216 := isq_lt (by omega) (by omega) (by omega)
  have hp := (isq_spec (n := a * 65536) (by omega)).1
  have hsq := sq_le hp (show isq (a * 65536) ≤ 16777216 by omega)
  have hsq0 := Int.mul_nonneg hp hp
  have hu : Hid (usq (a * 65536) = if isq (a * 65536) * isq (a * 65536) = a * 65536 then isq (a * 65536) else isq (a * 65536) + 1) := rfl
  have hr : ∀ w : World, Calls Try.prog 123 #[.int .u64 (a * 65536)] w fun e w' => e = .returned (.int .u64 (isq (a * 65536))) ∧ w = w' := fun w => root_all (a * 65536) w (by omega) (by omega)
  generalize usq (a * 65536) = u at *
  generalize isq (a * 65536) = s at *
  have hsq2 : s * s ≤ 281474976710656 := by omega
  clear hsq
  by_cases he : s * s = a * 65536
  · have hu' : Hid (u = s) := by rw [hu.out, if_pos he]; exact rfl
    have ht : (s * s == a * 65536) = true := by simpa using he
    clear hu he
    go_enter Try.func101, Try.ntmps101
    go_wp2_with (fail)
    refine (hr _).mono ?_
    rintro e w' ⟨rfl, rfl⟩
    go_wp2_with (fail)
    go_ret3
    exact ⟨by rw [hu'.out]; rfl, rfl⟩
  · have hu' : Hid (u = s + 1) := by rw [hu.out, if_neg he]; exact rfl
    have ht : (s * s == a * 65536) = false := by simpa using he
    clear hu he
    go_enter Try.func101, Try.ntmps101
    go_wp2_with (fail)
    refine (hr _).mono ?_
    rintro e w' ⟨rfl, rfl⟩
    go_wp2_with (fail)
    go_ret3
    exact ⟨by rw [hu'.out]; rfl, rfl⟩
end Go.Proofs.Ytdnndmpdlelliaa
