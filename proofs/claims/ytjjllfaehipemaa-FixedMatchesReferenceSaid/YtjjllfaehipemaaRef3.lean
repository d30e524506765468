/-
  The contract of package armillaryref01's Sqrt.
-/
import Derived.Test.YtjjllfaehipemaaRef2
namespace Go.Proofs.Ytjjllfaehipemaa
open Go.ChangeShapes Go.WideShapes Go.ChangeAt Go.RowKit

theorem rsqrt_neg (a : Int) (w : World) (h : a < 0) :
    Calls Try.prog 21 #[.int .i64 a] w fun e w' => e = .returned (.tuple #[.int .i64 0, .int .i64 0, .int .i64 4]) ∧ w = w' := by
  go_enter Try.func21, Try.ntmps21
  go_wp2
  go_ret3
  exact ⟨rfl, rfl⟩

theorem sq_step {n m : Int} (h : 0 ≤ n) (h0 : 0 ≤ m) (hc : ¬ m * m ≤ n) : isq n ≤ m - 1 := by
  have := isq_lt h (q := m) (by omega) h0
  omega

set_option maxHeartbeats 1000000 in
theorem rsqrt_any (a : Int) (w : World) (h0 : 0 ≤ a) (h1 : a ≤ 2147483648) :
    Calls Try.prog 21 #[.int .i64 a] w fun e w' => e = .returned (.tuple #[.int .i64 (isq (a * 65536)), .int .i64 (usq (a * 65536)), .int .i64 0]) ∧ w = w' := by
  have hs : isq (a * 65536) ≤ 16777216 := by have := isq_lt (n := a * 65536) (q := 16777216) (by omega) (by omega) (by omega); omega
  have hs0 := (isq_spec (n := a * 65536) (by omega)).1
  have hle := Lib.hid (isq_spec (n := a * 65536) (by omega)).2.1
  have hstep : ∀ m, 0 ≤ m → ¬ m * m ≤ a * 65536 → isq (a * 65536) ≤ m - 1 := fun m hm hc => sq_step (by omega) hm hc
  have hle2 : ∀ m, m * m ≤ a * 65536 → m ≤ isq (a * 65536) := fun m hm => le_isq (by omega) hm
  have hu : Hid (usq (a * 65536) = if isq (a * 65536) * isq (a * 65536) = a * 65536 then isq (a * 65536) else isq (a * 65536) + 1) := rfl
  generalize usq (a * 65536) = u at *
  generalize isq (a * 65536) = s at *
  have H1 := Lib.hid hstep
  have H2 := Lib.hid hle2
  clear hstep hle2
  go_enter Try.func21, Try.ntmps21
  go_wp2
  go_loop [6, 7] (fun l h => ∃ lo hi : Int, l = .int .i64 lo ∧ h = .int .i64 hi ∧ 0 ≤ lo ∧ lo ≤ s ∧ s ≤ hi ∧ hi ≤ 16777216) (fun l h => (intOf h - intOf l).toNat)
  case atStart => exact ⟨_, _, rfl, rfl, by omega, by omega, by omega, by omega⟩
  case round =>
    obtain ⟨lo, hi, rfl, rfl, r1, r2, r3, r4⟩ := hrel
    by_cases hlt : lo < hi
    · have m0 : 0 ≤ (lo + hi + 1) / 2 := by omega
      have m1 : (lo + hi + 1) / 2 ≤ 16777216 := by omega
      have mm := sq_le m0 m1
      have mm0 := Int.mul_nonneg m0 m0
      by_cases hc : (lo + hi + 1) / 2 * ((lo + hi + 1) / 2) ≤ a * 65536
      · go_wp2
        go_round
        case rel => exact ⟨_, _, rfl, rfl, by omega, H2.out _ hc, r3, r4⟩
        case measure => simp [intOf]; omega
      · have H3 := Lib.hid (H1.out _ m0 (by omega))
        go_wp2
        go_round
        case rel => exact ⟨_, _, rfl, rfl, r1, r2, H3.out, by omega⟩
        case measure => simp [intOf]; omega
    · obtain rfl : lo = s := by omega
      obtain rfl : hi = lo := by omega
      have hsq := sq_le r1 r4
      have hsq0 := Int.mul_nonneg r1 r1
      have hle' := hle.out
      by_cases he : hi * hi = a * 65536
      · have hu' : Hid (u = hi) := by rw [hu.out, if_pos he]; exact rfl
        have hnl : ¬ hi * hi < a * 65536 := by omega
        clear hu he
        go_wp2
        go_ret3
        exact ⟨by rw [hu'.out]; rfl, rfl⟩
      · have hu' : Hid (u = hi + 1) := by rw [hu.out, if_neg he]; exact rfl
        have hnl : hi * hi < a * 65536 := by omega
        clear hu he
        go_wp2
        go_ret3
        exact ⟨by rw [hu'.out]; rfl, rfl⟩
end Go.Proofs.Ytjjllfaehipemaa
