/-
  The walk of the law FixedRoots.
-/
import Derived.Test.YtjjllfaehipemaaLawQ
import Derived.Test.YtjjllfaehipemaaRef2
namespace Go.Proofs.Ytjjllfaehipemaa
open Go.ChangeShapes Go.WideShapes Go.ChangeAt Go.RowKit

/-- The two roots of n: what the law asks of them. -/
theorem roots_of (n : Int) (h0 : 0 ≤ n) (h1 : n < 281474976710656) :
    ∃ lo hi : Int, lo = isq n ∧ hi = usq n ∧ 0 ≤ lo ∧ lo ≤ hi ∧ hi - lo ≤ 1 ∧ hi ≤ 16777216 ∧ lo * lo ≤ n ∧ n ≤ hi * hi ∧ 0 ≤ lo * lo ∧ hi * hi ≤ 281474976710656 ∧
      (((lo == hi) = true ∧ (lo * lo == n) = true) ∨ ((lo == hi) = false ∧ (lo * lo == n) = false)) := by
  have a := isq_spec h0
  have b : isq n < 16777216 := isq_lt h0 (by omega) (by omega)
  have nn := Int.mul_nonneg a.1 a.1
  by_cases he : isq n * isq n = n
  · have e : usq n = isq n := by unfold usq; rw [if_pos he]
    exact ⟨isq n, usq n, rfl, rfl, a.1, by omega, by omega, by omega, a.2.1, by rw [e]; omega, nn, by rw [e]; omega, .inl ⟨by simp [e], by simpa using he⟩⟩
  · have e : usq n = isq n + 1 := by unfold usq; rw [if_neg he]
    have hs := sq_le (a := isq n + 1) (b := 16777216) (by omega) (by omega)
    exact ⟨isq n, usq n, rfl, rfl, a.1, by omega, by omega, by omega, a.2.1, by rw [e]; omega, nn, by rw [e]; omega, .inr ⟨by rw [e]; simp; omega, by simpa using he⟩⟩

/-- The roots of the rounded square of k. -/
theorem near_of (k : Int) (h0 : 0 ≤ k) (h1 : k ≤ 11585236) :
    ∃ sq below above : Int, sq = dn (k * k) 65536 ∧ below = isq (sq * 65536) ∧ above = usq (sq * 65536) ∧ 0 ≤ sq ∧ sq ≤ 2147483647 ∧ 0 ≤ k * k ∧ k * k ≤ 134217693183696 ∧ below ≤ k ∧ (k ≤ above ∨ (above < k ∧ sq * 65536 < k * k)) := by
  have nn := Int.mul_nonneg h0 h0
  have hs := sq_le h0 h1
  have d := dn_mul (k * k) (d := 65536) (by decide)
  have dp := dn_pos (k * k) (d := 65536) (by decide)
  refine ⟨_, _, _, rfl, rfl, rfl, by omega, by omega, nn, by omega, ?_, ?_⟩
  · have a := isq_spec (n := dn (k * k) 65536 * 65536) (by omega)
    have := sq_lt (a := isq (dn (k * k) 65536 * 65536)) (b := k + 1) (by simp only [Int.add_mul, Int.mul_add]; omega) (by omega)
    omega
  · by_cases he : dn (k * k) 65536 * 65536 = k * k
    · refine .inl ?_
      rw [he]
      have e : isq (k * k) = k := isq_is h0 (by omega) (by simp only [Int.add_mul, Int.mul_add]; omega)
      unfold usq
      rw [e]
      split <;> omega
    · by_cases hk : k ≤ usq (dn (k * k) 65536 * 65536)
      · exact .inl hk
      · exact .inr ⟨by omega, by omega⟩

set_option maxRecDepth 100000 in
set_option maxHeartbeats 2000000 in
theorem roots_walk (x : Int) (w : World) :
    Calls Try.prog 7 #[.int .i64 x] w fun e w' => e = .returned (.bool true) ∧ Below w.heap.size w w' := by
  obtain ⟨a, ha1, ha2, hx⟩ := num_ex x
  by_cases hneg : a < 0
  · go_enter Try.func7, Try.ntmps7
    go_wp2_with (fail)
    refine (sanity_any _).mono ?_
    rintro e0 w0 ⟨rfl, hB⟩
    go_wp2_with (fail)
    refine (hx _).mono ?_
    rintro e1 w1 ⟨rfl, rfl⟩
    go_wp2_with (fail)
    refine (sqrt_neg a _ hneg).mono ?_
    rintro e2 w2 ⟨rfl, rfl⟩
    go_wp2_with (fail)
    go_ret
    exact ⟨rfl, hB⟩
  have hs1 := fun w => sqrt_any a w (by omega) (by omega)
  obtain ⟨lo, hi, elo, ehi, r1, r2, r3, r4, r5, r6, r7, r8, rc⟩ := roots_of (a * 65536) (by omega) (by omega)
  rw [← elo, ← ehi] at hs1
  clear elo ehi
  have hk0 : 0 ≤ a % 11585237 := by omega
  have hk1 : a % 11585237 ≤ 11585236 := by omega
  obtain ⟨sq, be, ab, esq, ebe, eab, s1, s2, s3, s4, s5, s6⟩ := near_of (a % 11585237) hk0 hk1
  have hs2 := fun w => sqrt_any sq w s1 (by omega)
  rw [← ebe, ← eab] at hs2
  have hm := fun w => rmul_any (a % 11585237) (a % 11585237) w (by omega) (by omega) (by omega) (by omega)
  rw [← esq] at hm
  clear esq ebe eab
  rcases rc with ⟨rc1, rc2⟩ | ⟨rc1, rc2⟩
  all_goals rcases s6 with s6 | ⟨s6, s7⟩
  all_goals
    go_enter Try.func7, Try.ntmps7
    go_wp2_with (fail)
    refine (sanity_any _).mono ?_
    rintro e0 w0 ⟨rfl, hB⟩
    go_wp2_with (fail)
    refine (hx _).mono ?_
    rintro e1 w1 ⟨rfl, rfl⟩
    go_wp2_with (fail)
    refine (hs1 _).mono ?_
    rintro e2 w2 ⟨rfl, rfl⟩
    go_wp2_with (fail)
    refine (hm _).mono ?_
    rintro e3 w3 ⟨rfl, rfl⟩
    go_wp2_with (fail)
    refine (hs2 _).mono ?_
    rintro e4 w4 ⟨rfl, rfl⟩
    go_wp2_with (fail)
    go_ret
    exact ⟨rfl, hB⟩
end Go.Proofs.Ytjjllfaehipemaa
