/-
  Contract of the reference's Root: one bit a round.
-/
import Derived.Test.YtdnndmpdlelliaaR2
import Derived.Test.YtdnndmpdlelliaaFix4
import Derived.Outline
import Derived.WalkMore
namespace Go.Proofs.Ytdnndmpdlelliaa
open Go.ChangeShapes Go.WideShapes Go.ChangeAt Go.RowKit
set_option linter.unusedVariables false
set_option linter.unusedSimpArgs false
set_option maxRecDepth 100000

/-- What is known of the root when 'bit' comes up. -/
def RtI (s out bit : Int) : Prop := 0 ≤ out ∧ out ≤ s ∧ ((bit = 0 ∧ s < out + 1) ∨ ∃ k : Nat, bit = 2 ^ k ∧ s < out + 2 * bit) ∧ out + 2 * bit ≤ 2147483648
theorem pow_pos2 (k : Nat) : (1 : Int) ≤ 2 ^ k := by
  induction k with
  | zero => decide
  | succ k ih => rw [Int.pow_succ]; omega
theorem rti_half {s out out' bit : Int} (h : RtI s out bit) (hb : 0 < bit) (h1 : out' = out ∧ s < out + bit ∨ out' = out + bit ∧ out + bit ≤ s) : RtI s out' (bit / 2) := by
  obtain ⟨p1, p2, p3, p4⟩ := h
  rcases p3 with ⟨p3, _⟩ | ⟨k, p3, p5⟩
  · omega
  · refine ⟨by omega, by omega, ?_, by omega⟩
    cases k with
    | zero =>
      have : bit = 1 := p3
      exact .inl ⟨by omega, by omega⟩
    | succ k =>
      rw [Int.pow_succ] at p3
      exact .inr ⟨k, by omega, by omega⟩

set_option maxHeartbeats 1000000 in
theorem r2root (n : Int) (w : World) (h0 : 0 ≤ n) (h1 : n < 4611686018427387904) :
    Calls Try.prog 102 #[.int .i64 n] w fun e w' => e = .returned (.int .i64 (isq n)) ∧ w = w' := by
  have hs : isq n < 2147483648 := isq_lt (n := n) (q := 2147483648) (by omega) (by omega) (by omega)
  have hs0 := (isq_spec (n := n) (by omega)).1
  have hstep : ∀ m, 0 ≤ m → ¬ m * m ≤ n → isq n < m := fun m hm hc => isq_lt h0 (by omega) hm
  have hle2 : ∀ m, m * m ≤ n → m ≤ isq n := fun m hm => le_isq (by omega) hm
  generalize isq n = s at *
  have H1 := Lib.hid hstep
  have H2 := Lib.hid hle2
  clear hstep hle2
  go_enter Try.func102, Try.ntmps102
  go_wp2
  go_loop [3, 4] (fun o b => ∃ out bit : Int, o = .int .i64 out ∧ b = .int .i64 bit ∧ RtI s out bit) (fun o b => (intOf b).toNat)
  case atStart => exact ⟨_, _, rfl, rfl, by omega, by omega, .inr ⟨30, by decide, by omega⟩, by omega⟩
  case round =>
    obtain ⟨out, bit, rfl, rfl, r⟩ := hrel
    have r1 := r.1
    have r4 := r.2.2.2
    have R := Lib.hid r
    by_cases hb : 0 < bit
    · have m0 : 0 ≤ out + bit := by omega
      have m1 : out + bit ≤ 2147483648 := by omega
      have mm := sq_le m0 m1
      have mm0 := Int.mul_nonneg m0 m0
      clear r
      by_cases hc : (out + bit) * (out + bit) ≤ n
      · have K := Lib.hid (rti_half R.out hb (.inr ⟨rfl, H2.out _ hc⟩))
        go_wp2
        go_round
        case rel => exact ⟨_, _, rfl, rfl, K.out⟩
        case measure => simp [intOf]; omega
      · have K := Lib.hid (rti_half R.out hb (.inl ⟨rfl, H1.out _ m0 (by omega)⟩))
        go_wp2
        go_round
        case rel => exact ⟨_, _, rfl, rfl, K.out⟩
        case measure => simp [intOf]; omega
    · obtain ⟨q1, q2, q3, q4⟩ := r
      have e : out = s := by
        rcases q3 with ⟨_, q3⟩ | ⟨k, q3, _⟩
        · omega
        · have := pow_pos2 k; omega
      subst e
      clear q3 R
      go_wp2
      go_ret
      exact ⟨rfl, rfl⟩
end Go.Proofs.Ytdnndmpdlelliaa
