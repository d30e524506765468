/-
  Contract of the reference's Root: one bit a round.
  Contract of the reference's Sqrt.
-/
import Derived.Test.YtecmgiihacigaaaR2
import Derived.Test.YtecmgiihacigaaaFix
import Derived.Outline
import Derived.WalkMore
import Derived.Test.YtecmgiihacigaaaIw8
import Derived.Test.YtecmgiihacigaaaIw10
import Derived.Test.YtecmgiihacigaaaKit
import Derived.Test.YtecmgiihacigaaaIv
namespace Go.Proofs.Ytecmgiihacigaaa
open Go.ChangeShapes Go.WideShapes Go.ChangeAt Go.RowKit
set_option linter.unusedVariables false
set_option linter.unusedSimpArgs false
set_option maxRecDepth 100000

/-- What is known of the root when 'bit' comes up. -/
def RtI (s out bit : Int) : Prop := 0 ≤ out ∧ out ≤ s ∧ ((bit = 0 ∧ s < out + 1) ∨ ∃ k : Nat, bit = 2 ^ k ∧ s < out + 2 * bit) ∧ out + 2 * bit ≤ 2147483648
theorem pow_pos2 (k : Nat) : (1 : Int) ≤ 2 ^ k := by
  induction k with
  | zero => decide
  | succ k ih => rw [Int.pow_succ]; omega
theorem rti_half {s out out' bit : Int} (h : RtI s out bit) (hb : 0 < bit) (h1 : out' = out ∧ s < out + bit ∨ out' = out + bit ∧ out + bit ≤ s) : RtI s out' (bit / 2) := by
  obtain ⟨p1, p2, p3, p4⟩ := h
  rcases p3 with ⟨p3, _⟩ | ⟨k, p3, p5⟩
  · omega
  · refine ⟨by omega, by omega, ?_, by omega⟩
    cases k with
    | zero =>
      have : bit = 1 := p3
      exact .inl ⟨by omega, by omega⟩
    | succ k =>
      rw [Int.pow_succ] at p3
      exact .inr ⟨k, by omega, by omega⟩

set_option maxHeartbeats 1000000 in
theorem r2root (n : Int) (w : World) (h0 : 0 ≤ n) (h1 : n < 4611686018427387904) :
    Calls Try.prog 109 #[.int .i64 n] w fun e w' => e = .returned (.int .i64 (isq n)) ∧ w = w' := by
  have hs : isq n < 2147483648 := isq_lt (n := n) (q := 2147483648) (by omega) (by omega) (by omega)
  have hs0 := (isq_spec (n := n) (by omega)).1
  have hstep : ∀ m, 0 ≤ m → ¬ m * m ≤ n → isq n < m := fun m hm hc => isq_lt h0 (by omega) hm
  have hle2 : ∀ m, m * m ≤ n → m ≤ isq n := fun m hm => le_isq (by omega) hm
  generalize isq n = s at *
  have H1 := Lib.hid hstep
  have H2 := Lib.hid hle2
  clear hstep hle2
  go_enter Try.func109, Try.ntmps109
  go_wp2
  go_loop [3, 4] (fun o b => ∃ out bit : Int, o = .int .i64 out ∧ b = .int .i64 bit ∧ RtI s out bit) (fun o b => (intOf b).toNat)
  case atStart => exact ⟨_, _, rfl, rfl, by omega, by omega, .inr ⟨30, by decide, by omega⟩, by omega⟩
  case round =>
    obtain ⟨out, bit, rfl, rfl, r⟩ := hrel
    have r1 := r.1
    have r4 := r.2.2.2
    have R := Lib.hid r
    by_cases hb : 0 < bit
    · have m0 : 0 ≤ out + bit := by omega
      have m1 : out + bit ≤ 2147483648 := by omega
      have mm := sq_le m0 m1
      have mm0 := Int.mul_nonneg m0 m0
      clear r
      by_cases hc : (out + bit) * (out + bit) ≤ n
      · have K := Lib.hid (rti_half R.out hb (.inr ⟨rfl, H2.out _ hc⟩))
        go_wp2
        go_round
        case rel => exact ⟨_, _, rfl, rfl, K.out⟩
        case measure => simp [intOf]; omega
      · have K := Lib.hid (rti_half R.out hb (.inl ⟨rfl, H1.out _ m0 (by omega)⟩))
        go_wp2
        go_round
        case rel => exact ⟨_, _, rfl, rfl, K.out⟩
        case measure => simp [intOf]; omega
    · obtain ⟨q1, q2, q3, q4⟩ := r
      have e : out = s := by
        rcases q3 with ⟨_, q3⟩ | ⟨k, q3, _⟩
        · omega
        · have := pow_pos2 k; omega
      subst e
      clear q3 R
      go_wp2
      go_ret
      exact ⟨rfl, rfl⟩
end Go.Proofs.Ytecmgiihacigaaa

namespace Go.Proofs.Ytecmgiihacigaaa
open Go.ChangeShapes Go.WideShapes Go.ChangeAt Go.RowKit
set_option linter.unusedVariables false
set_option linter.unusedSimpArgs false
set_option maxRecDepth 100000

open Go.BigFrame
attribute [local go_sem ↓] run_max_two run_min_two run_max_three

set_option maxHeartbeats 1000000 in
theorem r2sqrt_ent (w : World) :
    Calls Try.prog 97 #[.agg #[.int .i64 (-2147483648), .int .i64 2147483648]] w fun e w' => e = .returned (.tuple #[.agg #[.int .i64 (-2147483648), .int .i64 2147483648], .bool true]) ∧ Below w.heap.size w w' := by
  go_enter Try.func97, Try.ntmps97
  go_wp2_with (fail)
  generalize hW0 : World.alloc (World.alloc w _) _ = W0
  have hT0 : Below w.heap.size w W0 := by subst hW0; exact (((Below.refl w.heap.size w).alloc (by go_size) _).alloc (by go_size) _)
  have S0 : ∀ g : Grown W0, w.heap.size < g.w.heap.size := fun g => Nat.lt_of_lt_of_le (by subst hW0; simp <;> omega) g.h.size
  have Y0 : w.heap.size < W0.heap.size := by subst hW0; simp <;> omega
  have F00 : ∀ g : Grown W0, g.w.cell? ⟨w.heap.size, 0, none⟩ = some (.int .i64 (-2147483648)) := fun g => (g.cell Y0).trans (by subst hW0; simp [go_sem])
  have H00 : ∀ g : Grown W0, g.w.frozen? ⟨w.heap.size, 0, none⟩ = false := fun g => (g.frozen Y0).trans (by subst hW0; simp [go_sem])
  have F01 : ∀ g : Grown W0, g.w.cell? ⟨w.heap.size, 1, none⟩ = some (.int .i64 2147483648) := fun g => (g.cell Y0).trans (by subst hW0; simp [go_sem])
  have H01 : ∀ g : Grown W0, g.w.frozen? ⟨w.heap.size, 1, none⟩ = false := fun g => (g.frozen Y0).trans (by subst hW0; simp [go_sem])
  clear Y0
  have S1 : ∀ g : Grown W0, w.heap.size + 1 < g.w.heap.size := fun g => Nat.lt_of_lt_of_le (by subst hW0; simp <;> omega) g.h.size
  have Y1 : w.heap.size + 1 < W0.heap.size := by subst hW0; simp <;> omega
  have F10 : ∀ g : Grown W0, g.w.cell? ⟨w.heap.size + 1, 0, none⟩ = some (.int .i64 0) := fun g => (g.cell Y1).trans (by subst hW0; simp [go_sem])
  have H10 : ∀ g : Grown W0, g.w.frozen? ⟨w.heap.size + 1, 0, none⟩ = false := fun g => (g.frozen Y1).trans (by subst hW0; simp [go_sem])
  have F11 : ∀ g : Grown W0, g.w.cell? ⟨w.heap.size + 1, 1, none⟩ = some (.int .i64 0) := fun g => (g.cell Y1).trans (by subst hW0; simp [go_sem])
  have H11 : ∀ g : Grown W0, g.w.frozen? ⟨w.heap.size + 1, 1, none⟩ = false := fun g => (g.frozen Y1).trans (by subst hW0; simp [go_sem])
  clear Y1
  clear hW0
  obtain ⟨g0, hg0⟩ : ∃ g : Grown W0, W0 = g.w := ⟨⟨W0, Below.refl _ _⟩, rfl⟩
  rw [hg0]
  clear hg0
  refine (r2ent_yes _).mono ?_
  rintro e1 w1 ⟨rfl, hB1⟩
  obtain ⟨g1, rfl⟩ := grow g0 hB1
  clear hB1
  go_wp2_with (fail)
  have hB : Below w.heap.size w g1.w := below_then hT0 g1.h
  refine bodyPost_ret (v := .tuple #[.agg #[.int .i64 (-2147483648), .int .i64 2147483648], .bool true]) (by simp [results, Try.results97, go_sem, F10, F11]) rfl ⟨rfl, ?_⟩
  go_grown

set_option maxHeartbeats 1000000 in
theorem r2sqrt_neg (a b : Int) (w : World) (h1 : ¬ Ent a b) (hb : b < 0) :
    Calls Try.prog 97 #[.agg #[.int .i64 a, .int .i64 b]] w fun e w' => e = .returned (.tuple #[.agg #[.int .i64 0, .int .i64 0], .bool false]) ∧ Below w.heap.size w w' := by
  have h1' := Lib.hid h1
  clear h1
  go_enter Try.func97, Try.ntmps97
  go_wp2_with (fail)
  generalize hW0 : World.alloc (World.alloc w _) _ = W0
  have hT0 : Below w.heap.size w W0 := by subst hW0; exact (((Below.refl w.heap.size w).alloc (by go_size) _).alloc (by go_size) _)
  have S0 : ∀ g : Grown W0, w.heap.size < g.w.heap.size := fun g => Nat.lt_of_lt_of_le (by subst hW0; simp <;> omega) g.h.size
  have Y0 : w.heap.size < W0.heap.size := by subst hW0; simp <;> omega
  have F00 : ∀ g : Grown W0, g.w.cell? ⟨w.heap.size, 0, none⟩ = some (.int .i64 a) := fun g => (g.cell Y0).trans (by subst hW0; simp [go_sem])
  have H00 : ∀ g : Grown W0, g.w.frozen? ⟨w.heap.size, 0, none⟩ = false := fun g => (g.frozen Y0).trans (by subst hW0; simp [go_sem])
  have F01 : ∀ g : Grown W0, g.w.cell? ⟨w.heap.size, 1, none⟩ = some (.int .i64 b) := fun g => (g.cell Y0).trans (by subst hW0; simp [go_sem])
  have H01 : ∀ g : Grown W0, g.w.frozen? ⟨w.heap.size, 1, none⟩ = false := fun g => (g.frozen Y0).trans (by subst hW0; simp [go_sem])
  clear Y0
  have S1 : ∀ g : Grown W0, w.heap.size + 1 < g.w.heap.size := fun g => Nat.lt_of_lt_of_le (by subst hW0; simp <;> omega) g.h.size
  have Y1 : w.heap.size + 1 < W0.heap.size := by subst hW0; simp <;> omega
  have F10 : ∀ g : Grown W0, g.w.cell? ⟨w.heap.size + 1, 0, none⟩ = some (.int .i64 0) := fun g => (g.cell Y1).trans (by subst hW0; simp [go_sem])
  have H10 : ∀ g : Grown W0, g.w.frozen? ⟨w.heap.size + 1, 0, none⟩ = false := fun g => (g.frozen Y1).trans (by subst hW0; simp [go_sem])
  have F11 : ∀ g : Grown W0, g.w.cell? ⟨w.heap.size + 1, 1, none⟩ = some (.int .i64 0) := fun g => (g.cell Y1).trans (by subst hW0; simp [go_sem])
  have H11 : ∀ g : Grown W0, g.w.frozen? ⟨w.heap.size + 1, 1, none⟩ = false := fun g => (g.frozen Y1).trans (by subst hW0; simp [go_sem])
  clear Y1
  clear hW0
  obtain ⟨g0, hg0⟩ : ∃ g : Grown W0, W0 = g.w := ⟨⟨W0, Below.refl _ _⟩, rfl⟩
  rw [hg0]
  clear hg0
  refine (r2ent_no a b _ h1'.out).mono ?_
  rintro e1 w1 ⟨rfl, hB1⟩
  obtain ⟨g1, rfl⟩ := grow g0 hB1
  clear hB1
  go_wp2_with (fail)
  have hB : Below w.heap.size w g1.w := below_then hT0 g1.h
  refine bodyPost_ret (v := .tuple #[.agg #[.int .i64 0, .int .i64 0], .bool false]) (by simp [results, Try.results97, go_sem, F10, F11]) rfl ⟨rfl, ?_⟩
  go_grown

theorem sq_nonneg' (x : Int) : 0 ≤ x * x := by
  by_cases h : 0 ≤ x
  · exact Int.mul_nonneg h h
  · have := Int.mul_nonneg (show 0 ≤ -x by omega) (show 0 ≤ -x by omega)
    rwa [Int.neg_mul_neg] at this

set_option maxHeartbeats 4000000 in
theorem r2sqrt_pos (a b : Int) (w : World) (h1 : ¬ Ent a b) (hab : a ≤ b) (hb : 0 ≤ b) (hb2 : b ≤ 2147483648) :
    Calls Try.prog 97 #[.agg #[.int .i64 a, .int .i64 b]] w fun e w' => e = .returned (.tuple #[.agg #[.int .i64 (mkLo (rt1 a) (rt2 b)), .int .i64 (mkHi (rt1 a) (rt2 b))], .bool true]) ∧ Below w.heap.size w w' := by
  have h1' := Lib.hid h1
  clear h1
  have c1 := fun w => r2root (max a 0 * 65536) w (by omega) (by omega)
  have c2 := fun w => r2root (b * 65536) w (by omega) (by omega)
  have s1 := isq_spec (n := b * 65536) (by omega)
  have s2 := isq_lt (n := b * 65536) (q := 16777216) (by omega) (by omega) (by omega)
  have s3 := sq_le s1.1 (show isq (b * 65536) ≤ 16777216 by omega)
  have s4 := sq_nonneg' (isq (b * 65536))
  have t1 := s1.1
  have t2 := s1.2.1
  clear s1
  unfold rt1 rt2 usq
  by_cases hc : isq (b * 65536) * isq (b * 65536) = b * 65536
  · rw [if_pos hc]
    have c3 := fun w => r2new (isq (max a 0 * 65536)) (isq (b * 65536)) w
    have hc' : decide (isq (b * 65536) * isq (b * 65536) < b * 65536) = false := decide_eq_false (by omega)
    clear hc
    generalize mkLo _ _ = x at *
    generalize mkHi _ _ = y at *
    generalize isq (max a 0 * 65536) = m1 at *
    generalize isq (b * 65536) = m2 at *
    go_enter Try.func97, Try.ntmps97
    go_wp2_with (fail)
    generalize hW0 : World.alloc (World.alloc w _) _ = W0
    have hT0 : Below w.heap.size w W0 := by subst hW0; exact (((Below.refl w.heap.size w).alloc (by go_size) _).alloc (by go_size) _)
    have S0 : ∀ g : Grown W0, w.heap.size < g.w.heap.size := fun g => Nat.lt_of_lt_of_le (by subst hW0; simp <;> omega) g.h.size
    have Y0 : w.heap.size < W0.heap.size := by subst hW0; simp <;> omega
    have F00 : ∀ g : Grown W0, g.w.cell? ⟨w.heap.size, 0, none⟩ = some (.int .i64 a) := fun g => (g.cell Y0).trans (by subst hW0; simp [go_sem])
    have H00 : ∀ g : Grown W0, g.w.frozen? ⟨w.heap.size, 0, none⟩ = false := fun g => (g.frozen Y0).trans (by subst hW0; simp [go_sem])
    have F01 : ∀ g : Grown W0, g.w.cell? ⟨w.heap.size, 1, none⟩ = some (.int .i64 b) := fun g => (g.cell Y0).trans (by subst hW0; simp [go_sem])
    have H01 : ∀ g : Grown W0, g.w.frozen? ⟨w.heap.size, 1, none⟩ = false := fun g => (g.frozen Y0).trans (by subst hW0; simp [go_sem])
    clear Y0
    have S1 : ∀ g : Grown W0, w.heap.size + 1 < g.w.heap.size := fun g => Nat.lt_of_lt_of_le (by subst hW0; simp <;> omega) g.h.size
    have Y1 : w.heap.size + 1 < W0.heap.size := by subst hW0; simp <;> omega
    have F10 : ∀ g : Grown W0, g.w.cell? ⟨w.heap.size + 1, 0, none⟩ = some (.int .i64 0) := fun g => (g.cell Y1).trans (by subst hW0; simp [go_sem])
    have H10 : ∀ g : Grown W0, g.w.frozen? ⟨w.heap.size + 1, 0, none⟩ = false := fun g => (g.frozen Y1).trans (by subst hW0; simp [go_sem])
    have F11 : ∀ g : Grown W0, g.w.cell? ⟨w.heap.size + 1, 1, none⟩ = some (.int .i64 0) := fun g => (g.cell Y1).trans (by subst hW0; simp [go_sem])
    have H11 : ∀ g : Grown W0, g.w.frozen? ⟨w.heap.size + 1, 1, none⟩ = false := fun g => (g.frozen Y1).trans (by subst hW0; simp [go_sem])
    clear Y1
    clear hW0
    obtain ⟨g0, hg0⟩ : ∃ g : Grown W0, W0 = g.w := ⟨⟨W0, Below.refl _ _⟩, rfl⟩
    rw [hg0]
    clear hg0
    refine (r2ent_no a b _ h1'.out).mono ?_
    rintro e1 w1 ⟨rfl, hB1⟩
    obtain ⟨g1, rfl⟩ := grow g0 hB1
    clear hB1
    go_wp2_with (fail)
    refine region_quiet' g1 (by kernel_rfl) (by kernel_rfl) ?_
    repeat (go_big_quiet_step (first | (go_at_call_of 109 a; exact qs (c1 _)) | (go_at_call 109; exact qs (c2 _))))
    refine wpQuiet_nil ?_
    rintro _ ⟨g2, rfl⟩
    go_wp2_with (fail)
    refine (c3 _).mono ?_
    rintro e3 w3 ⟨rfl, hB3⟩
    obtain ⟨g3, rfl⟩ := grow g2 hB3
    clear hB3
    go_wp2_with (fail)
    have hB : Below w.heap.size w g3.w := below_then hT0 g3.h
    refine bodyPost_ret (v := .tuple #[.agg #[.int .i64 x, .int .i64 y], .bool true]) (by simp [results, Try.results97, go_sem, F10, F11]) rfl ⟨rfl, ?_⟩
    go_grown
  · rw [if_neg hc]
    have c3 := fun w => r2new (isq (max a 0 * 65536)) (isq (b * 65536) + 1) w
    have hc' : isq (b * 65536) * isq (b * 65536) < b * 65536 := by omega
    clear hc
    generalize mkLo _ _ = x at *
    generalize mkHi _ _ = y at *
    generalize isq (max a 0 * 65536) = m1 at *
    generalize isq (b * 65536) = m2 at *
    go_enter Try.func97, Try.ntmps97
    go_wp2_with (fail)
    generalize hW0 : World.alloc (World.alloc w _) _ = W0
    have hT0 : Below w.heap.size w W0 := by subst hW0; exact (((Below.refl w.heap.size w).alloc (by go_size) _).alloc (by go_size) _)
    have S0 : ∀ g : Grown W0, w.heap.size < g.w.heap.size := fun g => Nat.lt_of_lt_of_le (by subst hW0; simp <;> omega) g.h.size
    have Y0 : w.heap.size < W0.heap.size := by subst hW0; simp <;> omega
    have F00 : ∀ g : Grown W0, g.w.cell? ⟨w.heap.size, 0, none⟩ = some (.int .i64 a) := fun g => (g.cell Y0).trans (by subst hW0; simp [go_sem])
    have H00 : ∀ g : Grown W0, g.w.frozen? ⟨w.heap.size, 0, none⟩ = false := fun g => (g.frozen Y0).trans (by subst hW0; simp [go_sem])
    have F01 : ∀ g : Grown W0, g.w.cell? ⟨w.heap.size, 1, none⟩ = some (.int .i64 b) := fun g => (g.cell Y0).trans (by subst hW0; simp [go_sem])
    have H01 : ∀ g : Grown W0, g.w.frozen? ⟨w.heap.size, 1, none⟩ = false := fun g => (g.frozen Y0).trans (by subst hW0; simp [go_sem])
    clear Y0
    have S1 : ∀ g : Grown W0, w.heap.size + 1 < g.w.heap.size := fun g => Nat.lt_of_lt_of_le (by subst hW0; simp <;> omega) g.h.size
    have Y1 : w.heap.size + 1 < W0.heap.size := by subst hW0; simp <;> omega
    have F10 : ∀ g : Grown W0, g.w.cell? ⟨w.heap.size + 1, 0, none⟩ = some (.int .i64 0) := fun g => (g.cell Y1).trans (by subst hW0; simp [go_sem])
    have H10 : ∀ g : Grown W0, g.w.frozen? ⟨w.heap.size + 1, 0, none⟩ = false := fun g => (g.frozen Y1).trans (by subst hW0; simp [go_sem])
    have F11 : ∀ g : Grown W0, g.w.cell? ⟨w.heap.size + 1, 1, none⟩ = some (.int .i64 0) := fun g => (g.cell Y1).trans (by subst hW0; simp [go_sem])
    have H11 : ∀ g : Grown W0, g.w.frozen? ⟨w.heap.size + 1, 1, none⟩ = false := fun g => (g.frozen Y1).trans (by subst hW0; simp [go_sem])
    clear Y1
    clear hW0
    obtain ⟨g0, hg0⟩ : ∃ g : Grown W0, W0 = g.w := ⟨⟨W0, Below.refl _ _⟩, rfl⟩
    rw [hg0]
    clear hg0
    refine (r2ent_no a b _ h1'.out).mono ?_
    rintro e1 w1 ⟨rfl, hB1⟩
    obtain ⟨g1, rfl⟩ := grow g0 hB1
    clear hB1
    go_wp2_with (fail)
    refine region_quiet' g1 (by kernel_rfl) (by kernel_rfl) ?_
    repeat (go_big_quiet_step (first | (go_at_call_of 109 a; exact qs (c1 _)) | (go_at_call 109; exact qs (c2 _))))
    refine wpQuiet_nil ?_
    rintro _ ⟨g2, rfl⟩
    go_wp2_with (fail)
    refine (c3 _).mono ?_
    rintro e3 w3 ⟨rfl, hB3⟩
    obtain ⟨g3, rfl⟩ := grow g2 hB3
    clear hB3
    go_wp2_with (fail)
    have hB : Below w.heap.size w g3.w := below_then hT0 g3.h
    refine bodyPost_ret (v := .tuple #[.agg #[.int .i64 x, .int .i64 y], .bool true]) (by simp [results, Try.results97, go_sem, F10, F11]) rfl ⟨rfl, ?_⟩
    go_grown
end Go.Proofs.Ytecmgiihacigaaa
