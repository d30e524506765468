/-
  Contracts of the reference: Sign, Mag, Contains, Point, MulRatio.
-/
import Derived.Test.YtecmgiihacigaaaIw8
import Derived.Test.YtecmgiihacigaaaIw10
import Derived.Test.YtecmgiihacigaaaKit
import Derived.Test.YtecmgiihacigaaaIv
namespace Go.Proofs.Ytecmgiihacigaaa
open Go.ChangeShapes Go.WideShapes Go.ChangeAt Go.RowKit
set_option linter.unusedVariables false
set_option linter.unusedSimpArgs false
set_option maxRecDepth 100000

open Go.BigFrame
attribute [local go_sem ↓] run_max_two run_min_two run_max_three

set_option maxHeartbeats 1000000 in
theorem r2contains (a b x : Int) (r : Bool) (w : World) (h : (decide (Ent a b) || (decide (a ≤ x) && decide (x ≤ b))) = r) :
    Calls Try.prog 29 #[.agg #[.int .i64 a, .int .i64 b], .int .i64 x] w fun e w' => e = .returned (.bool r) ∧ Below w.heap.size w w' := by
  by_cases h0 : Ent a b
  · have hr : r = true := by rw [← h]; simp [h0]
    subst hr
    obtain ⟨rfl, rfl⟩ := h0
    clear h
    go_enter Try.func29, Try.ntmps29
    go_wp2_with (fail)
    generalize hW0 : World.alloc w _ = W0
    have hT0 : Below w.heap.size w W0 := by subst hW0; exact ((Below.refl w.heap.size w).alloc (by go_size) _)
    have S0 : ∀ g : Grown W0, w.heap.size < g.w.heap.size := fun g => Nat.lt_of_lt_of_le (by subst hW0; simp <;> omega) g.h.size
    have Y0 : w.heap.size < W0.heap.size := by subst hW0; simp <;> omega
    have F00 : ∀ g : Grown W0, g.w.cell? ⟨w.heap.size, 0, none⟩ = some (.int .i64 (-2147483648)) := fun g => (g.cell Y0).trans (by subst hW0; simp [go_sem])
    have H00 : ∀ g : Grown W0, g.w.frozen? ⟨w.heap.size, 0, none⟩ = false := fun g => (g.frozen Y0).trans (by subst hW0; simp [go_sem])
    have F01 : ∀ g : Grown W0, g.w.cell? ⟨w.heap.size, 1, none⟩ = some (.int .i64 2147483648) := fun g => (g.cell Y0).trans (by subst hW0; simp [go_sem])
    have H01 : ∀ g : Grown W0, g.w.frozen? ⟨w.heap.size, 1, none⟩ = false := fun g => (g.frozen Y0).trans (by subst hW0; simp [go_sem])
    clear Y0
    clear hW0
    obtain ⟨g0, hg0⟩ : ∃ g : Grown W0, W0 = g.w := ⟨⟨W0, Below.refl _ _⟩, rfl⟩
    rw [hg0]
    clear hg0
    refine (r2ent_yes _).mono ?_
    rintro e1 w1 ⟨rfl, hB1⟩
    obtain ⟨g1, rfl⟩ := grow g0 hB1
    clear hB1
    go_wp2_with (fail)
    have hB : Below w.heap.size w g1.w := below_then hT0 g1.h
    go_ret
    refine ⟨rfl, ?_⟩
    go_grown
  · have h0' := Lib.hid h0
    by_cases h1 : a ≤ x
    · have hr : decide (x ≤ b) = r := by rw [← h]; simp [h0, h1]
      clear h h0
      go_enter Try.func29, Try.ntmps29
      go_wp2_with (fail)
      generalize hW0 : World.alloc w _ = W0
      have hT0 : Below w.heap.size w W0 := by subst hW0; exact ((Below.refl w.heap.size w).alloc (by go_size) _)
      have S0 : ∀ g : Grown W0, w.heap.size < g.w.heap.size := fun g => Nat.lt_of_lt_of_le (by subst hW0; simp <;> omega) g.h.size
      have Y0 : w.heap.size < W0.heap.size := by subst hW0; simp <;> omega
      have F00 : ∀ g : Grown W0, g.w.cell? ⟨w.heap.size, 0, none⟩ = some (.int .i64 a) := fun g => (g.cell Y0).trans (by subst hW0; simp [go_sem])
      have H00 : ∀ g : Grown W0, g.w.frozen? ⟨w.heap.size, 0, none⟩ = false := fun g => (g.frozen Y0).trans (by subst hW0; simp [go_sem])
      have F01 : ∀ g : Grown W0, g.w.cell? ⟨w.heap.size, 1, none⟩ = some (.int .i64 b) := fun g => (g.cell Y0).trans (by subst hW0; simp [go_sem])
      have H01 : ∀ g : Grown W0, g.w.frozen? ⟨w.heap.size, 1, none⟩ = false := fun g => (g.frozen Y0).trans (by subst hW0; simp [go_sem])
      clear Y0
      clear hW0
      obtain ⟨g0, hg0⟩ : ∃ g : Grown W0, W0 = g.w := ⟨⟨W0, Below.refl _ _⟩, rfl⟩
      rw [hg0]
      clear hg0
      refine (r2ent_no a b _ h0'.out).mono ?_
      rintro e1 w1 ⟨rfl, hB1⟩
      obtain ⟨g1, rfl⟩ := grow g0 hB1
      clear hB1
      go_wp2_with (fail)
      have hB : Below w.heap.size w g1.w := below_then hT0 g1.h
      go_ret
      refine ⟨by first | rfl | (simp [hr]; done), ?_⟩
      go_grown
    · have hr : r = false := by rw [← h]; simp [h0, h1]
      subst hr
      have h1' : x < a := by omega
      clear h h0 h1
      go_enter Try.func29, Try.ntmps29
      go_wp2_with (fail)
      generalize hW0 : World.alloc w _ = W0
      have hT0 : Below w.heap.size w W0 := by subst hW0; exact ((Below.refl w.heap.size w).alloc (by go_size) _)
      have S0 : ∀ g : Grown W0, w.heap.size < g.w.heap.size := fun g => Nat.lt_of_lt_of_le (by subst hW0; simp <;> omega) g.h.size
      have Y0 : w.heap.size < W0.heap.size := by subst hW0; simp <;> omega
      have F00 : ∀ g : Grown W0, g.w.cell? ⟨w.heap.size, 0, none⟩ = some (.int .i64 a) := fun g => (g.cell Y0).trans (by subst hW0; simp [go_sem])
      have H00 : ∀ g : Grown W0, g.w.frozen? ⟨w.heap.size, 0, none⟩ = false := fun g => (g.frozen Y0).trans (by subst hW0; simp [go_sem])
      have F01 : ∀ g : Grown W0, g.w.cell? ⟨w.heap.size, 1, none⟩ = some (.int .i64 b) := fun g => (g.cell Y0).trans (by subst hW0; simp [go_sem])
      have H01 : ∀ g : Grown W0, g.w.frozen? ⟨w.heap.size, 1, none⟩ = false := fun g => (g.frozen Y0).trans (by subst hW0; simp [go_sem])
      clear Y0
      clear hW0
      obtain ⟨g0, hg0⟩ : ∃ g : Grown W0, W0 = g.w := ⟨⟨W0, Below.refl _ _⟩, rfl⟩
      rw [hg0]
      clear hg0
      refine (r2ent_no a b _ h0'.out).mono ?_
      rintro e1 w1 ⟨rfl, hB1⟩
      obtain ⟨g1, rfl⟩ := grow g0 hB1
      clear hB1
      go_wp2_with (fail)
      have hB : Below w.heap.size w g1.w := below_then hT0 g1.h
      go_ret
      refine ⟨rfl, ?_⟩
      go_grown

set_option maxHeartbeats 1000000 in
theorem r2point (x : Int) (w : World) :
    Calls Try.prog 24 #[.int .i64 x] w fun e w' => e = .returned (.agg #[.int .i64 (mkLo x x), .int .i64 (mkHi x x)]) ∧ Below w.heap.size w w' := by
  have c := fun w => r2new x x w
  generalize mkLo x x = p at *
  generalize mkHi x x = q at *
  go_enter Try.func24, Try.ntmps24
  go_wp2_with (fail)
  generalize hW0 : World.alloc w _ = W0
  have hT0 : Below w.heap.size w W0 := by subst hW0; exact ((Below.refl w.heap.size w).alloc (by go_size) _)
  have S0 : ∀ g : Grown W0, w.heap.size < g.w.heap.size := fun g => Nat.lt_of_lt_of_le (by subst hW0; simp <;> omega) g.h.size
  have Y0 : w.heap.size < W0.heap.size := by subst hW0; simp <;> omega
  have F00 : ∀ g : Grown W0, g.w.cell? ⟨w.heap.size, 0, none⟩ = some (.int .i64 0) := fun g => (g.cell Y0).trans (by subst hW0; simp [go_sem])
  have H00 : ∀ g : Grown W0, g.w.frozen? ⟨w.heap.size, 0, none⟩ = false := fun g => (g.frozen Y0).trans (by subst hW0; simp [go_sem])
  have F01 : ∀ g : Grown W0, g.w.cell? ⟨w.heap.size, 1, none⟩ = some (.int .i64 0) := fun g => (g.cell Y0).trans (by subst hW0; simp [go_sem])
  have H01 : ∀ g : Grown W0, g.w.frozen? ⟨w.heap.size, 1, none⟩ = false := fun g => (g.frozen Y0).trans (by subst hW0; simp [go_sem])
  clear Y0
  clear hW0
  obtain ⟨g0, hg0⟩ : ∃ g : Grown W0, W0 = g.w := ⟨⟨W0, Below.refl _ _⟩, rfl⟩
  rw [hg0]
  clear hg0
  refine (c _).mono ?_
  rintro e1 w1 ⟨rfl, hB1⟩
  obtain ⟨g1, rfl⟩ := grow g0 hB1
  clear hB1
  go_wp2_with (fail)
  have hB : Below w.heap.size w g1.w := below_then hT0 g1.h
  refine bodyPost_ret (v := .agg #[.int .i64 p, .int .i64 q]) (by simp [results, Try.results24, go_sem, F00, F01]) rfl ⟨rfl, ?_⟩
  go_grown

theorem dn_within {n d B : Int} (hd : 0 < d) (h1 : -B ≤ n) (h2 : n ≤ B) (hB : 0 ≤ B) : -B ≤ dn n d ∧ dn n d ≤ B := by
  have q1 := dn_mul n hd
  constructor
  · refine dn_le hd ?_
    have := Int.mul_le_mul_of_nonpos_left (a := -B) (by omega) (show 1 ≤ d by omega); omega
  · by_cases hh : dn n d ≤ 0
    · omega
    · have := Int.mul_le_mul_of_nonneg_left (show 1 ≤ d by omega) (show 0 ≤ dn n d by omega); omega

set_option maxHeartbeats 4000000 in
theorem r2mulratio (a b n d : Int) (w : World) (hv : VI a b) (n1 : -1073741824 ≤ n) (n2 : n ≤ 1073741824) (d1 : 1 ≤ d) (d2 : d ≤ 1073741824) :
    Calls Try.prog 32 #[.agg #[.int .i64 a, .int .i64 b], .int .i64 n, .int .i64 d] w fun e w' => e = .returned (.agg #[.int .i64 (mrLo a b n d), .int .i64 (mrHi a b n d)]) ∧ Below w.heap.size w w' := by
  unfold mrLo mrHi
  by_cases h1 : Ent a b
  · rw [if_pos h1, if_pos h1]
    obtain ⟨rfl, rfl⟩ := h1
    clear hv
    go_enter Try.func32, Try.ntmps32
    go_wp2_with (fail)
    generalize hW0 : World.alloc (World.alloc w _) _ = W0
    have hT0 : Below w.heap.size w W0 := by subst hW0; exact (((Below.refl w.heap.size w).alloc (by go_size) _).alloc (by go_size) _)
    have S0 : ∀ g : Grown W0, w.heap.size < g.w.heap.size := fun g => Nat.lt_of_lt_of_le (by subst hW0; simp <;> omega) g.h.size
    have Y0 : w.heap.size < W0.heap.size := by subst hW0; simp <;> omega
    have F00 : ∀ g : Grown W0, g.w.cell? ⟨w.heap.size, 0, none⟩ = some (.int .i64 (-2147483648)) := fun g => (g.cell Y0).trans (by subst hW0; simp [go_sem])
    have H00 : ∀ g : Grown W0, g.w.frozen? ⟨w.heap.size, 0, none⟩ = false := fun g => (g.frozen Y0).trans (by subst hW0; simp [go_sem])
    have F01 : ∀ g : Grown W0, g.w.cell? ⟨w.heap.size, 1, none⟩ = some (.int .i64 2147483648) := fun g => (g.cell Y0).trans (by subst hW0; simp [go_sem])
    have H01 : ∀ g : Grown W0, g.w.frozen? ⟨w.heap.size, 1, none⟩ = false := fun g => (g.frozen Y0).trans (by subst hW0; simp [go_sem])
    clear Y0
    have S1 : ∀ g : Grown W0, w.heap.size + 1 < g.w.heap.size := fun g => Nat.lt_of_lt_of_le (by subst hW0; simp <;> omega) g.h.size
    have Y1 : w.heap.size + 1 < W0.heap.size := by subst hW0; simp <;> omega
    have F10 : ∀ g : Grown W0, g.w.cell? ⟨w.heap.size + 1, 0, none⟩ = some (.int .i64 0) := fun g => (g.cell Y1).trans (by subst hW0; simp [go_sem])
    have H10 : ∀ g : Grown W0, g.w.frozen? ⟨w.heap.size + 1, 0, none⟩ = false := fun g => (g.frozen Y1).trans (by subst hW0; simp [go_sem])
    have F11 : ∀ g : Grown W0, g.w.cell? ⟨w.heap.size + 1, 1, none⟩ = some (.int .i64 0) := fun g => (g.cell Y1).trans (by subst hW0; simp [go_sem])
    have H11 : ∀ g : Grown W0, g.w.frozen? ⟨w.heap.size + 1, 1, none⟩ = false := fun g => (g.frozen Y1).trans (by subst hW0; simp [go_sem])
    clear Y1
    clear hW0
    obtain ⟨g0, hg0⟩ : ∃ g : Grown W0, W0 = g.w := ⟨⟨W0, Below.refl _ _⟩, rfl⟩
    rw [hg0]
    clear hg0
    refine (r2ent_yes _).mono ?_
    rintro e1 w1 ⟨rfl, hB1⟩
    obtain ⟨g1, rfl⟩ := grow g0 hB1
    clear hB1
    go_wp2_with (fail)
    have hB : Below w.heap.size w g1.w := below_then hT0 g1.h
    refine bodyPost_ret (v := .agg #[.int .i64 (-2147483648), .int .i64 2147483648]) (by simp [results, Try.results32, go_sem, F10, F11]) rfl ⟨rfl, ?_⟩
    go_grown
  · rw [if_neg h1, if_neg h1]
    have h1' := Lib.hid h1
    obtain ⟨ha1, ha2, hb1, hb2, hab⟩ := hv.bd
    have e1 := mul_bound a n 2147483648 1073741824 (by omega) (by omega) (by omega) (by omega)
    have e2 := mul_bound b n 2147483648 1073741824 (by omega) (by omega) (by omega) (by omega)
    have f1 : -4611686018427387904 ≤ a * n := by omega
    have f2 : a * n ≤ 4611686018427387904 := by omega
    have f3 : -4611686018427387904 ≤ b * n := by omega
    have f4 : b * n ≤ 4611686018427387904 := by omega
    have c1 := fun w => r2floor (min (a * n) (b * n)) d w (by omega) (by omega) (by omega)
    have hw := dn_within (n := -max (a * n) (b * n)) (d := d) (B := 4611686018427387904) (by omega) (by omega) (by omega) (by omega)
    have c2 := fun w => r2ceil (max (a * n) (b * n)) d w (by omega) (by omega) (by omega) (by omega)
    have c3 := fun w => r2new (mr1 a b n d) (mr2 a b n d) w
    unfold mr1 mr2 at *
    clear h1 hv e1 e2 hw
    generalize mkLo _ _ = x at *
    generalize mkHi _ _ = y at *
    generalize dn (min (a * n) (b * n)) d = m1 at *
    generalize up (max (a * n) (b * n)) d = m2 at *
    go_enter Try.func32, Try.ntmps32
    go_wp2_with (fail)
    generalize hW0 : World.alloc (World.alloc w _) _ = W0
    have hT0 : Below w.heap.size w W0 := by subst hW0; exact (((Below.refl w.heap.size w).alloc (by go_size) _).alloc (by go_size) _)
    have S0 : ∀ g : Grown W0, w.heap.size < g.w.heap.size := fun g => Nat.lt_of_lt_of_le (by subst hW0; simp <;> omega) g.h.size
    have Y0 : w.heap.size < W0.heap.size := by subst hW0; simp <;> omega
    have F00 : ∀ g : Grown W0, g.w.cell? ⟨w.heap.size, 0, none⟩ = some (.int .i64 a) := fun g => (g.cell Y0).trans (by subst hW0; simp [go_sem])
    have H00 : ∀ g : Grown W0, g.w.frozen? ⟨w.heap.size, 0, none⟩ = false := fun g => (g.frozen Y0).trans (by subst hW0; simp [go_sem])
    have F01 : ∀ g : Grown W0, g.w.cell? ⟨w.heap.size, 1, none⟩ = some (.int .i64 b) := fun g => (g.cell Y0).trans (by subst hW0; simp [go_sem])
    have H01 : ∀ g : Grown W0, g.w.frozen? ⟨w.heap.size, 1, none⟩ = false := fun g => (g.frozen Y0).trans (by subst hW0; simp [go_sem])
    clear Y0
    have S1 : ∀ g : Grown W0, w.heap.size + 1 < g.w.heap.size := fun g => Nat.lt_of_lt_of_le (by subst hW0; simp <;> omega) g.h.size
    have Y1 : w.heap.size + 1 < W0.heap.size := by subst hW0; simp <;> omega
    have F10 : ∀ g : Grown W0, g.w.cell? ⟨w.heap.size + 1, 0, none⟩ = some (.int .i64 0) := fun g => (g.cell Y1).trans (by subst hW0; simp [go_sem])
    have H10 : ∀ g : Grown W0, g.w.frozen? ⟨w.heap.size + 1, 0, none⟩ = false := fun g => (g.frozen Y1).trans (by subst hW0; simp [go_sem])
    have F11 : ∀ g : Grown W0, g.w.cell? ⟨w.heap.size + 1, 1, none⟩ = some (.int .i64 0) := fun g => (g.cell Y1).trans (by subst hW0; simp [go_sem])
    have H11 : ∀ g : Grown W0, g.w.frozen? ⟨w.heap.size + 1, 1, none⟩ = false := fun g => (g.frozen Y1).trans (by subst hW0; simp [go_sem])
    clear Y1
    clear hW0
    obtain ⟨g0, hg0⟩ : ∃ g : Grown W0, W0 = g.w := ⟨⟨W0, Below.refl _ _⟩, rfl⟩
    rw [hg0]
    clear hg0
    refine (r2ent_no a b _ h1'.out).mono ?_
    rintro e1 w1 ⟨rfl, hB1⟩
    obtain ⟨g1, rfl⟩ := grow g0 hB1
    clear hB1
    go_wp2_with (fail)
    refine region_quiet' g1 (by kernel_rfl) (by kernel_rfl) ?_
    repeat (go_big_quiet_step (fail))
    refine wpQuiet_nil ?_
    rintro _ ⟨g2, rfl⟩
    go_wp2_with (fail)
    refine (c1 _).mono ?_
    rintro e3 w3 ⟨rfl, rfl⟩
    go_wp2_with (fail)
    refine (c2 _).mono ?_
    rintro e4 w4 ⟨rfl, rfl⟩
    go_wp2_with (fail)
    refine (c3 _).mono ?_
    rintro e5 w5 ⟨rfl, hB5⟩
    obtain ⟨g5, rfl⟩ := grow g2 hB5
    clear hB5
    go_wp2_with (fail)
    have hB : Below w.heap.size w g5.w := below_then hT0 g5.h
    refine bodyPost_ret (v := .agg #[.int .i64 x, .int .i64 y]) (by simp [results, Try.results32, go_sem, F10, F11]) rfl ⟨rfl, ?_⟩
    go_grown
end Go.Proofs.Ytecmgiihacigaaa
