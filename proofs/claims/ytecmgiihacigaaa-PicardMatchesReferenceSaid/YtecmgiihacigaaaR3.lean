/-
  Contracts of the reference: Square.
-/
import Derived.Test.YtecmgiihacigaaaR2
namespace Go.Proofs.Ytecmgiihacigaaa
open Go.ChangeShapes Go.WideShapes Go.ChangeAt Go.RowKit
set_option linter.unusedVariables false
set_option linter.unusedSimpArgs false
set_option maxRecDepth 100000

open Go.BigFrame
attribute [local go_sem ↓] run_max_two run_min_two run_max_three

set_option maxHeartbeats 4000000 in
theorem r2square (a b : Int) (w : World) (hv : VI a b) :
    Calls Try.prog 96 #[.agg #[.int .i64 a, .int .i64 b]] w fun e w' => e = .returned (.agg #[.int .i64 (sqLo a b), .int .i64 (sqHi a b)]) ∧ Below w.heap.size w w' := by
  unfold sqLo sqHi
  by_cases h1 : Ent a b
  · rw [if_pos h1, if_pos h1]
    obtain ⟨rfl, rfl⟩ := h1
    clear hv
    go_enter Try.func96, Try.ntmps96
    go_wp2_with (fail)
    generalize hW0 : World.alloc (World.alloc w _) _ = W0
    have hT0 : Below w.heap.size w W0 := by subst hW0; exact (((Below.refl w.heap.size w).alloc (by go_size) _).alloc (by go_size) _)
    have S0 : ∀ g : Grown W0, w.heap.size < g.w.heap.size := fun g => Nat.lt_of_lt_of_le (by subst hW0; simp <;> omega) g.h.size
    have Y0 : w.heap.size < W0.heap.size := by subst hW0; simp <;> omega
    have F00 : ∀ g : Grown W0, g.w.cell? ⟨w.heap.size, 0, none⟩ = some (.int .i64 (-2147483648)) := fun g => (g.cell Y0).trans (by subst hW0; simp [go_sem])
    have H00 : ∀ g : Grown W0, g.w.frozen? ⟨w.heap.size, 0, none⟩ = false := fun g => (g.frozen Y0).trans (by subst hW0; simp [go_sem])
    have F01 : ∀ g : Grown W0, g.w.cell? ⟨w.heap.size, 1, none⟩ = some (.int .i64 2147483648) := fun g => (g.cell Y0).trans (by subst hW0; simp [go_sem])
    have H01 : ∀ g : Grown W0, g.w.frozen? ⟨w.heap.size, 1, none⟩ = false := fun g => (g.frozen Y0).trans (by subst hW0; simp [go_sem])
    clear Y0
    have S1 : ∀ g : Grown W0, w.heap.size + 1 < g.w.heap.size := fun g => Nat.lt_of_lt_of_le (by subst hW0; simp <;> omega) g.h.size
    have Y1 : w.heap.size + 1 < W0.heap.size := by subst hW0; simp <;> omega
    have F10 : ∀ g : Grown W0, g.w.cell? ⟨w.heap.size + 1, 0, none⟩ = some (.int .i64 0) := fun g => (g.cell Y1).trans (by subst hW0; simp [go_sem])
    have H10 : ∀ g : Grown W0, g.w.frozen? ⟨w.heap.size + 1, 0, none⟩ = false := fun g => (g.frozen Y1).trans (by subst hW0; simp [go_sem])
    have F11 : ∀ g : Grown W0, g.w.cell? ⟨w.heap.size + 1, 1, none⟩ = some (.int .i64 0) := fun g => (g.cell Y1).trans (by subst hW0; simp [go_sem])
    have H11 : ∀ g : Grown W0, g.w.frozen? ⟨w.heap.size + 1, 1, none⟩ = false := fun g => (g.frozen Y1).trans (by subst hW0; simp [go_sem])
    clear Y1
    clear hW0
    obtain ⟨g0, hg0⟩ : ∃ g : Grown W0, W0 = g.w := ⟨⟨W0, Below.refl _ _⟩, rfl⟩
    rw [hg0]
    clear hg0
    refine (r2ent_yes _).mono ?_
    rintro e1 w1 ⟨rfl, hB1⟩
    obtain ⟨g1, rfl⟩ := grow g0 hB1
    clear hB1
    go_wp2_with (fail)
    refine (r2entire _).mono ?_
    rintro e2 w2 ⟨rfl, hB2⟩
    obtain ⟨g2, rfl⟩ := grow g1 hB2
    clear hB2
    go_wp2_with (fail)
    have hB : Below w.heap.size w g2.w := below_then hT0 g2.h
    refine bodyPost_ret (v := .agg #[.int .i64 (-2147483648), .int .i64 2147483648]) (by simp [results, Try.results96, go_sem, F10, F11]) rfl ⟨rfl, ?_⟩
    go_grown
  · rw [if_neg h1, if_neg h1]
    have h1' := Lib.hid h1
    obtain ⟨ha1, ha2, hb1, hb2, hab⟩ := hv.bd
    have e1 := mul_bound a a 2147483648 2147483648 (by omega) (by omega) (by omega) (by omega)
    have e2 := mul_bound b b 2147483648 2147483648 (by omega) (by omega) (by omega) (by omega)
    have f1 : -4611686018427387904 ≤ a * a := by omega
    have f2 : a * a ≤ 4611686018427387904 := by omega
    have f3 : -4611686018427387904 ≤ b * b := by omega
    have f4 : b * b ≤ 4611686018427387904 := by omega
    have hw := dn_within (n := -max (a * a) (b * b)) (d := 65536) (B := 4611686018427387904) (by omega) (by omega) (by omega) (by omega)
    have c2 := fun w => r2ceil (max (a * a) (b * b)) 65536 w (by omega) (by omega) (by omega) (by omega)
    have c3 := fun w => r2new (dn (sq1 a b) 65536) (up (sq2 a b) 65536) w
    unfold sq1 sq2 at *
    by_cases hc : a ≤ 0 ∧ 0 ≤ b
    · rw [if_pos hc] at c3 ⊢
      have c1 := fun w => r2floor 0 65536 w (by omega) (by omega) (by omega)
      obtain ⟨hc1, hc2⟩ := hc
      clear h1 hv e1 e2 hw
      generalize mkLo _ _ = x at *
      generalize mkHi _ _ = y at *
      generalize up (max (a * a) (b * b)) 65536 = m2 at *
      generalize dn 0 65536 = m1 at *
      go_enter Try.func96, Try.ntmps96
      go_wp2_with (fail)
      generalize hW0 : World.alloc (World.alloc w _) _ = W0
      have hT0 : Below w.heap.size w W0 := by subst hW0; exact (((Below.refl w.heap.size w).alloc (by go_size) _).alloc (by go_size) _)
      have S0 : ∀ g : Grown W0, w.heap.size < g.w.heap.size := fun g => Nat.lt_of_lt_of_le (by subst hW0; simp <;> omega) g.h.size
      have Y0 : w.heap.size < W0.heap.size := by subst hW0; simp <;> omega
      have F00 : ∀ g : Grown W0, g.w.cell? ⟨w.heap.size, 0, none⟩ = some (.int .i64 a) := fun g => (g.cell Y0).trans (by subst hW0; simp [go_sem])
      have H00 : ∀ g : Grown W0, g.w.frozen? ⟨w.heap.size, 0, none⟩ = false := fun g => (g.frozen Y0).trans (by subst hW0; simp [go_sem])
      have F01 : ∀ g : Grown W0, g.w.cell? ⟨w.heap.size, 1, none⟩ = some (.int .i64 b) := fun g => (g.cell Y0).trans (by subst hW0; simp [go_sem])
      have H01 : ∀ g : Grown W0, g.w.frozen? ⟨w.heap.size, 1, none⟩ = false := fun g => (g.frozen Y0).trans (by subst hW0; simp [go_sem])
      clear Y0
      have S1 : ∀ g : Grown W0, w.heap.size + 1 < g.w.heap.size := fun g => Nat.lt_of_lt_of_le (by subst hW0; simp <;> omega) g.h.size
      have Y1 : w.heap.size + 1 < W0.heap.size := by subst hW0; simp <;> omega
      have F10 : ∀ g : Grown W0, g.w.cell? ⟨w.heap.size + 1, 0, none⟩ = some (.int .i64 0) := fun g => (g.cell Y1).trans (by subst hW0; simp [go_sem])
      have H10 : ∀ g : Grown W0, g.w.frozen? ⟨w.heap.size + 1, 0, none⟩ = false := fun g => (g.frozen Y1).trans (by subst hW0; simp [go_sem])
      have F11 : ∀ g : Grown W0, g.w.cell? ⟨w.heap.size + 1, 1, none⟩ = some (.int .i64 0) := fun g => (g.cell Y1).trans (by subst hW0; simp [go_sem])
      have H11 : ∀ g : Grown W0, g.w.frozen? ⟨w.heap.size + 1, 1, none⟩ = false := fun g => (g.frozen Y1).trans (by subst hW0; simp [go_sem])
      clear Y1
      clear hW0
      obtain ⟨g0, hg0⟩ : ∃ g : Grown W0, W0 = g.w := ⟨⟨W0, Below.refl _ _⟩, rfl⟩
      rw [hg0]
      clear hg0
      refine (r2ent_no a b _ h1'.out).mono ?_
      rintro e1 w1 ⟨rfl, hB1⟩
      obtain ⟨g1, rfl⟩ := grow g0 hB1
      clear hB1
      go_wp2_with (fail)
      refine region_quiet' g1 (by kernel_rfl) (by kernel_rfl) ?_
      repeat (go_big_quiet_step (fail))
      refine wpQuiet_nil ?_
      rintro _ ⟨g2, rfl⟩
      go_wp2_with (fail)
      refine (c1 _).mono ?_
      rintro e3 w3 ⟨rfl, rfl⟩
      go_wp2_with (fail)
      refine (c2 _).mono ?_
      rintro e4 w4 ⟨rfl, rfl⟩
      go_wp2_with (fail)
      refine (c3 _).mono ?_
      rintro e5 w5 ⟨rfl, hB5⟩
      obtain ⟨g5, rfl⟩ := grow g2 hB5
      clear hB5
      go_wp2_with (fail)
      have hB : Below w.heap.size w g5.w := below_then hT0 g5.h
      refine bodyPost_ret (v := .agg #[.int .i64 x, .int .i64 y]) (by simp [results, Try.results96, go_sem, F10, F11]) rfl ⟨rfl, ?_⟩
      go_grown
    · rw [if_neg hc] at c3 ⊢
      have c1 := fun w => r2floor (min (a * a) (b * b)) 65536 w (by omega) (by omega) (by omega)
      clear h1 hv e1 e2 hw
      generalize mkLo _ _ = x at *
      generalize mkHi _ _ = y at *
      generalize up (max (a * a) (b * b)) 65536 = m2 at *
      generalize dn (min (a * a) (b * b)) 65536 = m1 at *
      by_cases hc1 : a ≤ 0
      · have hc2 : b < 0 := by omega
        clear hc
        go_enter Try.func96, Try.ntmps96
        go_wp2_with (fail)
        generalize hW0 : World.alloc (World.alloc w _) _ = W0
        have hT0 : Below w.heap.size w W0 := by subst hW0; exact (((Below.refl w.heap.size w).alloc (by go_size) _).alloc (by go_size) _)
        have S0 : ∀ g : Grown W0, w.heap.size < g.w.heap.size := fun g => Nat.lt_of_lt_of_le (by subst hW0; simp <;> omega) g.h.size
        have Y0 : w.heap.size < W0.heap.size := by subst hW0; simp <;> omega
        have F00 : ∀ g : Grown W0, g.w.cell? ⟨w.heap.size, 0, none⟩ = some (.int .i64 a) := fun g => (g.cell Y0).trans (by subst hW0; simp [go_sem])
        have H00 : ∀ g : Grown W0, g.w.frozen? ⟨w.heap.size, 0, none⟩ = false := fun g => (g.frozen Y0).trans (by subst hW0; simp [go_sem])
        have F01 : ∀ g : Grown W0, g.w.cell? ⟨w.heap.size, 1, none⟩ = some (.int .i64 b) := fun g => (g.cell Y0).trans (by subst hW0; simp [go_sem])
        have H01 : ∀ g : Grown W0, g.w.frozen? ⟨w.heap.size, 1, none⟩ = false := fun g => (g.frozen Y0).trans (by subst hW0; simp [go_sem])
        clear Y0
        have S1 : ∀ g : Grown W0, w.heap.size + 1 < g.w.heap.size := fun g => Nat.lt_of_lt_of_le (by subst hW0; simp <;> omega) g.h.size
        have Y1 : w.heap.size + 1 < W0.heap.size := by subst hW0; simp <;> omega
        have F10 : ∀ g : Grown W0, g.w.cell? ⟨w.heap.size + 1, 0, none⟩ = some (.int .i64 0) := fun g => (g.cell Y1).trans (by subst hW0; simp [go_sem])
        have H10 : ∀ g : Grown W0, g.w.frozen? ⟨w.heap.size + 1, 0, none⟩ = false := fun g => (g.frozen Y1).trans (by subst hW0; simp [go_sem])
        have F11 : ∀ g : Grown W0, g.w.cell? ⟨w.heap.size + 1, 1, none⟩ = some (.int .i64 0) := fun g => (g.cell Y1).trans (by subst hW0; simp [go_sem])
        have H11 : ∀ g : Grown W0, g.w.frozen? ⟨w.heap.size + 1, 1, none⟩ = false := fun g => (g.frozen Y1).trans (by subst hW0; simp [go_sem])
        clear Y1
        clear hW0
        obtain ⟨g0, hg0⟩ : ∃ g : Grown W0, W0 = g.w := ⟨⟨W0, Below.refl _ _⟩, rfl⟩
        rw [hg0]
        clear hg0
        refine (r2ent_no a b _ h1'.out).mono ?_
        rintro e1 w1 ⟨rfl, hB1⟩
        obtain ⟨g1, rfl⟩ := grow g0 hB1
        clear hB1
        go_wp2_with (fail)
        refine region_quiet' g1 (by kernel_rfl) (by kernel_rfl) ?_
        repeat (go_big_quiet_step (fail))
        refine wpQuiet_nil ?_
        rintro _ ⟨g2, rfl⟩
        go_wp2_with (fail)
        refine (c1 _).mono ?_
        rintro e3 w3 ⟨rfl, rfl⟩
        go_wp2_with (fail)
        refine (c2 _).mono ?_
        rintro e4 w4 ⟨rfl, rfl⟩
        go_wp2_with (fail)
        refine (c3 _).mono ?_
        rintro e5 w5 ⟨rfl, hB5⟩
        obtain ⟨g5, rfl⟩ := grow g2 hB5
        clear hB5
        go_wp2_with (fail)
        have hB : Below w.heap.size w g5.w := below_then hT0 g5.h
        refine bodyPost_ret (v := .agg #[.int .i64 x, .int .i64 y]) (by simp [results, Try.results96, go_sem, F10, F11]) rfl ⟨rfl, ?_⟩
        go_grown
      · have hc2 : 0 < a := by omega
        clear hc hc1
        go_enter Try.func96, Try.ntmps96
        go_wp2_with (fail)
        generalize hW0 : World.alloc (World.alloc w _) _ = W0
        have hT0 : Below w.heap.size w W0 := by subst hW0; exact (((Below.refl w.heap.size w).alloc (by go_size) _).alloc (by go_size) _)
        have S0 : ∀ g : Grown W0, w.heap.size < g.w.heap.size := fun g => Nat.lt_of_lt_of_le (by subst hW0; simp <;> omega) g.h.size
        have Y0 : w.heap.size < W0.heap.size := by subst hW0; simp <;> omega
        have F00 : ∀ g : Grown W0, g.w.cell? ⟨w.heap.size, 0, none⟩ = some (.int .i64 a) := fun g => (g.cell Y0).trans (by subst hW0; simp [go_sem])
        have H00 : ∀ g : Grown W0, g.w.frozen? ⟨w.heap.size, 0, none⟩ = false := fun g => (g.frozen Y0).trans (by subst hW0; simp [go_sem])
        have F01 : ∀ g : Grown W0, g.w.cell? ⟨w.heap.size, 1, none⟩ = some (.int .i64 b) := fun g => (g.cell Y0).trans (by subst hW0; simp [go_sem])
        have H01 : ∀ g : Grown W0, g.w.frozen? ⟨w.heap.size, 1, none⟩ = false := fun g => (g.frozen Y0).trans (by subst hW0; simp [go_sem])
        clear Y0
        have S1 : ∀ g : Grown W0, w.heap.size + 1 < g.w.heap.size := fun g => Nat.lt_of_lt_of_le (by subst hW0; simp <;> omega) g.h.size
        have Y1 : w.heap.size + 1 < W0.heap.size := by subst hW0; simp <;> omega
        have F10 : ∀ g : Grown W0, g.w.cell? ⟨w.heap.size + 1, 0, none⟩ = some (.int .i64 0) := fun g => (g.cell Y1).trans (by subst hW0; simp [go_sem])
        have H10 : ∀ g : Grown W0, g.w.frozen? ⟨w.heap.size + 1, 0, none⟩ = false := fun g => (g.frozen Y1).trans (by subst hW0; simp [go_sem])
        have F11 : ∀ g : Grown W0, g.w.cell? ⟨w.heap.size + 1, 1, none⟩ = some (.int .i64 0) := fun g => (g.cell Y1).trans (by subst hW0; simp [go_sem])
        have H11 : ∀ g : Grown W0, g.w.frozen? ⟨w.heap.size + 1, 1, none⟩ = false := fun g => (g.frozen Y1).trans (by subst hW0; simp [go_sem])
        clear Y1
        clear hW0
        obtain ⟨g0, hg0⟩ : ∃ g : Grown W0, W0 = g.w := ⟨⟨W0, Below.refl _ _⟩, rfl⟩
        rw [hg0]
        clear hg0
        refine (r2ent_no a b _ h1'.out).mono ?_
        rintro e1 w1 ⟨rfl, hB1⟩
        obtain ⟨g1, rfl⟩ := grow g0 hB1
        clear hB1
        go_wp2_with (fail)
        refine region_quiet' g1 (by kernel_rfl) (by kernel_rfl) ?_
        repeat (go_big_quiet_step (fail))
        refine wpQuiet_nil ?_
        rintro _ ⟨g2, rfl⟩
        go_wp2_with (fail)
        refine (c1 _).mono ?_
        rintro e3 w3 ⟨rfl, rfl⟩
        go_wp2_with (fail)
        refine (c2 _).mono ?_
        rintro e4 w4 ⟨rfl, rfl⟩
        go_wp2_with (fail)
        refine (c3 _).mono ?_
        rintro e5 w5 ⟨rfl, hB5⟩
        obtain ⟨g5, rfl⟩ := grow g2 hB5
        clear hB5
        go_wp2_with (fail)
        have hB : Below w.heap.size w g5.w := below_then hT0 g5.h
        refine bodyPost_ret (v := .agg #[.int .i64 x, .int .i64 y]) (by simp [results, Try.results96, go_sem, F10, F11]) rfl ⟨rfl, ?_⟩
        go_grown

end Go.Proofs.Ytecmgiihacigaaa
