/-
  The law of the measures.
-/
import Derived.Test.YtgkhkclpgkohbaaSanity
import Derived.Test.YtgkhkclpgkohbaaR1
namespace Go.Proofs.Ytgkhkclpgkohbaa
open Go.ChangeShapes Go.WideShapes Go.ChangeAt Go.RowKit
set_option linter.unusedVariables false
set_option linter.unusedSimpArgs false

open Go.BigFrame

set_option maxRecDepth 100000 in
set_option maxHeartbeats 4000000 in
theorem meas_ent (x0 x1 i : Int) (w : World) (c0 : ∀ w, Calls Try.prog 16 #[.agg #[.int .i64 x0, .int .i64 x1]] w fun e w' => e = .returned (.agg #[.int .i64 (-2147483648), .int .i64 2147483648]) ∧ Below w.heap.size w w') :
    Calls Try.prog 10 #[.agg #[.int .i64 x0, .int .i64 x1], .int .u32 i] w fun e w' => e = .returned (.bool true) ∧ Below w.heap.size w w' := by
  have c1 := fun w => is1 (iv_mid (-2147483648) 2147483648 w (by decide)) (show _ = (0 : Int) from by decide)
  have c2 := fun w => is1 (iv_width (-2147483648) 2147483648 w (by decide)) (show _ = (4294967296 : Int) from by decide)
  have c3 := fun w => is1 (iv_mag (-2147483648) 2147483648 w (by decide)) (show _ = (2147483648 : Int) from by decide)
  have c4 := fun w => is1 (iv_sign (-2147483648) 2147483648 w) (show _ = (0 : Int) from by decide)
  go_enter Try.func10, Try.ntmps10
  go_wp2_with (fail)
  generalize hW0 : World.alloc w _ = W0
  have hT0 : Below w.heap.size w W0 := by subst hW0; exact ((Below.refl w.heap.size w).alloc (by go_size) _)
  have S0 : ∀ g : Grown W0, w.heap.size < g.w.heap.size := fun g => Nat.lt_of_lt_of_le (by subst hW0; simp <;> omega) g.h.size
  have Y0 : w.heap.size < W0.heap.size := by subst hW0; simp <;> omega
  have F00 : ∀ g : Grown W0, g.w.cell? ⟨w.heap.size, 0, none⟩ = some (.int .i64 x0) := fun g => (g.cell Y0).trans (by subst hW0; simp [go_sem])
  have H00 : ∀ g : Grown W0, g.w.frozen? ⟨w.heap.size, 0, none⟩ = false := fun g => (g.frozen Y0).trans (by subst hW0; simp [go_sem])
  have F01 : ∀ g : Grown W0, g.w.cell? ⟨w.heap.size, 1, none⟩ = some (.int .i64 x1) := fun g => (g.cell Y0).trans (by subst hW0; simp [go_sem])
  have H01 : ∀ g : Grown W0, g.w.frozen? ⟨w.heap.size, 1, none⟩ = false := fun g => (g.frozen Y0).trans (by subst hW0; simp [go_sem])
  clear Y0
  clear hW0
  obtain ⟨g0, hg0⟩ : ∃ g : Grown W0, W0 = g.w := ⟨⟨W0, Below.refl _ _⟩, rfl⟩
  rw [hg0]
  clear hg0
  refine (sanity2 _).mono ?_
  rintro e1 w1 ⟨rfl, hB1⟩
  obtain ⟨g1, rfl⟩ := grow g0 hB1
  clear hB1
  go_wp2_with (fail)
  refine (c0 _).mono ?_
  rintro e2 w2 ⟨rfl, hB2⟩
  obtain ⟨g2, rfl⟩ := grow g1 hB2
  clear hB2
  go_wp2_with (fail)
  generalize hW1 : World.alloc g2.w _ = W1
  have hh := (below_then hT0 g2.h).size
  have hT1 : Below w.heap.size w W1 := by subst hW1; exact ((below_then hT0 g2.h).alloc (by first | omega | (simp <;> omega)) _)
  clear hh
  obtain ⟨nb1, hnb1⟩ : ∃ nb, nb = g2.w.heap.size := ⟨_, rfl⟩
  have Y0 : w.heap.size < W1.heap.size := by subst hW1; have := S0 g2; simp <;> omega
  have c00 := F00 g2
  have d00 := H00 g2
  have c01 := F01 g2
  have d01 := H01 g2
  have s0 := S0 g2
  clear S0 F00 F01 H00 H01
  have S0 : ∀ g : Grown W1, w.heap.size < g.w.heap.size := fun g => Nat.lt_of_lt_of_le Y0 g.h.size
  have F00 : ∀ g : Grown W1, g.w.cell? ⟨w.heap.size, 0, none⟩ = some (.int .i64 x0) := fun g => (g.cell Y0).trans (by subst hW1; rw [← c00]; exact Below.cell (B := g2.w.heap.size) ((Below.refl _ _).alloc (by first | omega | (simp <;> omega)) _) (p := ⟨w.heap.size, 0, none⟩) s0)
  have H00 : ∀ g : Grown W1, g.w.frozen? ⟨w.heap.size, 0, none⟩ = false := fun g => (g.frozen Y0).trans (by subst hW1; rw [← d00]; exact Below.frozen (B := g2.w.heap.size) ((Below.refl _ _).alloc (by first | omega | (simp <;> omega)) _) (p := ⟨w.heap.size, 0, none⟩) s0)
  have F01 : ∀ g : Grown W1, g.w.cell? ⟨w.heap.size, 1, none⟩ = some (.int .i64 x1) := fun g => (g.cell Y0).trans (by subst hW1; rw [← c01]; exact Below.cell (B := g2.w.heap.size) ((Below.refl _ _).alloc (by first | omega | (simp <;> omega)) _) (p := ⟨w.heap.size, 1, none⟩) s0)
  have H01 : ∀ g : Grown W1, g.w.frozen? ⟨w.heap.size, 1, none⟩ = false := fun g => (g.frozen Y0).trans (by subst hW1; rw [← d01]; exact Below.frozen (B := g2.w.heap.size) ((Below.refl _ _).alloc (by first | omega | (simp <;> omega)) _) (p := ⟨w.heap.size, 1, none⟩) s0)
  clear Y0 c00 c01 d00 d01 s0
  have Y1 : nb1 < W1.heap.size := by subst hW1; subst hnb1; simp <;> omega
  have S1 : ∀ g : Grown W1, nb1 < g.w.heap.size := fun g => Nat.lt_of_lt_of_le Y1 g.h.size
  have F10 : ∀ g : Grown W1, g.w.cell? ⟨nb1, 0, none⟩ = some (.int .i64 (-2147483648)) := fun g => (g.cell Y1).trans (by subst hW1; subst hnb1; simp [go_sem])
  have H10 : ∀ g : Grown W1, g.w.frozen? ⟨nb1, 0, none⟩ = false := fun g => (g.frozen Y1).trans (by subst hW1; subst hnb1; simp [go_sem])
  have F11 : ∀ g : Grown W1, g.w.cell? ⟨nb1, 1, none⟩ = some (.int .i64 2147483648) := fun g => (g.cell Y1).trans (by subst hW1; subst hnb1; simp [go_sem])
  have H11 : ∀ g : Grown W1, g.w.frozen? ⟨nb1, 1, none⟩ = false := fun g => (g.frozen Y1).trans (by subst hW1; subst hnb1; simp [go_sem])
  clear Y1
  rw [← hnb1]
  clear hnb1 hW1 hT0
  obtain ⟨h1, hg1⟩ : ∃ g : Grown W1, W1 = g.w := ⟨⟨W1, Below.refl _ _⟩, rfl⟩
  rw [hg1]
  clear hg1 g2
  refine region_quiet' h1 (by kernel_rfl) (by kernel_rfl) ?_
  repeat (go_big_quiet_step (first | (go_at_call 29; exact qc (c1 _)) | (go_at_call 31; exact qc (c2 _)) | (go_at_call 33; exact qc (c3 _))))
  refine wpQuiet_nil ?_
  rintro _ ⟨g3, rfl⟩
  go_wp2_with (fail)
  refine (r2ent_yes _).mono ?_
  rintro e4 w4 ⟨rfl, hB4⟩
  obtain ⟨g4, rfl⟩ := grow g3 hB4
  clear hB4
  go_wp2_with (fail)
  refine (c4 _).mono ?_
  rintro e5 w5 ⟨rfl, hB5⟩
  obtain ⟨g5, rfl⟩ := grow g4 hB5
  clear hB5
  go_wp2_with (fail)
  refine (iv_ent_yes _).mono ?_
  rintro e6 w6 ⟨rfl, hB6⟩
  obtain ⟨g6, rfl⟩ := grow g5 hB6
  clear hB6
  go_wp2_with (fail)
  have hB : Below w.heap.size w g6.w := below_then hT1 g6.h
  go_ret
  refine ⟨rfl, ?_⟩
  go_grown

set_option maxRecDepth 100000 in
set_option maxHeartbeats 4000000 in
theorem meas_pos (x0 x1 i a b m p : Int) (w : World) (n1 : -2147483648 < a) (n2 : b < 2147483648) (hab : a ≤ b) (p1 : a ≤ p) (p2 : p ≤ b) (m1 : a + b - 1 ≤ 2 * m) (m2 : 2 * m ≤ a + b) (h1 : 0 < a) (c0 : ∀ w, Calls Try.prog 16 #[.agg #[.int .i64 x0, .int .i64 x1]] w fun e w' => e = .returned (.agg #[.int .i64 a, .int .i64 b]) ∧ Below w.heap.size w w') (c1 : ∀ w, Calls Try.prog 29 #[.agg #[.int .i64 a, .int .i64 b]] w fun e w' => e = .returned (.int .i64 m) ∧ Below w.heap.size w w') (c2 : ∀ w, Calls Try.prog 31 #[.agg #[.int .i64 a, .int .i64 b]] w fun e w' => e = .returned (.int .i64 (b - a)) ∧ Below w.heap.size w w') (c3 : ∀ w, Calls Try.prog 33 #[.agg #[.int .i64 a, .int .i64 b]] w fun e w' => e = .returned (.int .i64 b) ∧ Below w.heap.size w w') (c4 : ∀ w, Calls Try.prog 35 #[.agg #[.int .i64 a, .int .i64 b]] w fun e w' => e = .returned (.int .i64 1) ∧ Below w.heap.size w w') (c5 : ∀ w, Calls Try.prog 38 #[.agg #[.int .i64 a, .int .i64 b]] w fun e w' => e = .returned (.bool false) ∧ Below w.heap.size w w') (c6 : ∀ w, Calls Try.prog 37 #[.agg #[.int .i64 a, .int .i64 b]] w fun e w' => e = .returned (.bool false) ∧ Below w.heap.size w w') (c7 : ∀ w, Calls Try.prog 14 #[.agg #[.int .i64 a, .int .i64 b], .int .i64 m] w fun e w' => e = .returned (.bool true) ∧ Below w.heap.size w w') (c8 : ∀ w, Calls Try.prog 57 #[.agg #[.int .i64 a, .int .i64 b], .int .u32 i] w fun e w' => e = .returned (.int .i64 p) ∧ Below w.heap.size w w') :
    Calls Try.prog 10 #[.agg #[.int .i64 x0, .int .i64 x1], .int .u32 i] w fun e w' => e = .returned (.bool true) ∧ Below w.heap.size w w' := by
  go_enter Try.func10, Try.ntmps10
  go_wp2_with (fail)
  generalize hW0 : World.alloc w _ = W0
  have hT0 : Below w.heap.size w W0 := by subst hW0; exact ((Below.refl w.heap.size w).alloc (by go_size) _)
  have S0 : ∀ g : Grown W0, w.heap.size < g.w.heap.size := fun g => Nat.lt_of_lt_of_le (by subst hW0; simp <;> omega) g.h.size
  have Y0 : w.heap.size < W0.heap.size := by subst hW0; simp <;> omega
  have F00 : ∀ g : Grown W0, g.w.cell? ⟨w.heap.size, 0, none⟩ = some (.int .i64 x0) := fun g => (g.cell Y0).trans (by subst hW0; simp [go_sem])
  have H00 : ∀ g : Grown W0, g.w.frozen? ⟨w.heap.size, 0, none⟩ = false := fun g => (g.frozen Y0).trans (by subst hW0; simp [go_sem])
  have F01 : ∀ g : Grown W0, g.w.cell? ⟨w.heap.size, 1, none⟩ = some (.int .i64 x1) := fun g => (g.cell Y0).trans (by subst hW0; simp [go_sem])
  have H01 : ∀ g : Grown W0, g.w.frozen? ⟨w.heap.size, 1, none⟩ = false := fun g => (g.frozen Y0).trans (by subst hW0; simp [go_sem])
  clear Y0
  clear hW0
  obtain ⟨g0, hg0⟩ : ∃ g : Grown W0, W0 = g.w := ⟨⟨W0, Below.refl _ _⟩, rfl⟩
  rw [hg0]
  clear hg0
  refine (sanity2 _).mono ?_
  rintro e1 w1 ⟨rfl, hB1⟩
  obtain ⟨g1, rfl⟩ := grow g0 hB1
  clear hB1
  go_wp2_with (fail)
  refine (c0 _).mono ?_
  rintro e2 w2 ⟨rfl, hB2⟩
  obtain ⟨g2, rfl⟩ := grow g1 hB2
  clear hB2
  go_wp2_with (fail)
  generalize hW1 : World.alloc g2.w _ = W1
  have hh := (below_then hT0 g2.h).size
  have hT1 : Below w.heap.size w W1 := by subst hW1; exact ((below_then hT0 g2.h).alloc (by first | omega | (simp <;> omega)) _)
  clear hh
  obtain ⟨nb1, hnb1⟩ : ∃ nb, nb = g2.w.heap.size := ⟨_, rfl⟩
  have Y0 : w.heap.size < W1.heap.size := by subst hW1; have := S0 g2; simp <;> omega
  have c00 := F00 g2
  have d00 := H00 g2
  have c01 := F01 g2
  have d01 := H01 g2
  have s0 := S0 g2
  clear S0 F00 F01 H00 H01
  have S0 : ∀ g : Grown W1, w.heap.size < g.w.heap.size := fun g => Nat.lt_of_lt_of_le Y0 g.h.size
  have F00 : ∀ g : Grown W1, g.w.cell? ⟨w.heap.size, 0, none⟩ = some (.int .i64 x0) := fun g => (g.cell Y0).trans (by subst hW1; rw [← c00]; exact Below.cell (B := g2.w.heap.size) ((Below.refl _ _).alloc (by first | omega | (simp <;> omega)) _) (p := ⟨w.heap.size, 0, none⟩) s0)
  have H00 : ∀ g : Grown W1, g.w.frozen? ⟨w.heap.size, 0, none⟩ = false := fun g => (g.frozen Y0).trans (by subst hW1; rw [← d00]; exact Below.frozen (B := g2.w.heap.size) ((Below.refl _ _).alloc (by first | omega | (simp <;> omega)) _) (p := ⟨w.heap.size, 0, none⟩) s0)
  have F01 : ∀ g : Grown W1, g.w.cell? ⟨w.heap.size, 1, none⟩ = some (.int .i64 x1) := fun g => (g.cell Y0).trans (by subst hW1; rw [← c01]; exact Below.cell (B := g2.w.heap.size) ((Below.refl _ _).alloc (by first | omega | (simp <;> omega)) _) (p := ⟨w.heap.size, 1, none⟩) s0)
  have H01 : ∀ g : Grown W1, g.w.frozen? ⟨w.heap.size, 1, none⟩ = false := fun g => (g.frozen Y0).trans (by subst hW1; rw [← d01]; exact Below.frozen (B := g2.w.heap.size) ((Below.refl _ _).alloc (by first | omega | (simp <;> omega)) _) (p := ⟨w.heap.size, 1, none⟩) s0)
  clear Y0 c00 c01 d00 d01 s0
  have Y1 : nb1 < W1.heap.size := by subst hW1; subst hnb1; simp <;> omega
  have S1 : ∀ g : Grown W1, nb1 < g.w.heap.size := fun g => Nat.lt_of_lt_of_le Y1 g.h.size
  have F10 : ∀ g : Grown W1, g.w.cell? ⟨nb1, 0, none⟩ = some (.int .i64 a) := fun g => (g.cell Y1).trans (by subst hW1; subst hnb1; simp [go_sem])
  have H10 : ∀ g : Grown W1, g.w.frozen? ⟨nb1, 0, none⟩ = false := fun g => (g.frozen Y1).trans (by subst hW1; subst hnb1; simp [go_sem])
  have F11 : ∀ g : Grown W1, g.w.cell? ⟨nb1, 1, none⟩ = some (.int .i64 b) := fun g => (g.cell Y1).trans (by subst hW1; subst hnb1; simp [go_sem])
  have H11 : ∀ g : Grown W1, g.w.frozen? ⟨nb1, 1, none⟩ = false := fun g => (g.frozen Y1).trans (by subst hW1; subst hnb1; simp [go_sem])
  clear Y1
  rw [← hnb1]
  clear hnb1 hW1 hT0
  obtain ⟨h1, hg1⟩ : ∃ g : Grown W1, W1 = g.w := ⟨⟨W1, Below.refl _ _⟩, rfl⟩
  rw [hg1]
  clear hg1 g2
  refine region_quiet' h1 (by kernel_rfl) (by kernel_rfl) ?_
  repeat (go_big_quiet_step (first | (go_at_call 29; exact qc (c1 _)) | (go_at_call 31; exact qc (c2 _)) | (go_at_call 33; exact qc (c3 _))))
  refine wpQuiet_nil ?_
  rintro _ ⟨g3, rfl⟩
  go_wp2_with (fail)
  refine (c5 _).mono ?_
  rintro e4 w4 ⟨rfl, hB4⟩
  obtain ⟨g4, rfl⟩ := grow g3 hB4
  clear hB4
  go_wp2_with (fail)
  refine (c8 _).mono ?_
  rintro e5 w5 ⟨rfl, hB5⟩
  obtain ⟨g5, rfl⟩ := grow g4 hB5
  clear hB5
  go_wp2_with (fail)
  refine (c7 _).mono ?_
  rintro e6 w6 ⟨rfl, hB6⟩
  obtain ⟨g6, rfl⟩ := grow g5 hB6
  clear hB6
  go_wp2_with (fail)
  refine (c4 _).mono ?_
  rintro e7 w7 ⟨rfl, hB7⟩
  obtain ⟨g7, rfl⟩ := grow g6 hB7
  clear hB7
  go_wp2_with (fail)
  refine (c6 _).mono ?_
  rintro e8 w8 ⟨rfl, hB8⟩
  obtain ⟨g8, rfl⟩ := grow g7 hB8
  clear hB8
  go_wp2_with (fail)
  have hB : Below w.heap.size w g8.w := below_then hT1 g8.h
  go_ret
  refine ⟨rfl, ?_⟩
  go_grown

set_option maxRecDepth 100000 in
set_option maxHeartbeats 4000000 in
theorem meas_neg (x0 x1 i a b m p : Int) (w : World) (n1 : -2147483648 < a) (n2 : b < 2147483648) (hab : a ≤ b) (p1 : a ≤ p) (p2 : p ≤ b) (m1 : a + b - 1 ≤ 2 * m) (m2 : 2 * m ≤ a + b) (h1 : b < 0) (h2 : (-a != b) = true) (c0 : ∀ w, Calls Try.prog 16 #[.agg #[.int .i64 x0, .int .i64 x1]] w fun e w' => e = .returned (.agg #[.int .i64 a, .int .i64 b]) ∧ Below w.heap.size w w') (c1 : ∀ w, Calls Try.prog 29 #[.agg #[.int .i64 a, .int .i64 b]] w fun e w' => e = .returned (.int .i64 m) ∧ Below w.heap.size w w') (c2 : ∀ w, Calls Try.prog 31 #[.agg #[.int .i64 a, .int .i64 b]] w fun e w' => e = .returned (.int .i64 (b - a)) ∧ Below w.heap.size w w') (c3 : ∀ w, Calls Try.prog 33 #[.agg #[.int .i64 a, .int .i64 b]] w fun e w' => e = .returned (.int .i64 (-a)) ∧ Below w.heap.size w w') (c4 : ∀ w, Calls Try.prog 35 #[.agg #[.int .i64 a, .int .i64 b]] w fun e w' => e = .returned (.int .i64 (-1)) ∧ Below w.heap.size w w') (c5 : ∀ w, Calls Try.prog 38 #[.agg #[.int .i64 a, .int .i64 b]] w fun e w' => e = .returned (.bool false) ∧ Below w.heap.size w w') (c6 : ∀ w, Calls Try.prog 37 #[.agg #[.int .i64 a, .int .i64 b]] w fun e w' => e = .returned (.bool false) ∧ Below w.heap.size w w') (c7 : ∀ w, Calls Try.prog 14 #[.agg #[.int .i64 a, .int .i64 b], .int .i64 m] w fun e w' => e = .returned (.bool true) ∧ Below w.heap.size w w') (c8 : ∀ w, Calls Try.prog 57 #[.agg #[.int .i64 a, .int .i64 b], .int .u32 i] w fun e w' => e = .returned (.int .i64 p) ∧ Below w.heap.size w w') :
    Calls Try.prog 10 #[.agg #[.int .i64 x0, .int .i64 x1], .int .u32 i] w fun e w' => e = .returned (.bool true) ∧ Below w.heap.size w w' := by
  go_enter Try.func10, Try.ntmps10
  go_wp2_with (fail)
  generalize hW0 : World.alloc w _ = W0
  have hT0 : Below w.heap.size w W0 := by subst hW0; exact ((Below.refl w.heap.size w).alloc (by go_size) _)
  have S0 : ∀ g : Grown W0, w.heap.size < g.w.heap.size := fun g => Nat.lt_of_lt_of_le (by subst hW0; simp <;> omega) g.h.size
  have Y0 : w.heap.size < W0.heap.size := by subst hW0; simp <;> omega
  have F00 : ∀ g : Grown W0, g.w.cell? ⟨w.heap.size, 0, none⟩ = some (.int .i64 x0) := fun g => (g.cell Y0).trans (by subst hW0; simp [go_sem])
  have H00 : ∀ g : Grown W0, g.w.frozen? ⟨w.heap.size, 0, none⟩ = false := fun g => (g.frozen Y0).trans (by subst hW0; simp [go_sem])
  have F01 : ∀ g : Grown W0, g.w.cell? ⟨w.heap.size, 1, none⟩ = some (.int .i64 x1) := fun g => (g.cell Y0).trans (by subst hW0; simp [go_sem])
  have H01 : ∀ g : Grown W0, g.w.frozen? ⟨w.heap.size, 1, none⟩ = false := fun g => (g.frozen Y0).trans (by subst hW0; simp [go_sem])
  clear Y0
  clear hW0
  obtain ⟨g0, hg0⟩ : ∃ g : Grown W0, W0 = g.w := ⟨⟨W0, Below.refl _ _⟩, rfl⟩
  rw [hg0]
  clear hg0
  refine (sanity2 _).mono ?_
  rintro e1 w1 ⟨rfl, hB1⟩
  obtain ⟨g1, rfl⟩ := grow g0 hB1
  clear hB1
  go_wp2_with (fail)
  refine (c0 _).mono ?_
  rintro e2 w2 ⟨rfl, hB2⟩
  obtain ⟨g2, rfl⟩ := grow g1 hB2
  clear hB2
  go_wp2_with (fail)
  generalize hW1 : World.alloc g2.w _ = W1
  have hh := (below_then hT0 g2.h).size
  have hT1 : Below w.heap.size w W1 := by subst hW1; exact ((below_then hT0 g2.h).alloc (by first | omega | (simp <;> omega)) _)
  clear hh
  obtain ⟨nb1, hnb1⟩ : ∃ nb, nb = g2.w.heap.size := ⟨_, rfl⟩
  have Y0 : w.heap.size < W1.heap.size := by subst hW1; have := S0 g2; simp <;> omega
  have c00 := F00 g2
  have d00 := H00 g2
  have c01 := F01 g2
  have d01 := H01 g2
  have s0 := S0 g2
  clear S0 F00 F01 H00 H01
  have S0 : ∀ g : Grown W1, w.heap.size < g.w.heap.size := fun g => Nat.lt_of_lt_of_le Y0 g.h.size
  have F00 : ∀ g : Grown W1, g.w.cell? ⟨w.heap.size, 0, none⟩ = some (.int .i64 x0) := fun g => (g.cell Y0).trans (by subst hW1; rw [← c00]; exact Below.cell (B := g2.w.heap.size) ((Below.refl _ _).alloc (by first | omega | (simp <;> omega)) _) (p := ⟨w.heap.size, 0, none⟩) s0)
  have H00 : ∀ g : Grown W1, g.w.frozen? ⟨w.heap.size, 0, none⟩ = false := fun g => (g.frozen Y0).trans (by subst hW1; rw [← d00]; exact Below.frozen (B := g2.w.heap.size) ((Below.refl _ _).alloc (by first | omega | (simp <;> omega)) _) (p := ⟨w.heap.size, 0, none⟩) s0)
  have F01 : ∀ g : Grown W1, g.w.cell? ⟨w.heap.size, 1, none⟩ = some (.int .i64 x1) := fun g => (g.cell Y0).trans (by subst hW1; rw [← c01]; exact Below.cell (B := g2.w.heap.size) ((Below.refl _ _).alloc (by first | omega | (simp <;> omega)) _) (p := ⟨w.heap.size, 1, none⟩) s0)
  have H01 : ∀ g : Grown W1, g.w.frozen? ⟨w.heap.size, 1, none⟩ = false := fun g => (g.frozen Y0).trans (by subst hW1; rw [← d01]; exact Below.frozen (B := g2.w.heap.size) ((Below.refl _ _).alloc (by first | omega | (simp <;> omega)) _) (p := ⟨w.heap.size, 1, none⟩) s0)
  clear Y0 c00 c01 d00 d01 s0
  have Y1 : nb1 < W1.heap.size := by subst hW1; subst hnb1; simp <;> omega
  have S1 : ∀ g : Grown W1, nb1 < g.w.heap.size := fun g => Nat.lt_of_lt_of_le Y1 g.h.size
  have F10 : ∀ g : Grown W1, g.w.cell? ⟨nb1, 0, none⟩ = some (.int .i64 a) := fun g => (g.cell Y1).trans (by subst hW1; subst hnb1; simp [go_sem])
  have H10 : ∀ g : Grown W1, g.w.frozen? ⟨nb1, 0, none⟩ = false := fun g => (g.frozen Y1).trans (by subst hW1; subst hnb1; simp [go_sem])
  have F11 : ∀ g : Grown W1, g.w.cell? ⟨nb1, 1, none⟩ = some (.int .i64 b) := fun g => (g.cell Y1).trans (by subst hW1; subst hnb1; simp [go_sem])
  have H11 : ∀ g : Grown W1, g.w.frozen? ⟨nb1, 1, none⟩ = false := fun g => (g.frozen Y1).trans (by subst hW1; subst hnb1; simp [go_sem])
  clear Y1
  rw [← hnb1]
  clear hnb1 hW1 hT0
  obtain ⟨h1, hg1⟩ : ∃ g : Grown W1, W1 = g.w := ⟨⟨W1, Below.refl _ _⟩, rfl⟩
  rw [hg1]
  clear hg1 g2
  refine region_quiet' h1 (by kernel_rfl) (by kernel_rfl) ?_
  repeat (go_big_quiet_step (first | (go_at_call 29; exact qc (c1 _)) | (go_at_call 31; exact qc (c2 _)) | (go_at_call 33; exact qc (c3 _))))
  refine wpQuiet_nil ?_
  rintro _ ⟨g3, rfl⟩
  go_wp2_with (fail)
  refine (c5 _).mono ?_
  rintro e4 w4 ⟨rfl, hB4⟩
  obtain ⟨g4, rfl⟩ := grow g3 hB4
  clear hB4
  go_wp2_with (fail)
  refine (c8 _).mono ?_
  rintro e5 w5 ⟨rfl, hB5⟩
  obtain ⟨g5, rfl⟩ := grow g4 hB5
  clear hB5
  go_wp2_with (fail)
  refine (c7 _).mono ?_
  rintro e6 w6 ⟨rfl, hB6⟩
  obtain ⟨g6, rfl⟩ := grow g5 hB6
  clear hB6
  go_wp2_with (fail)
  refine (c4 _).mono ?_
  rintro e7 w7 ⟨rfl, hB7⟩
  obtain ⟨g7, rfl⟩ := grow g6 hB7
  clear hB7
  go_wp2_with (fail)
  refine (c6 _).mono ?_
  rintro e8 w8 ⟨rfl, hB8⟩
  obtain ⟨g8, rfl⟩ := grow g7 hB8
  clear hB8
  go_wp2_with (fail)
  have hB : Below w.heap.size w g8.w := below_then hT1 g8.h
  go_ret
  refine ⟨rfl, ?_⟩
  go_grown

set_option maxRecDepth 100000 in
set_option maxHeartbeats 4000000 in
theorem meas_mb (x0 x1 i a b m p : Int) (w : World) (n1 : -2147483648 < a) (n2 : b < 2147483648) (hab : a ≤ b) (p1 : a ≤ p) (p2 : p ≤ b) (m1 : a + b - 1 ≤ 2 * m) (m2 : 2 * m ≤ a + b) (h1 : a ≤ 0) (h2 : 0 ≤ b) (h3 : -a ≤ b) (c0 : ∀ w, Calls Try.prog 16 #[.agg #[.int .i64 x0, .int .i64 x1]] w fun e w' => e = .returned (.agg #[.int .i64 a, .int .i64 b]) ∧ Below w.heap.size w w') (c1 : ∀ w, Calls Try.prog 29 #[.agg #[.int .i64 a, .int .i64 b]] w fun e w' => e = .returned (.int .i64 m) ∧ Below w.heap.size w w') (c2 : ∀ w, Calls Try.prog 31 #[.agg #[.int .i64 a, .int .i64 b]] w fun e w' => e = .returned (.int .i64 (b - a)) ∧ Below w.heap.size w w') (c3 : ∀ w, Calls Try.prog 33 #[.agg #[.int .i64 a, .int .i64 b]] w fun e w' => e = .returned (.int .i64 b) ∧ Below w.heap.size w w') (c4 : ∀ w, Calls Try.prog 35 #[.agg #[.int .i64 a, .int .i64 b]] w fun e w' => e = .returned (.int .i64 0) ∧ Below w.heap.size w w') (c5 : ∀ w, Calls Try.prog 38 #[.agg #[.int .i64 a, .int .i64 b]] w fun e w' => e = .returned (.bool false) ∧ Below w.heap.size w w') (c6 : ∀ w, Calls Try.prog 37 #[.agg #[.int .i64 a, .int .i64 b]] w fun e w' => e = .returned (.bool false) ∧ Below w.heap.size w w') (c7 : ∀ w, Calls Try.prog 14 #[.agg #[.int .i64 a, .int .i64 b], .int .i64 m] w fun e w' => e = .returned (.bool true) ∧ Below w.heap.size w w') (c8 : ∀ w, Calls Try.prog 57 #[.agg #[.int .i64 a, .int .i64 b], .int .u32 i] w fun e w' => e = .returned (.int .i64 p) ∧ Below w.heap.size w w') :
    Calls Try.prog 10 #[.agg #[.int .i64 x0, .int .i64 x1], .int .u32 i] w fun e w' => e = .returned (.bool true) ∧ Below w.heap.size w w' := by
  go_enter Try.func10, Try.ntmps10
  go_wp2_with (fail)
  generalize hW0 : World.alloc w _ = W0
  have hT0 : Below w.heap.size w W0 := by subst hW0; exact ((Below.refl w.heap.size w).alloc (by go_size) _)
  have S0 : ∀ g : Grown W0, w.heap.size < g.w.heap.size := fun g => Nat.lt_of_lt_of_le (by subst hW0; simp <;> omega) g.h.size
  have Y0 : w.heap.size < W0.heap.size := by subst hW0; simp <;> omega
  have F00 : ∀ g : Grown W0, g.w.cell? ⟨w.heap.size, 0, none⟩ = some (.int .i64 x0) := fun g => (g.cell Y0).trans (by subst hW0; simp [go_sem])
  have H00 : ∀ g : Grown W0, g.w.frozen? ⟨w.heap.size, 0, none⟩ = false := fun g => (g.frozen Y0).trans (by subst hW0; simp [go_sem])
  have F01 : ∀ g : Grown W0, g.w.cell? ⟨w.heap.size, 1, none⟩ = some (.int .i64 x1) := fun g => (g.cell Y0).trans (by subst hW0; simp [go_sem])
  have H01 : ∀ g : Grown W0, g.w.frozen? ⟨w.heap.size, 1, none⟩ = false := fun g => (g.frozen Y0).trans (by subst hW0; simp [go_sem])
  clear Y0
  clear hW0
  obtain ⟨g0, hg0⟩ : ∃ g : Grown W0, W0 = g.w := ⟨⟨W0, Below.refl _ _⟩, rfl⟩
  rw [hg0]
  clear hg0
  refine (sanity2 _).mono ?_
  rintro e1 w1 ⟨rfl, hB1⟩
  obtain ⟨g1, rfl⟩ := grow g0 hB1
  clear hB1
  go_wp2_with (fail)
  refine (c0 _).mono ?_
  rintro e2 w2 ⟨rfl, hB2⟩
  obtain ⟨g2, rfl⟩ := grow g1 hB2
  clear hB2
  go_wp2_with (fail)
  generalize hW1 : World.alloc g2.w _ = W1
  have hh := (below_then hT0 g2.h).size
  have hT1 : Below w.heap.size w W1 := by subst hW1; exact ((below_then hT0 g2.h).alloc (by first | omega | (simp <;> omega)) _)
  clear hh
  obtain ⟨nb1, hnb1⟩ : ∃ nb, nb = g2.w.heap.size := ⟨_, rfl⟩
  have Y0 : w.heap.size < W1.heap.size := by subst hW1; have := S0 g2; simp <;> omega
  have c00 := F00 g2
  have d00 := H00 g2
  have c01 := F01 g2
  have d01 := H01 g2
  have s0 := S0 g2
  clear S0 F00 F01 H00 H01
  have S0 : ∀ g : Grown W1, w.heap.size < g.w.heap.size := fun g => Nat.lt_of_lt_of_le Y0 g.h.size
  have F00 : ∀ g : Grown W1, g.w.cell? ⟨w.heap.size, 0, none⟩ = some (.int .i64 x0) := fun g => (g.cell Y0).trans (by subst hW1; rw [← c00]; exact Below.cell (B := g2.w.heap.size) ((Below.refl _ _).alloc (by first | omega | (simp <;> omega)) _) (p := ⟨w.heap.size, 0, none⟩) s0)
  have H00 : ∀ g : Grown W1, g.w.frozen? ⟨w.heap.size, 0, none⟩ = false := fun g => (g.frozen Y0).trans (by subst hW1; rw [← d00]; exact Below.frozen (B := g2.w.heap.size) ((Below.refl _ _).alloc (by first | omega | (simp <;> omega)) _) (p := ⟨w.heap.size, 0, none⟩) s0)
  have F01 : ∀ g : Grown W1, g.w.cell? ⟨w.heap.size, 1, none⟩ = some (.int .i64 x1) := fun g => (g.cell Y0).trans (by subst hW1; rw [← c01]; exact Below.cell (B := g2.w.heap.size) ((Below.refl _ _).alloc (by first | omega | (simp <;> omega)) _) (p := ⟨w.heap.size, 1, none⟩) s0)
  have H01 : ∀ g : Grown W1, g.w.frozen? ⟨w.heap.size, 1, none⟩ = false := fun g => (g.frozen Y0).trans (by subst hW1; rw [← d01]; exact Below.frozen (B := g2.w.heap.size) ((Below.refl _ _).alloc (by first | omega | (simp <;> omega)) _) (p := ⟨w.heap.size, 1, none⟩) s0)
  clear Y0 c00 c01 d00 d01 s0
  have Y1 : nb1 < W1.heap.size := by subst hW1; subst hnb1; simp <;> omega
  have S1 : ∀ g : Grown W1, nb1 < g.w.heap.size := fun g => Nat.lt_of_lt_of_le Y1 g.h.size
  have F10 : ∀ g : Grown W1, g.w.cell? ⟨nb1, 0, none⟩ = some (.int .i64 a) := fun g => (g.cell Y1).trans (by subst hW1; subst hnb1; simp [go_sem])
  have H10 : ∀ g : Grown W1, g.w.frozen? ⟨nb1, 0, none⟩ = false := fun g => (g.frozen Y1).trans (by subst hW1; subst hnb1; simp [go_sem])
  have F11 : ∀ g : Grown W1, g.w.cell? ⟨nb1, 1, none⟩ = some (.int .i64 b) := fun g => (g.cell Y1).trans (by subst hW1; subst hnb1; simp [go_sem])
  have H11 : ∀ g : Grown W1, g.w.frozen? ⟨nb1, 1, none⟩ = false := fun g => (g.frozen Y1).trans (by subst hW1; subst hnb1; simp [go_sem])
  clear Y1
  rw [← hnb1]
  clear hnb1 hW1 hT0
  obtain ⟨h1, hg1⟩ : ∃ g : Grown W1, W1 = g.w := ⟨⟨W1, Below.refl _ _⟩, rfl⟩
  rw [hg1]
  clear hg1 g2
  refine region_quiet' h1 (by kernel_rfl) (by kernel_rfl) ?_
  repeat (go_big_quiet_step (first | (go_at_call 29; exact qc (c1 _)) | (go_at_call 31; exact qc (c2 _)) | (go_at_call 33; exact qc (c3 _))))
  refine wpQuiet_nil ?_
  rintro _ ⟨g3, rfl⟩
  go_wp2_with (fail)
  refine (c5 _).mono ?_
  rintro e4 w4 ⟨rfl, hB4⟩
  obtain ⟨g4, rfl⟩ := grow g3 hB4
  clear hB4
  go_wp2_with (fail)
  refine (c8 _).mono ?_
  rintro e5 w5 ⟨rfl, hB5⟩
  obtain ⟨g5, rfl⟩ := grow g4 hB5
  clear hB5
  go_wp2_with (fail)
  refine (c7 _).mono ?_
  rintro e6 w6 ⟨rfl, hB6⟩
  obtain ⟨g6, rfl⟩ := grow g5 hB6
  clear hB6
  go_wp2_with (fail)
  refine (c4 _).mono ?_
  rintro e7 w7 ⟨rfl, hB7⟩
  obtain ⟨g7, rfl⟩ := grow g6 hB7
  clear hB7
  go_wp2_with (fail)
  refine (c6 _).mono ?_
  rintro e8 w8 ⟨rfl, hB8⟩
  obtain ⟨g8, rfl⟩ := grow g7 hB8
  clear hB8
  go_wp2_with (fail)
  have hB : Below w.heap.size w g8.w := below_then hT1 g8.h
  go_ret
  refine ⟨rfl, ?_⟩
  go_grown

set_option maxRecDepth 100000 in
set_option maxHeartbeats 4000000 in
theorem meas_ma (x0 x1 i a b m p : Int) (w : World) (n1 : -2147483648 < a) (n2 : b < 2147483648) (hab : a ≤ b) (p1 : a ≤ p) (p2 : p ≤ b) (m1 : a + b - 1 ≤ 2 * m) (m2 : 2 * m ≤ a + b) (h1 : a ≤ 0) (h2 : 0 ≤ b) (h3 : b < -a) (h4 : (-a != b) = true) (c0 : ∀ w, Calls Try.prog 16 #[.agg #[.int .i64 x0, .int .i64 x1]] w fun e w' => e = .returned (.agg #[.int .i64 a, .int .i64 b]) ∧ Below w.heap.size w w') (c1 : ∀ w, Calls Try.prog 29 #[.agg #[.int .i64 a, .int .i64 b]] w fun e w' => e = .returned (.int .i64 m) ∧ Below w.heap.size w w') (c2 : ∀ w, Calls Try.prog 31 #[.agg #[.int .i64 a, .int .i64 b]] w fun e w' => e = .returned (.int .i64 (b - a)) ∧ Below w.heap.size w w') (c3 : ∀ w, Calls Try.prog 33 #[.agg #[.int .i64 a, .int .i64 b]] w fun e w' => e = .returned (.int .i64 (-a)) ∧ Below w.heap.size w w') (c4 : ∀ w, Calls Try.prog 35 #[.agg #[.int .i64 a, .int .i64 b]] w fun e w' => e = .returned (.int .i64 0) ∧ Below w.heap.size w w') (c5 : ∀ w, Calls Try.prog 38 #[.agg #[.int .i64 a, .int .i64 b]] w fun e w' => e = .returned (.bool false) ∧ Below w.heap.size w w') (c6 : ∀ w, Calls Try.prog 37 #[.agg #[.int .i64 a, .int .i64 b]] w fun e w' => e = .returned (.bool false) ∧ Below w.heap.size w w') (c7 : ∀ w, Calls Try.prog 14 #[.agg #[.int .i64 a, .int .i64 b], .int .i64 m] w fun e w' => e = .returned (.bool true) ∧ Below w.heap.size w w') (c8 : ∀ w, Calls Try.prog 57 #[.agg #[.int .i64 a, .int .i64 b], .int .u32 i] w fun e w' => e = .returned (.int .i64 p) ∧ Below w.heap.size w w') :
    Calls Try.prog 10 #[.agg #[.int .i64 x0, .int .i64 x1], .int .u32 i] w fun e w' => e = .returned (.bool true) ∧ Below w.heap.size w w' := by
  go_enter Try.func10, Try.ntmps10
  go_wp2_with (fail)
  generalize hW0 : World.alloc w _ = W0
  have hT0 : Below w.heap.size w W0 := by subst hW0; exact ((Below.refl w.heap.size w).alloc (by go_size) _)
  have S0 : ∀ g : Grown W0, w.heap.size < g.w.heap.size := fun g => Nat.lt_of_lt_of_le (by subst hW0; simp <;> omega) g.h.size
  have Y0 : w.heap.size < W0.heap.size := by subst hW0; simp <;> omega
  have F00 : ∀ g : Grown W0, g.w.cell? ⟨w.heap.size, 0, none⟩ = some (.int .i64 x0) := fun g => (g.cell Y0).trans (by subst hW0; simp [go_sem])
  have H00 : ∀ g : Grown W0, g.w.frozen? ⟨w.heap.size, 0, none⟩ = false := fun g => (g.frozen Y0).trans (by subst hW0; simp [go_sem])
  have F01 : ∀ g : Grown W0, g.w.cell? ⟨w.heap.size, 1, none⟩ = some (.int .i64 x1) := fun g => (g.cell Y0).trans (by subst hW0; simp [go_sem])
  have H01 : ∀ g : Grown W0, g.w.frozen? ⟨w.heap.size, 1, none⟩ = false := fun g => (g.frozen Y0).trans (by subst hW0; simp [go_sem])
  clear Y0
  clear hW0
  obtain ⟨g0, hg0⟩ : ∃ g : Grown W0, W0 = g.w := ⟨⟨W0, Below.refl _ _⟩, rfl⟩
  rw [hg0]
  clear hg0
  refine (sanity2 _).mono ?_
  rintro e1 w1 ⟨rfl, hB1⟩
  obtain ⟨g1, rfl⟩ := grow g0 hB1
  clear hB1
  go_wp2_with (fail)
  refine (c0 _).mono ?_
  rintro e2 w2 ⟨rfl, hB2⟩
  obtain ⟨g2, rfl⟩ := grow g1 hB2
  clear hB2
  go_wp2_with (fail)
  generalize hW1 : World.alloc g2.w _ = W1
  have hh := (below_then hT0 g2.h).size
  have hT1 : Below w.heap.size w W1 := by subst hW1; exact ((below_then hT0 g2.h).alloc (by first | omega | (simp <;> omega)) _)
  clear hh
  obtain ⟨nb1, hnb1⟩ : ∃ nb, nb = g2.w.heap.size := ⟨_, rfl⟩
  have Y0 : w.heap.size < W1.heap.size := by subst hW1; have := S0 g2; simp <;> omega
  have c00 := F00 g2
  have d00 := H00 g2
  have c01 := F01 g2
  have d01 := H01 g2
  have s0 := S0 g2
  clear S0 F00 F01 H00 H01
  have S0 : ∀ g : Grown W1, w.heap.size < g.w.heap.size := fun g => Nat.lt_of_lt_of_le Y0 g.h.size
  have F00 : ∀ g : Grown W1, g.w.cell? ⟨w.heap.size, 0, none⟩ = some (.int .i64 x0) := fun g => (g.cell Y0).trans (by subst hW1; rw [← c00]; exact Below.cell (B := g2.w.heap.size) ((Below.refl _ _).alloc (by first | omega | (simp <;> omega)) _) (p := ⟨w.heap.size, 0, none⟩) s0)
  have H00 : ∀ g : Grown W1, g.w.frozen? ⟨w.heap.size, 0, none⟩ = false := fun g => (g.frozen Y0).trans (by subst hW1; rw [← d00]; exact Below.frozen (B := g2.w.heap.size) ((Below.refl _ _).alloc (by first | omega | (simp <;> omega)) _) (p := ⟨w.heap.size, 0, none⟩) s0)
  have F01 : ∀ g : Grown W1, g.w.cell? ⟨w.heap.size, 1, none⟩ = some (.int .i64 x1) := fun g => (g.cell Y0).trans (by subst hW1; rw [← c01]; exact Below.cell (B := g2.w.heap.size) ((Below.refl _ _).alloc (by first | omega | (simp <;> omega)) _) (p := ⟨w.heap.size, 1, none⟩) s0)
  have H01 : ∀ g : Grown W1, g.w.frozen? ⟨w.heap.size, 1, none⟩ = false := fun g => (g.frozen Y0).trans (by subst hW1; rw [← d01]; exact Below.frozen (B := g2.w.heap.size) ((Below.refl _ _).alloc (by first | omega | (simp <;> omega)) _) (p := ⟨w.heap.size, 1, none⟩) s0)
  clear Y0 c00 c01 d00 d01 s0
  have Y1 : nb1 < W1.heap.size := by subst hW1; subst hnb1; simp <;> omega
  have S1 : ∀ g : Grown W1, nb1 < g.w.heap.size := fun g => Nat.lt_of_lt_of_le Y1 g.h.size
  have F10 : ∀ g : Grown W1, g.w.cell? ⟨nb1, 0, none⟩ = some (.int .i64 a) := fun g => (g.cell Y1).trans (by subst hW1; subst hnb1; simp [go_sem])
  have H10 : ∀ g : Grown W1, g.w.frozen? ⟨nb1, 0, none⟩ = false := fun g => (g.frozen Y1).trans (by subst hW1; subst hnb1; simp [go_sem])
  have F11 : ∀ g : Grown W1, g.w.cell? ⟨nb1, 1, none⟩ = some (.int .i64 b) := fun g => (g.cell Y1).trans (by subst hW1; subst hnb1; simp [go_sem])
  have H11 : ∀ g : Grown W1, g.w.frozen? ⟨nb1, 1, none⟩ = false := fun g => (g.frozen Y1).trans (by subst hW1; subst hnb1; simp [go_sem])
  clear Y1
  rw [← hnb1]
  clear hnb1 hW1 hT0
  obtain ⟨h1, hg1⟩ : ∃ g : Grown W1, W1 = g.w := ⟨⟨W1, Below.refl _ _⟩, rfl⟩
  rw [hg1]
  clear hg1 g2
  refine region_quiet' h1 (by kernel_rfl) (by kernel_rfl) ?_
  repeat (go_big_quiet_step (first | (go_at_call 29; exact qc (c1 _)) | (go_at_call 31; exact qc (c2 _)) | (go_at_call 33; exact qc (c3 _))))
  refine wpQuiet_nil ?_
  rintro _ ⟨g3, rfl⟩
  go_wp2_with (fail)
  refine (c5 _).mono ?_
  rintro e4 w4 ⟨rfl, hB4⟩
  obtain ⟨g4, rfl⟩ := grow g3 hB4
  clear hB4
  go_wp2_with (fail)
  refine (c8 _).mono ?_
  rintro e5 w5 ⟨rfl, hB5⟩
  obtain ⟨g5, rfl⟩ := grow g4 hB5
  clear hB5
  go_wp2_with (fail)
  refine (c7 _).mono ?_
  rintro e6 w6 ⟨rfl, hB6⟩
  obtain ⟨g6, rfl⟩ := grow g5 hB6
  clear hB6
  go_wp2_with (fail)
  refine (c4 _).mono ?_
  rintro e7 w7 ⟨rfl, hB7⟩
  obtain ⟨g7, rfl⟩ := grow g6 hB7
  clear hB7
  go_wp2_with (fail)
  refine (c6 _).mono ?_
  rintro e8 w8 ⟨rfl, hB8⟩
  obtain ⟨g8, rfl⟩ := grow g7 hB8
  clear hB8
  go_wp2_with (fail)
  have hB : Below w.heap.size w g8.w := below_then hT1 g8.h
  go_ret
  refine ⟨rfl, ?_⟩
  go_grown

theorem meas (x0 x1 : Int) (hx : ∀ x ∈ [x0, x1], IntKind.has .i64 x) (i : Int) (hi : (Lit.int .u32 i).wf = true) (w : World) :
    Calls Try.prog 10 #[.agg #[.int .i64 x0, .int .i64 x1], .int .u32 i] w fun e w' => e = .returned (.bool true) ∧ Below w.heap.size w w' := by
  have h0 := hx x0 (by simp)
  have h1 := hx x1 (by simp)
  have e1 : IntKind.i64.min = -9223372036854775808 := by rfl
  have e2 : IntKind.i64.max = 9223372036854775807 := by rfl
  simp only [IntKind.has, e1, e2] at h0 h1
  have e3 : IntKind.u32.min = 0 := by rfl
  have e4 : IntKind.u32.max = 4294967295 := by rfl
  simp only [Lit.wf, Bool.and_eq_true, decide_eq_true_eq, e3, e4] at hi
  have hi0 : 0 ≤ i := by omega
  have hi1 : i < 4294967296 := by omega
  obtain ⟨a, b, hv, c0⟩ := r2made x0 x1 (by omega) (by omega) (by omega) (by omega)
  by_cases he : Ent a b
  · obtain ⟨rfl, rfl⟩ := he
    exact meas_ent x0 x1 i w c0
  obtain ⟨n1, n2, n3⟩ := hv.resolve_left he
  unfold Num at n1 n2
  obtain ⟨m, hm⟩ : ∃ m, (a + b) / 2 = m := ⟨_, rfl⟩
  obtain ⟨p, hp⟩ : ∃ p, a + i % (b - a + 1) = p := ⟨_, rfl⟩
  have hm1 : 0 ≤ i % (b - a + 1) := Int.emod_nonneg _ (by omega)
  have hm2 : i % (b - a + 1) < b - a + 1 := Int.emod_lt_of_pos _ (by omega)
  have c1 := fun w => iv_mid a b w ⟨by omega, by omega, by omega, by omega⟩
  rw [hm] at c1
  have c2 := fun w => iv_width a b w ⟨by omega, by omega, by omega, by omega⟩
  have c5 := fun w => r2ent_no a b w he
  have c6 := fun w => iv_ent_no a b w he
  have c7 := fun w => iv_contains a b m true w (by
    have h1 : a ≤ m := by omega
    have h2 : m ≤ b := by omega
    simp [h1, h2])
  have c8 := fun w => r2pick a b i w (by omega) (by omega) n3 hi0 hi1
  rw [hp] at c8
  have c3 := fun w => iv_mag a b w ⟨by omega, by omega, by omega, by omega⟩
  have c4 := fun w => iv_sign a b w
  by_cases s1 : 0 < a
  · exact meas_pos x0 x1 i a b m p w (by omega) (by omega) n3 (by omega) (by omega) (by omega) (by omega) s1 c0 c1 c2 (fun w => is1 (c3 w) (by omega)) (fun w => is1 (c4 w) (by unfold sg; rw [if_pos s1])) c5 c6 c7 c8
  by_cases s2 : b < 0
  · exact meas_neg x0 x1 i a b m p w (by omega) (by omega) n3 (by omega) (by omega) (by omega) (by omega) s2 (by rw [bne_iff_ne]; omega) c0 c1 c2 (fun w => is1 (c3 w) (by omega)) (fun w => is1 (c4 w) (by unfold sg; rw [if_neg s1, if_pos s2])) c5 c6 c7 c8
  by_cases s3 : -a ≤ b
  · exact meas_mb x0 x1 i a b m p w (by omega) (by omega) n3 (by omega) (by omega) (by omega) (by omega) (by omega) (by omega) s3 c0 c1 c2 (fun w => is1 (c3 w) (by omega)) (fun w => is1 (c4 w) (by unfold sg; rw [if_neg s1, if_neg s2])) c5 c6 c7 c8
  · exact meas_ma x0 x1 i a b m p w (by omega) (by omega) n3 (by omega) (by omega) (by omega) (by omega) (by omega) (by omega) (by omega) (by rw [bne_iff_ne]; omega) c0 c1 c2 (fun w => is1 (c3 w) (by omega)) (fun w => is1 (c4 w) (by unfold sg; rw [if_neg s1, if_neg s2])) c5 c6 c7 c8
end Go.Proofs.Ytgkhkclpgkohbaa
