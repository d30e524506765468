/-
  R6
-/
import Derived.Test.YtbppfohcicepcaaGreatKbm
import Derived.Outline
import Derived.WalkMore
namespace Go.Proofs.YtbppfohcicepcaaGreat
open Go.ChangeShapes Go.WideShapes Go.ChangeAt Go.RowKit
set_option linter.unusedVariables false
set_option linter.unusedSimpArgs false
set_option maxRecDepth 100000
open Go.BigFrame
attribute [local go_sem ↓] run_max_two run_min_two run_max_three
set_option maxHeartbeats 4000000 in
theorem r2mul (a b c d : Int) (w : World) (hv : VI a b) (hw : VI c d) :
    Calls Tryz.prog 59 #[.agg #[.int .i64 a, .int .i64 b], .agg #[.int .i64 c, .int .i64 d]] w fun e w' => e = .returned (.agg #[.int .i64 (mulLo a b c d), .int .i64 (mulHi a b c d)]) ∧ Below w.heap.size w w' := by
  unfold mulLo mulHi
  by_cases h1 : Ent a b
  · rw [if_pos (.inl h1), if_pos (.inl h1)]
    obtain ⟨rfl, rfl⟩ := h1
    clear hv hw
    go_enter Tryz.func59, Tryz.ntmps59
    go_wp2_with (fail)
    generalize hW0 : World.alloc (World.alloc (World.alloc w _) _) _ = W0
    have hT0 : Below w.heap.size w W0 := by subst hW0; exact ((((Below.refl w.heap.size w).alloc (by go_size) _).alloc (by go_size) _).alloc (by go_size) _)
    have S0 : ∀ g : Grown W0, w.heap.size < g.w.heap.size := fun g => Nat.lt_of_lt_of_le (by subst hW0; simp <;> omega) g.h.size
    have Y0 : w.heap.size < W0.heap.size := by subst hW0; simp <;> omega
    have F00 : ∀ g : Grown W0, g.w.cell? ⟨w.heap.size, 0, none⟩ = some (.int .i64 (-2147483648)) := fun g => (g.cell Y0).trans (by subst hW0; simp [go_sem])
    have H00 : ∀ g : Grown W0, g.w.frozen? ⟨w.heap.size, 0, none⟩ = false := fun g => (g.frozen Y0).trans (by subst hW0; simp [go_sem])
    have F01 : ∀ g : Grown W0, g.w.cell? ⟨w.heap.size, 1, none⟩ = some (.int .i64 2147483648) := fun g => (g.cell Y0).trans (by subst hW0; simp [go_sem])
    have H01 : ∀ g : Grown W0, g.w.frozen? ⟨w.heap.size, 1, none⟩ = false := fun g => (g.frozen Y0).trans (by subst hW0; simp [go_sem])
    clear Y0
    have S1 : ∀ g : Grown W0, w.heap.size + 1 < g.w.heap.size := fun g => Nat.lt_of_lt_of_le (by subst hW0; simp <;> omega) g.h.size
    have Y1 : w.heap.size + 1 < W0.heap.size := by subst hW0; simp <;> omega
    have F10 : ∀ g : Grown W0, g.w.cell? ⟨w.heap.size + 1, 0, none⟩ = some (.int .i64 c) := fun g => (g.cell Y1).trans (by subst hW0; simp [go_sem])
    have H10 : ∀ g : Grown W0, g.w.frozen? ⟨w.heap.size + 1, 0, none⟩ = false := fun g => (g.frozen Y1).trans (by subst hW0; simp [go_sem])
    have F11 : ∀ g : Grown W0, g.w.cell? ⟨w.heap.size + 1, 1, none⟩ = some (.int .i64 d) := fun g => (g.cell Y1).trans (by subst hW0; simp [go_sem])
    have H11 : ∀ g : Grown W0, g.w.frozen? ⟨w.heap.size + 1, 1, none⟩ = false := fun g => (g.frozen Y1).trans (by subst hW0; simp [go_sem])
    clear Y1
    have S2 : ∀ g : Grown W0, w.heap.size + 1 + 1 < g.w.heap.size := fun g => Nat.lt_of_lt_of_le (by subst hW0; simp <;> omega) g.h.size
    have Y2 : w.heap.size + 1 + 1 < W0.heap.size := by subst hW0; simp <;> omega
    have F20 : ∀ g : Grown W0, g.w.cell? ⟨w.heap.size + 1 + 1, 0, none⟩ = some (.int .i64 0) := fun g => (g.cell Y2).trans (by subst hW0; simp [go_sem])
    have H20 : ∀ g : Grown W0, g.w.frozen? ⟨w.heap.size + 1 + 1, 0, none⟩ = false := fun g => (g.frozen Y2).trans (by subst hW0; simp [go_sem])
    have F21 : ∀ g : Grown W0, g.w.cell? ⟨w.heap.size + 1 + 1, 1, none⟩ = some (.int .i64 0) := fun g => (g.cell Y2).trans (by subst hW0; simp [go_sem])
    have H21 : ∀ g : Grown W0, g.w.frozen? ⟨w.heap.size + 1 + 1, 1, none⟩ = false := fun g => (g.frozen Y2).trans (by subst hW0; simp [go_sem])
    clear Y2
    clear hW0
    obtain ⟨g0, hg0⟩ : ∃ g : Grown W0, W0 = g.w := ⟨⟨W0, Below.refl _ _⟩, rfl⟩
    rw [hg0]
    clear hg0
    refine (r2ent_yes _).mono ?_
    rintro e1 w1 ⟨rfl, hB1⟩
    obtain ⟨g1, rfl⟩ := grow g0 hB1
    clear hB1
    go_wp2_with (fail)
    refine (r2entire _).mono ?_
    rintro e2 w2 ⟨rfl, hB2⟩
    obtain ⟨g2, rfl⟩ := grow g1 hB2
    clear hB2
    go_wp2_with (fail)
    have hB : Below w.heap.size w g2.w := below_then hT0 g2.h
    refine bodyPost_ret (v := .agg #[.int .i64 (-2147483648), .int .i64 2147483648]) (by simp [results, Tryz.results59, go_sem, F20, F21]) rfl ⟨rfl, ?_⟩
    go_grown
  by_cases h2 : Ent c d
  · rw [if_pos (.inr h2), if_pos (.inr h2)]
    obtain ⟨rfl, rfl⟩ := h2
    have h1' := Lib.hid h1
    clear h1 hv hw
    go_enter Tryz.func59, Tryz.ntmps59
    go_wp2_with (fail)
    generalize hW0 : World.alloc (World.alloc (World.alloc w _) _) _ = W0
    have hT0 : Below w.heap.size w W0 := by subst hW0; exact ((((Below.refl w.heap.size w).alloc (by go_size) _).alloc (by go_size) _).alloc (by go_size) _)
    have S0 : ∀ g : Grown W0, w.heap.size < g.w.heap.size := fun g => Nat.lt_of_lt_of_le (by subst hW0; simp <;> omega) g.h.size
    have Y0 : w.heap.size < W0.heap.size := by subst hW0; simp <;> omega
    have F00 : ∀ g : Grown W0, g.w.cell? ⟨w.heap.size, 0, none⟩ = some (.int .i64 a) := fun g => (g.cell Y0).trans (by subst hW0; simp [go_sem])
    have H00 : ∀ g : Grown W0, g.w.frozen? ⟨w.heap.size, 0, none⟩ = false := fun g => (g.frozen Y0).trans (by subst hW0; simp [go_sem])
    have F01 : ∀ g : Grown W0, g.w.cell? ⟨w.heap.size, 1, none⟩ = some (.int .i64 b) := fun g => (g.cell Y0).trans (by subst hW0; simp [go_sem])
    have H01 : ∀ g : Grown W0, g.w.frozen? ⟨w.heap.size, 1, none⟩ = false := fun g => (g.frozen Y0).trans (by subst hW0; simp [go_sem])
    clear Y0
    have S1 : ∀ g : Grown W0, w.heap.size + 1 < g.w.heap.size := fun g => Nat.lt_of_lt_of_le (by subst hW0; simp <;> omega) g.h.size
    have Y1 : w.heap.size + 1 < W0.heap.size := by subst hW0; simp <;> omega
    have F10 : ∀ g : Grown W0, g.w.cell? ⟨w.heap.size + 1, 0, none⟩ = some (.int .i64 (-2147483648)) := fun g => (g.cell Y1).trans (by subst hW0; simp [go_sem])
    have H10 : ∀ g : Grown W0, g.w.frozen? ⟨w.heap.size + 1, 0, none⟩ = false := fun g => (g.frozen Y1).trans (by subst hW0; simp [go_sem])
    have F11 : ∀ g : Grown W0, g.w.cell? ⟨w.heap.size + 1, 1, none⟩ = some (.int .i64 2147483648) := fun g => (g.cell Y1).trans (by subst hW0; simp [go_sem])
    have H11 : ∀ g : Grown W0, g.w.frozen? ⟨w.heap.size + 1, 1, none⟩ = false := fun g => (g.frozen Y1).trans (by subst hW0; simp [go_sem])
    clear Y1
    have S2 : ∀ g : Grown W0, w.heap.size + 1 + 1 < g.w.heap.size := fun g => Nat.lt_of_lt_of_le (by subst hW0; simp <;> omega) g.h.size
    have Y2 : w.heap.size + 1 + 1 < W0.heap.size := by subst hW0; simp <;> omega
    have F20 : ∀ g : Grown W0, g.w.cell? ⟨w.heap.size + 1 + 1, 0, none⟩ = some (.int .i64 0) := fun g => (g.cell Y2).trans (by subst hW0; simp [go_sem])
    have H20 : ∀ g : Grown W0, g.w.frozen? ⟨w.heap.size + 1 + 1, 0, none⟩ = false := fun g => (g.frozen Y2).trans (by subst hW0; simp [go_sem])
    have F21 : ∀ g : Grown W0, g.w.cell? ⟨w.heap.size + 1 + 1, 1, none⟩ = some (.int .i64 0) := fun g => (g.cell Y2).trans (by subst hW0; simp [go_sem])
    have H21 : ∀ g : Grown W0, g.w.frozen? ⟨w.heap.size + 1 + 1, 1, none⟩ = false := fun g => (g.frozen Y2).trans (by subst hW0; simp [go_sem])
    clear Y2
    clear hW0
    obtain ⟨g0, hg0⟩ : ∃ g : Grown W0, W0 = g.w := ⟨⟨W0, Below.refl _ _⟩, rfl⟩
    rw [hg0]
    clear hg0
    refine (r2ent_no a b _ h1'.out).mono ?_
    rintro e1 w1 ⟨rfl, hB1⟩
    obtain ⟨g1, rfl⟩ := grow g0 hB1
    clear hB1
    go_wp2_with (fail)
    refine (r2ent_yes _).mono ?_
    rintro e2 w2 ⟨rfl, hB2⟩
    obtain ⟨g2, rfl⟩ := grow g1 hB2
    clear hB2
    go_wp2_with (fail)
    refine (r2entire _).mono ?_
    rintro e3 w3 ⟨rfl, hB3⟩
    obtain ⟨g3, rfl⟩ := grow g2 hB3
    clear hB3
    go_wp2_with (fail)
    have hB : Below w.heap.size w g3.w := below_then hT0 g3.h
    refine bodyPost_ret (v := .agg #[.int .i64 (-2147483648), .int .i64 2147483648]) (by simp [results, Tryz.results59, go_sem, F20, F21]) rfl ⟨rfl, ?_⟩
    go_grown
  · rw [if_neg (by intro h; rcases h with h | h; exact h1 h; exact h2 h), if_neg (by intro h; rcases h with h | h; exact h1 h; exact h2 h)]
    obtain ⟨ha1, ha2, hb1, hb2, hab⟩ := hv.bd
    obtain ⟨hc1, hc2, hd1, hd2, hcd⟩ := hw.bd
    have h1' := Lib.hid h1
    have h2' := Lib.hid h2
    have e0 := mul_bound a c 2147483648 2147483648 (by omega) (by omega) (by omega) (by omega)
    have f0 : -4611686018427387904 ≤ a * c := by omega
    have k0 : a * c ≤ 4611686018427387904 := by omega
    have e1 := mul_bound a d 2147483648 2147483648 (by omega) (by omega) (by omega) (by omega)
    have f1 : -4611686018427387904 ≤ a * d := by omega
    have k1 : a * d ≤ 4611686018427387904 := by omega
    have e2 := mul_bound b c 2147483648 2147483648 (by omega) (by omega) (by omega) (by omega)
    have f2 : -4611686018427387904 ≤ b * c := by omega
    have k2 : b * c ≤ 4611686018427387904 := by omega
    have e3 := mul_bound b d 2147483648 2147483648 (by omega) (by omega) (by omega) (by omega)
    have f3 : -4611686018427387904 ≤ b * d := by omega
    have k3 : b * d ≤ 4611686018427387904 := by omega
    obtain ⟨lo, hlo⟩ : ∃ lo, mn4 a b c d = lo := ⟨_, rfl⟩
    obtain ⟨hi, hhi⟩ : ∃ hi, mx4 a b c d = hi := ⟨_, rfl⟩
    have hm1 := Lib.hid (show min (a * c) (min (a * d) (min (b * c) (b * d))) = lo by rw [← hlo]; unfold mn4; omega)
    have hm2 := Lib.hid (show max (a * c) (max (a * d) (max (b * c) (b * d))) = hi by rw [← hhi]; unfold mx4; omega)
    have l1 : -4611686018427387904 ≤ lo ∧ lo ≤ 4611686018427387904 ∧ -4611686018427387904 ≤ hi ∧ hi ≤ 4611686018427387904 := by rw [← hlo, ← hhi]; unfold mn4 mx4; omega
    have hwn := dn_within (n := -hi) (d := 65536) (B := 4611686018427387904) (by omega) (by omega) (by omega) (by omega)
    have c1 := fun w => r2floor lo 65536 w (by omega) (by omega) (by omega)
    have c2 := fun w => r2ceil hi 65536 w (by omega) (by omega) (by omega) (by omega)
    have c3 := fun w => r2new (dn lo 65536) (up hi 65536) w
    rw [hlo, hhi]
    clear hlo hhi l1 hwn h1 h2 hv hw e0 e1 e2 e3
    generalize mkLo _ _ = x at *
    generalize mkHi _ _ = y at *
    generalize dn lo 65536 = m1 at *
    generalize up hi 65536 = m2 at *
    go_enter Tryz.func59, Tryz.ntmps59
    go_wp2_with (fail)
    generalize hW0 : World.alloc (World.alloc (World.alloc w _) _) _ = W0
    have hT0 : Below w.heap.size w W0 := by subst hW0; exact ((((Below.refl w.heap.size w).alloc (by go_size) _).alloc (by go_size) _).alloc (by go_size) _)
    have Y0 : w.heap.size < W0.heap.size := by subst hW0; simp <;> omega
    have S0 : ∀ g : Grown W0, w.heap.size < g.w.heap.size := fun g => Nat.lt_of_lt_of_le Y0 g.h.size
    have F0_0 : ∀ g : Grown W0, g.w.cell? ⟨w.heap.size, 0, none⟩ = some (.int .i64 a) := fun g => (g.cell Y0).trans (by subst hW0; simp [go_sem])
    have H0_0 : ∀ g : Grown W0, g.w.frozen? ⟨w.heap.size, 0, none⟩ = false := fun g => (g.frozen Y0).trans (by subst hW0; simp [go_sem])
    have F0_1 : ∀ g : Grown W0, g.w.cell? ⟨w.heap.size, 1, none⟩ = some (.int .i64 b) := fun g => (g.cell Y0).trans (by subst hW0; simp [go_sem])
    have H0_1 : ∀ g : Grown W0, g.w.frozen? ⟨w.heap.size, 1, none⟩ = false := fun g => (g.frozen Y0).trans (by subst hW0; simp [go_sem])
    clear Y0
    have Y1 : w.heap.size + 1 < W0.heap.size := by subst hW0; simp <;> omega
    have S1 : ∀ g : Grown W0, w.heap.size + 1 < g.w.heap.size := fun g => Nat.lt_of_lt_of_le Y1 g.h.size
    have F1_0 : ∀ g : Grown W0, g.w.cell? ⟨w.heap.size + 1, 0, none⟩ = some (.int .i64 c) := fun g => (g.cell Y1).trans (by subst hW0; simp [go_sem])
    have H1_0 : ∀ g : Grown W0, g.w.frozen? ⟨w.heap.size + 1, 0, none⟩ = false := fun g => (g.frozen Y1).trans (by subst hW0; simp [go_sem])
    have F1_1 : ∀ g : Grown W0, g.w.cell? ⟨w.heap.size + 1, 1, none⟩ = some (.int .i64 d) := fun g => (g.cell Y1).trans (by subst hW0; simp [go_sem])
    have H1_1 : ∀ g : Grown W0, g.w.frozen? ⟨w.heap.size + 1, 1, none⟩ = false := fun g => (g.frozen Y1).trans (by subst hW0; simp [go_sem])
    clear Y1
    have Y2 : w.heap.size + 1 + 1 < W0.heap.size := by subst hW0; simp <;> omega
    have S2 : ∀ g : Grown W0, w.heap.size + 1 + 1 < g.w.heap.size := fun g => Nat.lt_of_lt_of_le Y2 g.h.size
    have F2_0 : ∀ g : Grown W0, g.w.cell? ⟨w.heap.size + 1 + 1, 0, none⟩ = some (.int .i64 0) := fun g => (g.cell Y2).trans (by subst hW0; simp [go_sem])
    have H2_0 : ∀ g : Grown W0, g.w.frozen? ⟨w.heap.size + 1 + 1, 0, none⟩ = false := fun g => (g.frozen Y2).trans (by subst hW0; simp [go_sem])
    have F2_1 : ∀ g : Grown W0, g.w.cell? ⟨w.heap.size + 1 + 1, 1, none⟩ = some (.int .i64 0) := fun g => (g.cell Y2).trans (by subst hW0; simp [go_sem])
    have H2_1 : ∀ g : Grown W0, g.w.frozen? ⟨w.heap.size + 1 + 1, 1, none⟩ = false := fun g => (g.frozen Y2).trans (by subst hW0; simp [go_sem])
    clear Y2
    clear hW0
    obtain ⟨g0, hg0⟩ : ∃ g : Grown W0, W0 = g.w := ⟨⟨W0, Below.refl _ _⟩, rfl⟩
    rw [hg0]
    clear hg0
    refine (r2ent_no a b _ h1'.out).mono ?_
    rintro e1 w1 ⟨rfl, hB1⟩
    obtain ⟨g1, rfl⟩ := grow g0 hB1
    clear hB1
    go_wp2_with (fail)
    refine (r2ent_no c d _ h2'.out).mono ?_
    rintro e2 w2 ⟨rfl, hB2⟩
    obtain ⟨g2, rfl⟩ := grow g1 hB2
    clear hB2
    go_wp2_with (fail)
    generalize hW1 : World.alloc g2.w _ = W1
    have hL1 : Below g2.w.heap.size g2.w W1 := by subst hW1; exact ((Below.refl _ _).alloc (by first | omega | (simp <;> omega)) _)
    have hT1 : Below w.heap.size w W1 := below_then (below_then hT0 g2.h) hL1
    obtain ⟨nb1, hnb1⟩ : ∃ nb, nb = g2.w.heap.size := ⟨_, rfl⟩
    have s0 := S0 g2
    have Y0 : w.heap.size < W1.heap.size := Nat.lt_of_lt_of_le s0 hL1.size
    have c0_0 := F0_0 g2
    have d0_0 := H0_0 g2
    have c0_1 := F0_1 g2
    have d0_1 := H0_1 g2
    clear S0 F0_0 H0_0 F0_1 H0_1
    have S0 : ∀ g : Grown W1, w.heap.size < g.w.heap.size := fun g => Nat.lt_of_lt_of_le Y0 g.h.size
    have F0_0 : ∀ g : Grown W1, g.w.cell? ⟨w.heap.size, 0, none⟩ = some (.int .i64 a) := fun g => (g.cell Y0).trans ((Below.cell hL1 (p := ⟨w.heap.size, 0, none⟩) s0).trans c0_0)
    have H0_0 : ∀ g : Grown W1, g.w.frozen? ⟨w.heap.size, 0, none⟩ = false := fun g => (g.frozen Y0).trans ((Below.frozen hL1 (p := ⟨w.heap.size, 0, none⟩) s0).trans d0_0)
    have F0_1 : ∀ g : Grown W1, g.w.cell? ⟨w.heap.size, 1, none⟩ = some (.int .i64 b) := fun g => (g.cell Y0).trans ((Below.cell hL1 (p := ⟨w.heap.size, 1, none⟩) s0).trans c0_1)
    have H0_1 : ∀ g : Grown W1, g.w.frozen? ⟨w.heap.size, 1, none⟩ = false := fun g => (g.frozen Y0).trans ((Below.frozen hL1 (p := ⟨w.heap.size, 1, none⟩) s0).trans d0_1)
    clear Y0 s0 c0_0 d0_0 c0_1 d0_1
    have s1 := S1 g2
    have Y1 : w.heap.size + 1 < W1.heap.size := Nat.lt_of_lt_of_le s1 hL1.size
    have c1_0 := F1_0 g2
    have d1_0 := H1_0 g2
    have c1_1 := F1_1 g2
    have d1_1 := H1_1 g2
    clear S1 F1_0 H1_0 F1_1 H1_1
    have S1 : ∀ g : Grown W1, w.heap.size + 1 < g.w.heap.size := fun g => Nat.lt_of_lt_of_le Y1 g.h.size
    have F1_0 : ∀ g : Grown W1, g.w.cell? ⟨w.heap.size + 1, 0, none⟩ = some (.int .i64 c) := fun g => (g.cell Y1).trans ((Below.cell hL1 (p := ⟨w.heap.size + 1, 0, none⟩) s1).trans c1_0)
    have H1_0 : ∀ g : Grown W1, g.w.frozen? ⟨w.heap.size + 1, 0, none⟩ = false := fun g => (g.frozen Y1).trans ((Below.frozen hL1 (p := ⟨w.heap.size + 1, 0, none⟩) s1).trans d1_0)
    have F1_1 : ∀ g : Grown W1, g.w.cell? ⟨w.heap.size + 1, 1, none⟩ = some (.int .i64 d) := fun g => (g.cell Y1).trans ((Below.cell hL1 (p := ⟨w.heap.size + 1, 1, none⟩) s1).trans c1_1)
    have H1_1 : ∀ g : Grown W1, g.w.frozen? ⟨w.heap.size + 1, 1, none⟩ = false := fun g => (g.frozen Y1).trans ((Below.frozen hL1 (p := ⟨w.heap.size + 1, 1, none⟩) s1).trans d1_1)
    clear Y1 s1 c1_0 d1_0 c1_1 d1_1
    have s2 := S2 g2
    have Y2 : w.heap.size + 1 + 1 < W1.heap.size := Nat.lt_of_lt_of_le s2 hL1.size
    have c2_0 := F2_0 g2
    have d2_0 := H2_0 g2
    have c2_1 := F2_1 g2
    have d2_1 := H2_1 g2
    clear S2 F2_0 H2_0 F2_1 H2_1
    have S2 : ∀ g : Grown W1, w.heap.size + 1 + 1 < g.w.heap.size := fun g => Nat.lt_of_lt_of_le Y2 g.h.size
    have F2_0 : ∀ g : Grown W1, g.w.cell? ⟨w.heap.size + 1 + 1, 0, none⟩ = some (.int .i64 0) := fun g => (g.cell Y2).trans ((Below.cell hL1 (p := ⟨w.heap.size + 1 + 1, 0, none⟩) s2).trans c2_0)
    have H2_0 : ∀ g : Grown W1, g.w.frozen? ⟨w.heap.size + 1 + 1, 0, none⟩ = false := fun g => (g.frozen Y2).trans ((Below.frozen hL1 (p := ⟨w.heap.size + 1 + 1, 0, none⟩) s2).trans d2_0)
    have F2_1 : ∀ g : Grown W1, g.w.cell? ⟨w.heap.size + 1 + 1, 1, none⟩ = some (.int .i64 0) := fun g => (g.cell Y2).trans ((Below.cell hL1 (p := ⟨w.heap.size + 1 + 1, 1, none⟩) s2).trans c2_1)
    have H2_1 : ∀ g : Grown W1, g.w.frozen? ⟨w.heap.size + 1 + 1, 1, none⟩ = false := fun g => (g.frozen Y2).trans ((Below.frozen hL1 (p := ⟨w.heap.size + 1 + 1, 1, none⟩) s2).trans d2_1)
    clear Y2 s2 c2_0 d2_0 c2_1 d2_1
    have Y3 : nb1 < W1.heap.size := by subst hW1; subst hnb1; simp <;> omega
    have S3 : ∀ g : Grown W1, nb1 < g.w.heap.size := fun g => Nat.lt_of_lt_of_le Y3 g.h.size
    have F3_0 : ∀ g : Grown W1, g.w.cell? ⟨nb1, 0, none⟩ = some (.int .i64 (a * c)) := fun g => (g.cell Y3).trans (by subst hW1; subst hnb1; simp [go_sem])
    have H3_0 : ∀ g : Grown W1, g.w.frozen? ⟨nb1, 0, none⟩ = false := fun g => (g.frozen Y3).trans (by subst hW1; subst hnb1; simp [go_sem])
    have F3_1 : ∀ g : Grown W1, g.w.cell? ⟨nb1, 1, none⟩ = some (.int .i64 (a * d)) := fun g => (g.cell Y3).trans (by subst hW1; subst hnb1; simp [go_sem])
    have H3_1 : ∀ g : Grown W1, g.w.frozen? ⟨nb1, 1, none⟩ = false := fun g => (g.frozen Y3).trans (by subst hW1; subst hnb1; simp [go_sem])
    have F3_2 : ∀ g : Grown W1, g.w.cell? ⟨nb1, 2, none⟩ = some (.int .i64 (b * c)) := fun g => (g.cell Y3).trans (by subst hW1; subst hnb1; simp [go_sem])
    have H3_2 : ∀ g : Grown W1, g.w.frozen? ⟨nb1, 2, none⟩ = false := fun g => (g.frozen Y3).trans (by subst hW1; subst hnb1; simp [go_sem])
    have F3_3 : ∀ g : Grown W1, g.w.cell? ⟨nb1, 3, none⟩ = some (.int .i64 (b * d)) := fun g => (g.cell Y3).trans (by subst hW1; subst hnb1; simp [go_sem])
    have H3_3 : ∀ g : Grown W1, g.w.frozen? ⟨nb1, 3, none⟩ = false := fun g => (g.frozen Y3).trans (by subst hW1; subst hnb1; simp [go_sem])
    clear Y3
    rw [← hnb1]
    clear hnb1 hW1 hT0 hL1
    obtain ⟨h1, hg1⟩ : ∃ g : Grown W1, W1 = g.w := ⟨⟨W1, Below.refl _ _⟩, rfl⟩
    rw [hg1]
    clear hg1 g2
    refine region_quiet' h1 (by kernel_rfl) (by kernel_rfl) ?_
    repeat (go_big_quiet_step (fail))
    refine wpQuiet_nil ?_
    rintro _ ⟨g3, rfl⟩
    go_wp2_with (fail)
    go_loop [6, 7, 8] (fun lo hi i => (lo = .int .i64 (a * c) ∧ hi = .int .i64 (a * c) ∧ i = .int .i64 1) ∨ (lo = .int .i64 (min (a * c) (a * d)) ∧ hi = .int .i64 (max (a * c) (a * d)) ∧ i = .int .i64 2) ∨ (lo = .int .i64 (min (a * c) (min (a * d) (b * c))) ∧ hi = .int .i64 (max (a * c) (max (a * d) (b * c))) ∧ i = .int .i64 3) ∨ (lo = .int .i64 (min (a * c) (min (a * d) (min (b * c) (b * d)))) ∧ hi = .int .i64 (max (a * c) (max (a * d) (max (b * c) (b * d)))) ∧ i = .int .i64 4)) (fun lo hi i => (4 - intOf i).toNat)
    case atStart => exact .inl ⟨rfl, rfl, rfl⟩
    case round =>
      rcases hrel with ⟨rfl, rfl, rfl⟩ | ⟨rfl, rfl, rfl⟩ | ⟨rfl, rfl, rfl⟩ | ⟨rfl, rfl, rfl⟩
      · go_wp2_with (fail)
        go_round
        case rel => exact .inr (.inl ⟨rfl, rfl, rfl⟩)
        case measure => simp [intOf]
      · go_wp2_with (fail)
        go_round
        case rel => exact .inr (.inr (.inl ⟨rfl, rfl, rfl⟩))
        case measure => simp [intOf]
      · go_wp2_with (fail)
        go_round
        case rel => exact .inr (.inr (.inr ⟨rfl, rfl, rfl⟩))
        case measure => simp [intOf]
      · have hlo : min (a * c) (min (a * d) (min (b * c) (b * d))) = lo := hm1.out
        have hhi : max (a * c) (max (a * d) (max (b * c) (b * d))) = hi := hm2.out
        rw [hlo, hhi]
        clear hlo hhi
        go_wp2_with (fail)
        refine (c1 _).mono ?_
        rintro e4 w4 ⟨rfl, rfl⟩
        go_wp2_with (fail)
        refine (c2 _).mono ?_
        rintro e5 w5 ⟨rfl, rfl⟩
        go_wp2_with (fail)
        refine (c3 _).mono ?_
        rintro e6 w6 ⟨rfl, hB6⟩
        obtain ⟨g6, rfl⟩ := grow g3 hB6
        clear hB6
        go_wp2_with (fail)
        have hB : Below w.heap.size w g6.w := below_then hT1 g6.h
        refine bodyPost_ret (v := .agg #[.int .i64 x, .int .i64 y]) (by simp [results, Tryz.results59, go_sem, F2_0, F2_1]) rfl ⟨rfl, ?_⟩
        go_grown
end Go.Proofs.YtbppfohcicepcaaGreat
