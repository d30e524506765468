/-
  The fixed examples.
-/
import Derived.Test.YtpepgheocemjdaaPlain
import Derived.Test.YtpepgheocemjdaaIw9
import Derived.Test.YtpepgheocemjdaaIw10
import Derived.Test.YtpepgheocemjdaaIw6
import Derived.Test.YtpepgheocemjdaaIw4a
import Derived.Test.YtpepgheocemjdaaLex
namespace Go.Proofs.Ytpepgheocemjdaa
open Go.ChangeShapes Go.WideShapes Go.ChangeAt Go.RowKit
set_option linter.unusedVariables false
set_option linter.unusedSimpArgs false
set_option maxRecDepth 100000

open Go.BigFrame
theorem usq_ex : mkLo (rt1 (-65536)) (rt2 131072) = 0 ∧ mkHi (rt1 (-65536)) (rt2 131072) = 92682 := by
  have h1 : isq (131072 * 65536) = 92681 := isq_is (by decide) (by decide) (by decide)
  have h2 : isq (max (-65536) 0 * 65536) = 0 := isq_is (by decide) (by decide) (by decide)
  unfold rt1 rt2 usq
  rw [h1, h2]
  decide

set_option maxRecDepth 100000 in
set_option maxHeartbeats 8000000 in
theorem sanity2 (w : World) :
    Calls Try.prog 12 #[] w fun e w' => e = .returned (.bool true) ∧ Below w.heap.size w w' := by
  go_enter Try.func12, Try.ntmps12
  go_wp2_with (fail)
  refine (law_v _ _ _).mono ?_
  rintro e1 w1 ⟨rfl, hB1⟩
  obtain ⟨g1, rfl⟩ : ∃ g : Grown w, w1 = g.w := ⟨⟨w1, hB1⟩, rfl⟩
  have hT0 : Below w.heap.size w w := Below.refl _ _
  go_wp2_with (fail)
  refine (law_v _ _ _).mono ?_
  rintro e2 w2 ⟨rfl, hB2⟩
  obtain ⟨g2, rfl⟩ := grow g1 hB2
  clear hB2
  go_wp2_with (fail)
  generalize hW1 : World.alloc (World.alloc g2.w _) _ = W1
  have hh := (below_then hT0 g2.h).size
  have hT1 : Below w.heap.size w W1 := by subst hW1; exact (((below_then hT0 g2.h).alloc (by first | omega | (simp <;> omega)) _).alloc (by first | omega | (simp <;> omega)) _)
  clear hh
  obtain ⟨nb1, hnb1⟩ : ∃ nb, nb = g2.w.heap.size := ⟨_, rfl⟩
  have Y0 : nb1 < W1.heap.size := by subst hW1; subst hnb1; simp <;> omega
  have S0 : ∀ g : Grown W1, nb1 < g.w.heap.size := fun g => Nat.lt_of_lt_of_le Y0 g.h.size
  have F00 : ∀ g : Grown W1, g.w.cell? ⟨nb1, 0, none⟩ = some (.int .i64 (-2147483648)) := fun g => (g.cell Y0).trans (by subst hW1; subst hnb1; simp [go_sem])
  have H00 : ∀ g : Grown W1, g.w.frozen? ⟨nb1, 0, none⟩ = false := fun g => (g.frozen Y0).trans (by subst hW1; subst hnb1; simp [go_sem])
  have F01 : ∀ g : Grown W1, g.w.cell? ⟨nb1, 1, none⟩ = some (.int .i64 2147483648) := fun g => (g.cell Y0).trans (by subst hW1; subst hnb1; simp [go_sem])
  have H01 : ∀ g : Grown W1, g.w.frozen? ⟨nb1, 1, none⟩ = false := fun g => (g.frozen Y0).trans (by subst hW1; subst hnb1; simp [go_sem])
  clear Y0
  have Y1 : nb1 + 1 < W1.heap.size := by subst hW1; subst hnb1; simp <;> omega
  have S1 : ∀ g : Grown W1, nb1 + 1 < g.w.heap.size := fun g => Nat.lt_of_lt_of_le Y1 g.h.size
  have F10 : ∀ g : Grown W1, g.w.cell? ⟨nb1 + 1, 0, none⟩ = some (.int .i64 65536) := fun g => (g.cell Y1).trans (by subst hW1; subst hnb1; simp [go_sem])
  have H10 : ∀ g : Grown W1, g.w.frozen? ⟨nb1 + 1, 0, none⟩ = false := fun g => (g.frozen Y1).trans (by subst hW1; subst hnb1; simp [go_sem])
  have F11 : ∀ g : Grown W1, g.w.cell? ⟨nb1 + 1, 1, none⟩ = some (.int .i64 65536) := fun g => (g.cell Y1).trans (by subst hW1; subst hnb1; simp [go_sem])
  have H11 : ∀ g : Grown W1, g.w.frozen? ⟨nb1 + 1, 1, none⟩ = false := fun g => (g.frozen Y1).trans (by subst hW1; subst hnb1; simp [go_sem])
  clear Y1
  rw [← hnb1]
  clear hnb1 hW1 hT0
  obtain ⟨h1, hg1⟩ : ∃ g : Grown W1, W1 = g.w := ⟨⟨W1, Below.refl _ _⟩, rfl⟩
  rw [hg1]
  clear hg1 g2
  refine (law_v _ _ _).mono ?_
  rintro e3 w3 ⟨rfl, hB3⟩
  obtain ⟨g3, rfl⟩ := grow h1 hB3
  clear hB3
  go_wp2_with (fail)
  refine (is3 (iv_sqrt_pos _ _ _ (by decide) (by decide) (by decide) (by decide)) usq_ex.1 usq_ex.2).mono ?_
  rintro e4 w4 ⟨rfl, hB4⟩
  obtain ⟨g4, rfl⟩ := grow g3 hB4
  clear hB4
  go_wp2_with (fail)
  generalize hW2 : World.alloc g4.w _ = W2
  have hh := (below_then hT1 g4.h).size
  have hT2 : Below w.heap.size w W2 := by subst hW2; exact ((below_then hT1 g4.h).alloc (by first | omega | (simp <;> omega)) _)
  clear hh
  obtain ⟨nb2, hnb2⟩ : ∃ nb, nb = g4.w.heap.size := ⟨_, rfl⟩
  have Y0 : nb1 < W2.heap.size := by subst hW2; have := S0 g4; simp <;> omega
  have c00 := F00 g4
  have d00 := H00 g4
  have c01 := F01 g4
  have d01 := H01 g4
  have s0 := S0 g4
  clear S0 F00 F01 H00 H01
  have S0 : ∀ g : Grown W2, nb1 < g.w.heap.size := fun g => Nat.lt_of_lt_of_le Y0 g.h.size
  have F00 : ∀ g : Grown W2, g.w.cell? ⟨nb1, 0, none⟩ = some (.int .i64 (-2147483648)) := fun g => (g.cell Y0).trans (by subst hW2; rw [← c00]; exact Below.cell (B := g4.w.heap.size) ((Below.refl _ _).alloc (by first | omega | (simp <;> omega)) _) (p := ⟨nb1, 0, none⟩) s0)
  have H00 : ∀ g : Grown W2, g.w.frozen? ⟨nb1, 0, none⟩ = false := fun g => (g.frozen Y0).trans (by subst hW2; rw [← d00]; exact Below.frozen (B := g4.w.heap.size) ((Below.refl _ _).alloc (by first | omega | (simp <;> omega)) _) (p := ⟨nb1, 0, none⟩) s0)
  have F01 : ∀ g : Grown W2, g.w.cell? ⟨nb1, 1, none⟩ = some (.int .i64 2147483648) := fun g => (g.cell Y0).trans (by subst hW2; rw [← c01]; exact Below.cell (B := g4.w.heap.size) ((Below.refl _ _).alloc (by first | omega | (simp <;> omega)) _) (p := ⟨nb1, 1, none⟩) s0)
  have H01 : ∀ g : Grown W2, g.w.frozen? ⟨nb1, 1, none⟩ = false := fun g => (g.frozen Y0).trans (by subst hW2; rw [← d01]; exact Below.frozen (B := g4.w.heap.size) ((Below.refl _ _).alloc (by first | omega | (simp <;> omega)) _) (p := ⟨nb1, 1, none⟩) s0)
  clear Y0 c00 c01 d00 d01 s0
  have Y1 : nb1 + 1 < W2.heap.size := by subst hW2; have := S1 g4; simp <;> omega
  have c10 := F10 g4
  have d10 := H10 g4
  have c11 := F11 g4
  have d11 := H11 g4
  have s1 := S1 g4
  clear S1 F10 F11 H10 H11
  have S1 : ∀ g : Grown W2, nb1 + 1 < g.w.heap.size := fun g => Nat.lt_of_lt_of_le Y1 g.h.size
  have F10 : ∀ g : Grown W2, g.w.cell? ⟨nb1 + 1, 0, none⟩ = some (.int .i64 65536) := fun g => (g.cell Y1).trans (by subst hW2; rw [← c10]; exact Below.cell (B := g4.w.heap.size) ((Below.refl _ _).alloc (by first | omega | (simp <;> omega)) _) (p := ⟨nb1 + 1, 0, none⟩) s1)
  have H10 : ∀ g : Grown W2, g.w.frozen? ⟨nb1 + 1, 0, none⟩ = false := fun g => (g.frozen Y1).trans (by subst hW2; rw [← d10]; exact Below.frozen (B := g4.w.heap.size) ((Below.refl _ _).alloc (by first | omega | (simp <;> omega)) _) (p := ⟨nb1 + 1, 0, none⟩) s1)
  have F11 : ∀ g : Grown W2, g.w.cell? ⟨nb1 + 1, 1, none⟩ = some (.int .i64 65536) := fun g => (g.cell Y1).trans (by subst hW2; rw [← c11]; exact Below.cell (B := g4.w.heap.size) ((Below.refl _ _).alloc (by first | omega | (simp <;> omega)) _) (p := ⟨nb1 + 1, 1, none⟩) s1)
  have H11 : ∀ g : Grown W2, g.w.frozen? ⟨nb1 + 1, 1, none⟩ = false := fun g => (g.frozen Y1).trans (by subst hW2; rw [← d11]; exact Below.frozen (B := g4.w.heap.size) ((Below.refl _ _).alloc (by first | omega | (simp <;> omega)) _) (p := ⟨nb1 + 1, 1, none⟩) s1)
  clear Y1 c10 c11 d10 d11 s1
  have Y2 : nb2 < W2.heap.size := by subst hW2; subst hnb2; simp <;> omega
  have S2 : ∀ g : Grown W2, nb2 < g.w.heap.size := fun g => Nat.lt_of_lt_of_le Y2 g.h.size
  have F20 : ∀ g : Grown W2, g.w.cell? ⟨nb2, 0, none⟩ = some (.int .i64 0) := fun g => (g.cell Y2).trans (by subst hW2; subst hnb2; simp [go_sem])
  have H20 : ∀ g : Grown W2, g.w.frozen? ⟨nb2, 0, none⟩ = false := fun g => (g.frozen Y2).trans (by subst hW2; subst hnb2; simp [go_sem])
  have F21 : ∀ g : Grown W2, g.w.cell? ⟨nb2, 1, none⟩ = some (.int .i64 92682) := fun g => (g.cell Y2).trans (by subst hW2; subst hnb2; simp [go_sem])
  have H21 : ∀ g : Grown W2, g.w.frozen? ⟨nb2, 1, none⟩ = false := fun g => (g.frozen Y2).trans (by subst hW2; subst hnb2; simp [go_sem])
  clear Y2
  rw [← hnb2]
  clear hnb2 hW2 hT1
  obtain ⟨h2, hg2⟩ : ∃ g : Grown W2, W2 = g.w := ⟨⟨W2, Below.refl _ _⟩, rfl⟩
  rw [hg2]
  clear hg2 g4
  refine (law_v _ _ _).mono ?_
  rintro e5 w5 ⟨rfl, hB5⟩
  obtain ⟨g5, rfl⟩ := grow h2 hB5
  clear hB5
  go_wp2_with (fail)
  refine (iv_sqrt_neg _ _ _ (by decide) (by decide)).mono ?_
  rintro e6 w6 ⟨rfl, hB6⟩
  obtain ⟨g6, rfl⟩ := grow g5 hB6
  clear hB6
  go_wp2_with (fail)
  generalize hW3 : World.alloc g6.w _ = W3
  have hh := (below_then hT2 g6.h).size
  have hT3 : Below w.heap.size w W3 := by subst hW3; exact ((below_then hT2 g6.h).alloc (by first | omega | (simp <;> omega)) _)
  clear hh
  obtain ⟨nb3, hnb3⟩ : ∃ nb, nb = g6.w.heap.size := ⟨_, rfl⟩
  have Y0 : nb1 < W3.heap.size := by subst hW3; have := S0 g6; simp <;> omega
  have c00 := F00 g6
  have d00 := H00 g6
  have c01 := F01 g6
  have d01 := H01 g6
  have s0 := S0 g6
  clear S0 F00 F01 H00 H01
  have S0 : ∀ g : Grown W3, nb1 < g.w.heap.size := fun g => Nat.lt_of_lt_of_le Y0 g.h.size
  have F00 : ∀ g : Grown W3, g.w.cell? ⟨nb1, 0, none⟩ = some (.int .i64 (-2147483648)) := fun g => (g.cell Y0).trans (by subst hW3; rw [← c00]; exact Below.cell (B := g6.w.heap.size) ((Below.refl _ _).alloc (by first | omega | (simp <;> omega)) _) (p := ⟨nb1, 0, none⟩) s0)
  have H00 : ∀ g : Grown W3, g.w.frozen? ⟨nb1, 0, none⟩ = false := fun g => (g.frozen Y0).trans (by subst hW3; rw [← d00]; exact Below.frozen (B := g6.w.heap.size) ((Below.refl _ _).alloc (by first | omega | (simp <;> omega)) _) (p := ⟨nb1, 0, none⟩) s0)
  have F01 : ∀ g : Grown W3, g.w.cell? ⟨nb1, 1, none⟩ = some (.int .i64 2147483648) := fun g => (g.cell Y0).trans (by subst hW3; rw [← c01]; exact Below.cell (B := g6.w.heap.size) ((Below.refl _ _).alloc (by first | omega | (simp <;> omega)) _) (p := ⟨nb1, 1, none⟩) s0)
  have H01 : ∀ g : Grown W3, g.w.frozen? ⟨nb1, 1, none⟩ = false := fun g => (g.frozen Y0).trans (by subst hW3; rw [← d01]; exact Below.frozen (B := g6.w.heap.size) ((Below.refl _ _).alloc (by first | omega | (simp <;> omega)) _) (p := ⟨nb1, 1, none⟩) s0)
  clear Y0 c00 c01 d00 d01 s0
  have Y1 : nb1 + 1 < W3.heap.size := by subst hW3; have := S1 g6; simp <;> omega
  have c10 := F10 g6
  have d10 := H10 g6
  have c11 := F11 g6
  have d11 := H11 g6
  have s1 := S1 g6
  clear S1 F10 F11 H10 H11
  have S1 : ∀ g : Grown W3, nb1 + 1 < g.w.heap.size := fun g => Nat.lt_of_lt_of_le Y1 g.h.size
  have F10 : ∀ g : Grown W3, g.w.cell? ⟨nb1 + 1, 0, none⟩ = some (.int .i64 65536) := fun g => (g.cell Y1).trans (by subst hW3; rw [← c10]; exact Below.cell (B := g6.w.heap.size) ((Below.refl _ _).alloc (by first | omega | (simp <;> omega)) _) (p := ⟨nb1 + 1, 0, none⟩) s1)
  have H10 : ∀ g : Grown W3, g.w.frozen? ⟨nb1 + 1, 0, none⟩ = false := fun g => (g.frozen Y1).trans (by subst hW3; rw [← d10]; exact Below.frozen (B := g6.w.heap.size) ((Below.refl _ _).alloc (by first | omega | (simp <;> omega)) _) (p := ⟨nb1 + 1, 0, none⟩) s1)
  have F11 : ∀ g : Grown W3, g.w.cell? ⟨nb1 + 1, 1, none⟩ = some (.int .i64 65536) := fun g => (g.cell Y1).trans (by subst hW3; rw [← c11]; exact Below.cell (B := g6.w.heap.size) ((Below.refl _ _).alloc (by first | omega | (simp <;> omega)) _) (p := ⟨nb1 + 1, 1, none⟩) s1)
  have H11 : ∀ g : Grown W3, g.w.frozen? ⟨nb1 + 1, 1, none⟩ = false := fun g => (g.frozen Y1).trans (by subst hW3; rw [← d11]; exact Below.frozen (B := g6.w.heap.size) ((Below.refl _ _).alloc (by first | omega | (simp <;> omega)) _) (p := ⟨nb1 + 1, 1, none⟩) s1)
  clear Y1 c10 c11 d10 d11 s1
  have Y2 : nb2 < W3.heap.size := by subst hW3; have := S2 g6; simp <;> omega
  have c20 := F20 g6
  have d20 := H20 g6
  have c21 := F21 g6
  have d21 := H21 g6
  have s2 := S2 g6
  clear S2 F20 F21 H20 H21
  have S2 : ∀ g : Grown W3, nb2 < g.w.heap.size := fun g => Nat.lt_of_lt_of_le Y2 g.h.size
  have F20 : ∀ g : Grown W3, g.w.cell? ⟨nb2, 0, none⟩ = some (.int .i64 0) := fun g => (g.cell Y2).trans (by subst hW3; rw [← c20]; exact Below.cell (B := g6.w.heap.size) ((Below.refl _ _).alloc (by first | omega | (simp <;> omega)) _) (p := ⟨nb2, 0, none⟩) s2)
  have H20 : ∀ g : Grown W3, g.w.frozen? ⟨nb2, 0, none⟩ = false := fun g => (g.frozen Y2).trans (by subst hW3; rw [← d20]; exact Below.frozen (B := g6.w.heap.size) ((Below.refl _ _).alloc (by first | omega | (simp <;> omega)) _) (p := ⟨nb2, 0, none⟩) s2)
  have F21 : ∀ g : Grown W3, g.w.cell? ⟨nb2, 1, none⟩ = some (.int .i64 92682) := fun g => (g.cell Y2).trans (by subst hW3; rw [← c21]; exact Below.cell (B := g6.w.heap.size) ((Below.refl _ _).alloc (by first | omega | (simp <;> omega)) _) (p := ⟨nb2, 1, none⟩) s2)
  have H21 : ∀ g : Grown W3, g.w.frozen? ⟨nb2, 1, none⟩ = false := fun g => (g.frozen Y2).trans (by subst hW3; rw [← d21]; exact Below.frozen (B := g6.w.heap.size) ((Below.refl _ _).alloc (by first | omega | (simp <;> omega)) _) (p := ⟨nb2, 1, none⟩) s2)
  clear Y2 c20 c21 d20 d21 s2
  have Y3 : nb3 < W3.heap.size := by subst hW3; subst hnb3; simp <;> omega
  have S3 : ∀ g : Grown W3, nb3 < g.w.heap.size := fun g => Nat.lt_of_lt_of_le Y3 g.h.size
  have F30 : ∀ g : Grown W3, g.w.cell? ⟨nb3, 0, none⟩ = some (.int .i64 0) := fun g => (g.cell Y3).trans (by subst hW3; subst hnb3; simp [go_sem])
  have H30 : ∀ g : Grown W3, g.w.frozen? ⟨nb3, 0, none⟩ = false := fun g => (g.frozen Y3).trans (by subst hW3; subst hnb3; simp [go_sem])
  have F31 : ∀ g : Grown W3, g.w.cell? ⟨nb3, 1, none⟩ = some (.int .i64 0) := fun g => (g.cell Y3).trans (by subst hW3; subst hnb3; simp [go_sem])
  have H31 : ∀ g : Grown W3, g.w.frozen? ⟨nb3, 1, none⟩ = false := fun g => (g.frozen Y3).trans (by subst hW3; subst hnb3; simp [go_sem])
  clear Y3
  rw [← hnb3]
  clear hnb3 hW3 hT2
  obtain ⟨h3, hg3⟩ : ∃ g : Grown W3, W3 = g.w := ⟨⟨W3, Below.refl _ _⟩, rfl⟩
  rw [hg3]
  clear hg3 g6
  refine (law_v _ _ _).mono ?_
  rintro e7 w7 ⟨rfl, hB7⟩
  obtain ⟨g7, rfl⟩ := grow h3 hB7
  clear hB7
  go_wp2_with (fail)
  refine (law_v _ _ _).mono ?_
  rintro e8 w8 ⟨rfl, hB8⟩
  obtain ⟨g8, rfl⟩ := grow g7 hB8
  clear hB8
  go_wp2_with (fail)
  refine (is3 (iv_meet_yes _ _ _ _ _ (by decide) (by decide) (by decide)) (show _ = (4 : Int) from by decide) (show _ = (5 : Int) from by decide)).mono ?_
  rintro e9 w9 ⟨rfl, hB9⟩
  obtain ⟨g9, rfl⟩ := grow g8 hB9
  clear hB9
  go_wp2_with (fail)
  generalize hW4 : World.alloc g9.w _ = W4
  have hh := (below_then hT3 g9.h).size
  have hT4 : Below w.heap.size w W4 := by subst hW4; exact ((below_then hT3 g9.h).alloc (by first | omega | (simp <;> omega)) _)
  clear hh
  obtain ⟨nb4, hnb4⟩ : ∃ nb, nb = g9.w.heap.size := ⟨_, rfl⟩
  have Y0 : nb1 < W4.heap.size := by subst hW4; have := S0 g9; simp <;> omega
  have c00 := F00 g9
  have d00 := H00 g9
  have c01 := F01 g9
  have d01 := H01 g9
  have s0 := S0 g9
  clear S0 F00 F01 H00 H01
  have S0 : ∀ g : Grown W4, nb1 < g.w.heap.size := fun g => Nat.lt_of_lt_of_le Y0 g.h.size
  have F00 : ∀ g : Grown W4, g.w.cell? ⟨nb1, 0, none⟩ = some (.int .i64 (-2147483648)) := fun g => (g.cell Y0).trans (by subst hW4; rw [← c00]; exact Below.cell (B := g9.w.heap.size) ((Below.refl _ _).alloc (by first | omega | (simp <;> omega)) _) (p := ⟨nb1, 0, none⟩) s0)
  have H00 : ∀ g : Grown W4, g.w.frozen? ⟨nb1, 0, none⟩ = false := fun g => (g.frozen Y0).trans (by subst hW4; rw [← d00]; exact Below.frozen (B := g9.w.heap.size) ((Below.refl _ _).alloc (by first | omega | (simp <;> omega)) _) (p := ⟨nb1, 0, none⟩) s0)
  have F01 : ∀ g : Grown W4, g.w.cell? ⟨nb1, 1, none⟩ = some (.int .i64 2147483648) := fun g => (g.cell Y0).trans (by subst hW4; rw [← c01]; exact Below.cell (B := g9.w.heap.size) ((Below.refl _ _).alloc (by first | omega | (simp <;> omega)) _) (p := ⟨nb1, 1, none⟩) s0)
  have H01 : ∀ g : Grown W4, g.w.frozen? ⟨nb1, 1, none⟩ = false := fun g => (g.frozen Y0).trans (by subst hW4; rw [← d01]; exact Below.frozen (B := g9.w.heap.size) ((Below.refl _ _).alloc (by first | omega | (simp <;> omega)) _) (p := ⟨nb1, 1, none⟩) s0)
  clear Y0 c00 c01 d00 d01 s0
  have Y1 : nb1 + 1 < W4.heap.size := by subst hW4; have := S1 g9; simp <;> omega
  have c10 := F10 g9
  have d10 := H10 g9
  have c11 := F11 g9
  have d11 := H11 g9
  have s1 := S1 g9
  clear S1 F10 F11 H10 H11
  have S1 : ∀ g : Grown W4, nb1 + 1 < g.w.heap.size := fun g => Nat.lt_of_lt_of_le Y1 g.h.size
  have F10 : ∀ g : Grown W4, g.w.cell? ⟨nb1 + 1, 0, none⟩ = some (.int .i64 65536) := fun g => (g.cell Y1).trans (by subst hW4; rw [← c10]; exact Below.cell (B := g9.w.heap.size) ((Below.refl _ _).alloc (by first | omega | (simp <;> omega)) _) (p := ⟨nb1 + 1, 0, none⟩) s1)
  have H10 : ∀ g : Grown W4, g.w.frozen? ⟨nb1 + 1, 0, none⟩ = false := fun g => (g.frozen Y1).trans (by subst hW4; rw [← d10]; exact Below.frozen (B := g9.w.heap.size) ((Below.refl _ _).alloc (by first | omega | (simp <;> omega)) _) (p := ⟨nb1 + 1, 0, none⟩) s1)
  have F11 : ∀ g : Grown W4, g.w.cell? ⟨nb1 + 1, 1, none⟩ = some (.int .i64 65536) := fun g => (g.cell Y1).trans (by subst hW4; rw [← c11]; exact Below.cell (B := g9.w.heap.size) ((Below.refl _ _).alloc (by first | omega | (simp <;> omega)) _) (p := ⟨nb1 + 1, 1, none⟩) s1)
  have H11 : ∀ g : Grown W4, g.w.frozen? ⟨nb1 + 1, 1, none⟩ = false := fun g => (g.frozen Y1).trans (by subst hW4; rw [← d11]; exact Below.frozen (B := g9.w.heap.size) ((Below.refl _ _).alloc (by first | omega | (simp <;> omega)) _) (p := ⟨nb1 + 1, 1, none⟩) s1)
  clear Y1 c10 c11 d10 d11 s1
  have Y2 : nb2 < W4.heap.size := by subst hW4; have := S2 g9; simp <;> omega
  have c20 := F20 g9
  have d20 := H20 g9
  have c21 := F21 g9
  have d21 := H21 g9
  have s2 := S2 g9
  clear S2 F20 F21 H20 H21
  have S2 : ∀ g : Grown W4, nb2 < g.w.heap.size := fun g => Nat.lt_of_lt_of_le Y2 g.h.size
  have F20 : ∀ g : Grown W4, g.w.cell? ⟨nb2, 0, none⟩ = some (.int .i64 0) := fun g => (g.cell Y2).trans (by subst hW4; rw [← c20]; exact Below.cell (B := g9.w.heap.size) ((Below.refl _ _).alloc (by first | omega | (simp <;> omega)) _) (p := ⟨nb2, 0, none⟩) s2)
  have H20 : ∀ g : Grown W4, g.w.frozen? ⟨nb2, 0, none⟩ = false := fun g => (g.frozen Y2).trans (by subst hW4; rw [← d20]; exact Below.frozen (B := g9.w.heap.size) ((Below.refl _ _).alloc (by first | omega | (simp <;> omega)) _) (p := ⟨nb2, 0, none⟩) s2)
  have F21 : ∀ g : Grown W4, g.w.cell? ⟨nb2, 1, none⟩ = some (.int .i64 92682) := fun g => (g.cell Y2).trans (by subst hW4; rw [← c21]; exact Below.cell (B := g9.w.heap.size) ((Below.refl _ _).alloc (by first | omega | (simp <;> omega)) _) (p := ⟨nb2, 1, none⟩) s2)
  have H21 : ∀ g : Grown W4, g.w.frozen? ⟨nb2, 1, none⟩ = false := fun g => (g.frozen Y2).trans (by subst hW4; rw [← d21]; exact Below.frozen (B := g9.w.heap.size) ((Below.refl _ _).alloc (by first | omega | (simp <;> omega)) _) (p := ⟨nb2, 1, none⟩) s2)
  clear Y2 c20 c21 d20 d21 s2
  have Y3 : nb3 < W4.heap.size := by subst hW4; have := S3 g9; simp <;> omega
  have c30 := F30 g9
  have d30 := H30 g9
  have c31 := F31 g9
  have d31 := H31 g9
  have s3 := S3 g9
  clear S3 F30 F31 H30 H31
  have S3 : ∀ g : Grown W4, nb3 < g.w.heap.size := fun g => Nat.lt_of_lt_of_le Y3 g.h.size
  have F30 : ∀ g : Grown W4, g.w.cell? ⟨nb3, 0, none⟩ = some (.int .i64 0) := fun g => (g.cell Y3).trans (by subst hW4; rw [← c30]; exact Below.cell (B := g9.w.heap.size) ((Below.refl _ _).alloc (by first | omega | (simp <;> omega)) _) (p := ⟨nb3, 0, none⟩) s3)
  have H30 : ∀ g : Grown W4, g.w.frozen? ⟨nb3, 0, none⟩ = false := fun g => (g.frozen Y3).trans (by subst hW4; rw [← d30]; exact Below.frozen (B := g9.w.heap.size) ((Below.refl _ _).alloc (by first | omega | (simp <;> omega)) _) (p := ⟨nb3, 0, none⟩) s3)
  have F31 : ∀ g : Grown W4, g.w.cell? ⟨nb3, 1, none⟩ = some (.int .i64 0) := fun g => (g.cell Y3).trans (by subst hW4; rw [← c31]; exact Below.cell (B := g9.w.heap.size) ((Below.refl _ _).alloc (by first | omega | (simp <;> omega)) _) (p := ⟨nb3, 1, none⟩) s3)
  have H31 : ∀ g : Grown W4, g.w.frozen? ⟨nb3, 1, none⟩ = false := fun g => (g.frozen Y3).trans (by subst hW4; rw [← d31]; exact Below.frozen (B := g9.w.heap.size) ((Below.refl _ _).alloc (by first | omega | (simp <;> omega)) _) (p := ⟨nb3, 1, none⟩) s3)
  clear Y3 c30 c31 d30 d31 s3
  have Y4 : nb4 < W4.heap.size := by subst hW4; subst hnb4; simp <;> omega
  have S4 : ∀ g : Grown W4, nb4 < g.w.heap.size := fun g => Nat.lt_of_lt_of_le Y4 g.h.size
  have F40 : ∀ g : Grown W4, g.w.cell? ⟨nb4, 0, none⟩ = some (.int .i64 4) := fun g => (g.cell Y4).trans (by subst hW4; subst hnb4; simp [go_sem])
  have H40 : ∀ g : Grown W4, g.w.frozen? ⟨nb4, 0, none⟩ = false := fun g => (g.frozen Y4).trans (by subst hW4; subst hnb4; simp [go_sem])
  have F41 : ∀ g : Grown W4, g.w.cell? ⟨nb4, 1, none⟩ = some (.int .i64 5) := fun g => (g.cell Y4).trans (by subst hW4; subst hnb4; simp [go_sem])
  have H41 : ∀ g : Grown W4, g.w.frozen? ⟨nb4, 1, none⟩ = false := fun g => (g.frozen Y4).trans (by subst hW4; subst hnb4; simp [go_sem])
  clear Y4
  rw [← hnb4]
  clear hnb4 hW4 hT3
  obtain ⟨h4, hg4⟩ : ∃ g : Grown W4, W4 = g.w := ⟨⟨W4, Below.refl _ _⟩, rfl⟩
  rw [hg4]
  clear hg4 g9
  refine (law_v _ _ _).mono ?_
  rintro e10 w10 ⟨rfl, hB10⟩
  obtain ⟨g10, rfl⟩ := grow h4 hB10
  clear hB10
  go_wp2_with (fail)
  refine (law_v _ _ _).mono ?_
  rintro e11 w11 ⟨rfl, hB11⟩
  obtain ⟨g11, rfl⟩ := grow g10 hB11
  clear hB11
  go_wp2_with (fail)
  refine (iv_meet_no _ _ _ _ _ (by decide)).mono ?_
  rintro e12 w12 ⟨rfl, hB12⟩
  obtain ⟨g12, rfl⟩ := grow g11 hB12
  clear hB12
  go_wp2_with (fail)
  generalize hW5 : World.alloc g12.w _ = W5
  have hh := (below_then hT4 g12.h).size
  have hT5 : Below w.heap.size w W5 := by subst hW5; exact ((below_then hT4 g12.h).alloc (by first | omega | (simp <;> omega)) _)
  clear hh
  obtain ⟨nb5, hnb5⟩ : ∃ nb, nb = g12.w.heap.size := ⟨_, rfl⟩
  have Y0 : nb1 < W5.heap.size := by subst hW5; have := S0 g12; simp <;> omega
  have c00 := F00 g12
  have d00 := H00 g12
  have c01 := F01 g12
  have d01 := H01 g12
  have s0 := S0 g12
  clear S0 F00 F01 H00 H01
  have S0 : ∀ g : Grown W5, nb1 < g.w.heap.size := fun g => Nat.lt_of_lt_of_le Y0 g.h.size
  have F00 : ∀ g : Grown W5, g.w.cell? ⟨nb1, 0, none⟩ = some (.int .i64 (-2147483648)) := fun g => (g.cell Y0).trans (by subst hW5; rw [← c00]; exact Below.cell (B := g12.w.heap.size) ((Below.refl _ _).alloc (by first | omega | (simp <;> omega)) _) (p := ⟨nb1, 0, none⟩) s0)
  have H00 : ∀ g : Grown W5, g.w.frozen? ⟨nb1, 0, none⟩ = false := fun g => (g.frozen Y0).trans (by subst hW5; rw [← d00]; exact Below.frozen (B := g12.w.heap.size) ((Below.refl _ _).alloc (by first | omega | (simp <;> omega)) _) (p := ⟨nb1, 0, none⟩) s0)
  have F01 : ∀ g : Grown W5, g.w.cell? ⟨nb1, 1, none⟩ = some (.int .i64 2147483648) := fun g => (g.cell Y0).trans (by subst hW5; rw [← c01]; exact Below.cell (B := g12.w.heap.size) ((Below.refl _ _).alloc (by first | omega | (simp <;> omega)) _) (p := ⟨nb1, 1, none⟩) s0)
  have H01 : ∀ g : Grown W5, g.w.frozen? ⟨nb1, 1, none⟩ = false := fun g => (g.frozen Y0).trans (by subst hW5; rw [← d01]; exact Below.frozen (B := g12.w.heap.size) ((Below.refl _ _).alloc (by first | omega | (simp <;> omega)) _) (p := ⟨nb1, 1, none⟩) s0)
  clear Y0 c00 c01 d00 d01 s0
  have Y1 : nb1 + 1 < W5.heap.size := by subst hW5; have := S1 g12; simp <;> omega
  have c10 := F10 g12
  have d10 := H10 g12
  have c11 := F11 g12
  have d11 := H11 g12
  have s1 := S1 g12
  clear S1 F10 F11 H10 H11
  have S1 : ∀ g : Grown W5, nb1 + 1 < g.w.heap.size := fun g => Nat.lt_of_lt_of_le Y1 g.h.size
  have F10 : ∀ g : Grown W5, g.w.cell? ⟨nb1 + 1, 0, none⟩ = some (.int .i64 65536) := fun g => (g.cell Y1).trans (by subst hW5; rw [← c10]; exact Below.cell (B := g12.w.heap.size) ((Below.refl _ _).alloc (by first | omega | (simp <;> omega)) _) (p := ⟨nb1 + 1, 0, none⟩) s1)
  have H10 : ∀ g : Grown W5, g.w.frozen? ⟨nb1 + 1, 0, none⟩ = false := fun g => (g.frozen Y1).trans (by subst hW5; rw [← d10]; exact Below.frozen (B := g12.w.heap.size) ((Below.refl _ _).alloc (by first | omega | (simp <;> omega)) _) (p := ⟨nb1 + 1, 0, none⟩) s1)
  have F11 : ∀ g : Grown W5, g.w.cell? ⟨nb1 + 1, 1, none⟩ = some (.int .i64 65536) := fun g => (g.cell Y1).trans (by subst hW5; rw [← c11]; exact Below.cell (B := g12.w.heap.size) ((Below.refl _ _).alloc (by first | omega | (simp <;> omega)) _) (p := ⟨nb1 + 1, 1, none⟩) s1)
  have H11 : ∀ g : Grown W5, g.w.frozen? ⟨nb1 + 1, 1, none⟩ = false := fun g => (g.frozen Y1).trans (by subst hW5; rw [← d11]; exact Below.frozen (B := g12.w.heap.size) ((Below.refl _ _).alloc (by first | omega | (simp <;> omega)) _) (p := ⟨nb1 + 1, 1, none⟩) s1)
  clear Y1 c10 c11 d10 d11 s1
  have Y2 : nb2 < W5.heap.size := by subst hW5; have := S2 g12; simp <;> omega
  have c20 := F20 g12
  have d20 := H20 g12
  have c21 := F21 g12
  have d21 := H21 g12
  have s2 := S2 g12
  clear S2 F20 F21 H20 H21
  have S2 : ∀ g : Grown W5, nb2 < g.w.heap.size := fun g => Nat.lt_of_lt_of_le Y2 g.h.size
  have F20 : ∀ g : Grown W5, g.w.cell? ⟨nb2, 0, none⟩ = some (.int .i64 0) := fun g => (g.cell Y2).trans (by subst hW5; rw [← c20]; exact Below.cell (B := g12.w.heap.size) ((Below.refl _ _).alloc (by first | omega | (simp <;> omega)) _) (p := ⟨nb2, 0, none⟩) s2)
  have H20 : ∀ g : Grown W5, g.w.frozen? ⟨nb2, 0, none⟩ = false := fun g => (g.frozen Y2).trans (by subst hW5; rw [← d20]; exact Below.frozen (B := g12.w.heap.size) ((Below.refl _ _).alloc (by first | omega | (simp <;> omega)) _) (p := ⟨nb2, 0, none⟩) s2)
  have F21 : ∀ g : Grown W5, g.w.cell? ⟨nb2, 1, none⟩ = some (.int .i64 92682) := fun g => (g.cell Y2).trans (by subst hW5; rw [← c21]; exact Below.cell (B := g12.w.heap.size) ((Below.refl _ _).alloc (by first | omega | (simp <;> omega)) _) (p := ⟨nb2, 1, none⟩) s2)
  have H21 : ∀ g : Grown W5, g.w.frozen? ⟨nb2, 1, none⟩ = false := fun g => (g.frozen Y2).trans (by subst hW5; rw [← d21]; exact Below.frozen (B := g12.w.heap.size) ((Below.refl _ _).alloc (by first | omega | (simp <;> omega)) _) (p := ⟨nb2, 1, none⟩) s2)
  clear Y2 c20 c21 d20 d21 s2
  have Y3 : nb3 < W5.heap.size := by subst hW5; have := S3 g12; simp <;> omega
  have c30 := F30 g12
  have d30 := H30 g12
  have c31 := F31 g12
  have d31 := H31 g12
  have s3 := S3 g12
  clear S3 F30 F31 H30 H31
  have S3 : ∀ g : Grown W5, nb3 < g.w.heap.size := fun g => Nat.lt_of_lt_of_le Y3 g.h.size
  have F30 : ∀ g : Grown W5, g.w.cell? ⟨nb3, 0, none⟩ = some (.int .i64 0) := fun g => (g.cell Y3).trans (by subst hW5; rw [← c30]; exact Below.cell (B := g12.w.heap.size) ((Below.refl _ _).alloc (by first | omega | (simp <;> omega)) _) (p := ⟨nb3, 0, none⟩) s3)
  have H30 : ∀ g : Grown W5, g.w.frozen? ⟨nb3, 0, none⟩ = false := fun g => (g.frozen Y3).trans (by subst hW5; rw [← d30]; exact Below.frozen (B := g12.w.heap.size) ((Below.refl _ _).alloc (by first | omega | (simp <;> omega)) _) (p := ⟨nb3, 0, none⟩) s3)
  have F31 : ∀ g : Grown W5, g.w.cell? ⟨nb3, 1, none⟩ = some (.int .i64 0) := fun g => (g.cell Y3).trans (by subst hW5; rw [← c31]; exact Below.cell (B := g12.w.heap.size) ((Below.refl _ _).alloc (by first | omega | (simp <;> omega)) _) (p := ⟨nb3, 1, none⟩) s3)
  have H31 : ∀ g : Grown W5, g.w.frozen? ⟨nb3, 1, none⟩ = false := fun g => (g.frozen Y3).trans (by subst hW5; rw [← d31]; exact Below.frozen (B := g12.w.heap.size) ((Below.refl _ _).alloc (by first | omega | (simp <;> omega)) _) (p := ⟨nb3, 1, none⟩) s3)
  clear Y3 c30 c31 d30 d31 s3
  have Y4 : nb4 < W5.heap.size := by subst hW5; have := S4 g12; simp <;> omega
  have c40 := F40 g12
  have d40 := H40 g12
  have c41 := F41 g12
  have d41 := H41 g12
  have s4 := S4 g12
  clear S4 F40 F41 H40 H41
  have S4 : ∀ g : Grown W5, nb4 < g.w.heap.size := fun g => Nat.lt_of_lt_of_le Y4 g.h.size
  have F40 : ∀ g : Grown W5, g.w.cell? ⟨nb4, 0, none⟩ = some (.int .i64 4) := fun g => (g.cell Y4).trans (by subst hW5; rw [← c40]; exact Below.cell (B := g12.w.heap.size) ((Below.refl _ _).alloc (by first | omega | (simp <;> omega)) _) (p := ⟨nb4, 0, none⟩) s4)
  have H40 : ∀ g : Grown W5, g.w.frozen? ⟨nb4, 0, none⟩ = false := fun g => (g.frozen Y4).trans (by subst hW5; rw [← d40]; exact Below.frozen (B := g12.w.heap.size) ((Below.refl _ _).alloc (by first | omega | (simp <;> omega)) _) (p := ⟨nb4, 0, none⟩) s4)
  have F41 : ∀ g : Grown W5, g.w.cell? ⟨nb4, 1, none⟩ = some (.int .i64 5) := fun g => (g.cell Y4).trans (by subst hW5; rw [← c41]; exact Below.cell (B := g12.w.heap.size) ((Below.refl _ _).alloc (by first | omega | (simp <;> omega)) _) (p := ⟨nb4, 1, none⟩) s4)
  have H41 : ∀ g : Grown W5, g.w.frozen? ⟨nb4, 1, none⟩ = false := fun g => (g.frozen Y4).trans (by subst hW5; rw [← d41]; exact Below.frozen (B := g12.w.heap.size) ((Below.refl _ _).alloc (by first | omega | (simp <;> omega)) _) (p := ⟨nb4, 1, none⟩) s4)
  clear Y4 c40 c41 d40 d41 s4
  have Y5 : nb5 < W5.heap.size := by subst hW5; subst hnb5; simp <;> omega
  have S5 : ∀ g : Grown W5, nb5 < g.w.heap.size := fun g => Nat.lt_of_lt_of_le Y5 g.h.size
  have F50 : ∀ g : Grown W5, g.w.cell? ⟨nb5, 0, none⟩ = some (.int .i64 0) := fun g => (g.cell Y5).trans (by subst hW5; subst hnb5; simp [go_sem])
  have H50 : ∀ g : Grown W5, g.w.frozen? ⟨nb5, 0, none⟩ = false := fun g => (g.frozen Y5).trans (by subst hW5; subst hnb5; simp [go_sem])
  have F51 : ∀ g : Grown W5, g.w.cell? ⟨nb5, 1, none⟩ = some (.int .i64 0) := fun g => (g.cell Y5).trans (by subst hW5; subst hnb5; simp [go_sem])
  have H51 : ∀ g : Grown W5, g.w.frozen? ⟨nb5, 1, none⟩ = false := fun g => (g.frozen Y5).trans (by subst hW5; subst hnb5; simp [go_sem])
  clear Y5
  rw [← hnb5]
  clear hnb5 hW5 hT4
  obtain ⟨h5, hg5⟩ : ∃ g : Grown W5, W5 = g.w := ⟨⟨W5, Below.refl _ _⟩, rfl⟩
  rw [hg5]
  clear hg5 g12
  simp only [List.append_eq, List.cons_append, List.nil_append]
  refine region_quiet' h5 (by kernel_rfl) (lexB_of (by as_aux_lemma => kernel_rfl) (by as_aux_lemma => kernel_rfl)) ?_
  iterate 36 (go_big_quiet_step (first | (go_at_call 60; exact qc (law_v _ _ _)) | (go_at_call 62; exact qc (same_yes _ _ _)) | (go_at_call 15; first | exact qc (is2 (iv_mul _ _ _ _ _ (by decide) (by decide)) (show _ = (-65536 : Int) from by decide) (show _ = (196608 : Int) from by decide)) | exact qc (is2 (iv_mul _ _ _ _ _ (by decide) (by decide)) (show _ = ((-2147483648) : Int) from by decide) (show _ = (2147483648 : Int) from by decide)) | exact qc (is2 (iv_mul _ _ _ _ _ (by decide) (by decide)) (show _ = (-1 : Int) from by decide) (show _ = (0 : Int) from by decide)) ) | (go_at_call 17; first | exact qc (is2 (iv_div _ _ _ _ _ (by decide) (by decide)) (show _ = (21845 : Int) from by decide) (show _ = (21846 : Int) from by decide)) | exact qc (is2 (iv_div _ _ _ _ _ (by decide) (by decide)) (show _ = ((-2147483648) : Int) from by decide) (show _ = (2147483648 : Int) from by decide)) ) | (go_at_call 16; first | exact qc (is2 (iv_square _ _ _ (by decide)) (show _ = (0 : Int) from by decide) (show _ = (16384 : Int) from by decide)) ) | (go_at_call 63; first | exact qc (is2 (iv_mulratio _ _ _ _ _ (by decide) (by decide) (by decide) (by decide) (by decide)) (show _ = (-43691 : Int) from by decide) (show _ = (-21845 : Int) from by decide)) ) | (go_at_call 64; first | exact qc (is2 (iv_sub _ _ _ _ _ (by decide) (by decide)) (show _ = (-1 : Int) from by decide) (show _ = (1 : Int) from by decide)) ) | (go_at_call 18; first | exact qc (is2 (iv_add _ _ _ _ _ (by decide) (by decide)) (show _ = ((-2147483648) : Int) from by decide) (show _ = (2147483648 : Int) from by decide)) ) | (go_at_call 65; first | exact qc (is2 (iv_hull _ _ _ _ _ (by decide) (by decide)) (show _ = (1 : Int) from by decide) (show _ = (6 : Int) from by decide)) ) | (go_at_call 66; first | exact qc (iv_subset _ _ _ _ true _ (by decide)) | exact qc (iv_subset _ _ _ _ false _ (by decide))) | (go_at_call 67; first | exact qc (iv_contains _ _ _ true _ (by decide)) | exact qc (iv_contains _ _ _ false _ (by decide))) | (go_at_call 56; first | exact qc (iv_valid _ _ true _ (by decide)) | exact qc (iv_valid _ _ false _ (by decide))) | (go_at_call 68; first | exact qc (is1 (iv_mid _ _ _ (by decide)) (show _ = (-2 : Int) from by decide)) ) | (go_at_call 55; first | exact qc (is1 (iv_width _ _ _ (by decide)) (show _ = (7 : Int) from by decide)) ) | (go_at_call 69; first | exact qc (is1 (iv_mag _ _ _ (by decide)) (show _ = (5 : Int) from by decide)) ) | (go_at_call 70; first | exact qc (is1 (iv_sign _ _ _) (show _ = (0 : Int) from by decide)) | exact qc (is1 (iv_sign _ _ _) (show _ = (-1 : Int) from by decide)) )))
  as_aux_lemma =>
    iterate 36 (go_big_quiet_step (first | (go_at_call 60; exact qc (law_v _ _ _)) | (go_at_call 62; exact qc (same_yes _ _ _)) | (go_at_call 15; first | exact qc (is2 (iv_mul _ _ _ _ _ (by decide) (by decide)) (show _ = (-65536 : Int) from by decide) (show _ = (196608 : Int) from by decide)) | exact qc (is2 (iv_mul _ _ _ _ _ (by decide) (by decide)) (show _ = ((-2147483648) : Int) from by decide) (show _ = (2147483648 : Int) from by decide)) | exact qc (is2 (iv_mul _ _ _ _ _ (by decide) (by decide)) (show _ = (-1 : Int) from by decide) (show _ = (0 : Int) from by decide)) ) | (go_at_call 17; first | exact qc (is2 (iv_div _ _ _ _ _ (by decide) (by decide)) (show _ = (21845 : Int) from by decide) (show _ = (21846 : Int) from by decide)) | exact qc (is2 (iv_div _ _ _ _ _ (by decide) (by decide)) (show _ = ((-2147483648) : Int) from by decide) (show _ = (2147483648 : Int) from by decide)) ) | (go_at_call 16; first | exact qc (is2 (iv_square _ _ _ (by decide)) (show _ = (0 : Int) from by decide) (show _ = (16384 : Int) from by decide)) ) | (go_at_call 63; first | exact qc (is2 (iv_mulratio _ _ _ _ _ (by decide) (by decide) (by decide) (by decide) (by decide)) (show _ = (-43691 : Int) from by decide) (show _ = (-21845 : Int) from by decide)) ) | (go_at_call 64; first | exact qc (is2 (iv_sub _ _ _ _ _ (by decide) (by decide)) (show _ = (-1 : Int) from by decide) (show _ = (1 : Int) from by decide)) ) | (go_at_call 18; first | exact qc (is2 (iv_add _ _ _ _ _ (by decide) (by decide)) (show _ = ((-2147483648) : Int) from by decide) (show _ = (2147483648 : Int) from by decide)) ) | (go_at_call 65; first | exact qc (is2 (iv_hull _ _ _ _ _ (by decide) (by decide)) (show _ = (1 : Int) from by decide) (show _ = (6 : Int) from by decide)) ) | (go_at_call 66; first | exact qc (iv_subset _ _ _ _ true _ (by decide)) | exact qc (iv_subset _ _ _ _ false _ (by decide))) | (go_at_call 67; first | exact qc (iv_contains _ _ _ true _ (by decide)) | exact qc (iv_contains _ _ _ false _ (by decide))) | (go_at_call 56; first | exact qc (iv_valid _ _ true _ (by decide)) | exact qc (iv_valid _ _ false _ (by decide))) | (go_at_call 68; first | exact qc (is1 (iv_mid _ _ _ (by decide)) (show _ = (-2 : Int) from by decide)) ) | (go_at_call 55; first | exact qc (is1 (iv_width _ _ _ (by decide)) (show _ = (7 : Int) from by decide)) ) | (go_at_call 69; first | exact qc (is1 (iv_mag _ _ _ (by decide)) (show _ = (5 : Int) from by decide)) ) | (go_at_call 70; first | exact qc (is1 (iv_sign _ _ _) (show _ = (0 : Int) from by decide)) | exact qc (is1 (iv_sign _ _ _) (show _ = (-1 : Int) from by decide)) )))
    as_aux_lemma =>
      iterate 36 (go_big_quiet_step (first | (go_at_call 60; exact qc (law_v _ _ _)) | (go_at_call 62; exact qc (same_yes _ _ _)) | (go_at_call 15; first | exact qc (is2 (iv_mul _ _ _ _ _ (by decide) (by decide)) (show _ = (-65536 : Int) from by decide) (show _ = (196608 : Int) from by decide)) | exact qc (is2 (iv_mul _ _ _ _ _ (by decide) (by decide)) (show _ = ((-2147483648) : Int) from by decide) (show _ = (2147483648 : Int) from by decide)) | exact qc (is2 (iv_mul _ _ _ _ _ (by decide) (by decide)) (show _ = (-1 : Int) from by decide) (show _ = (0 : Int) from by decide)) ) | (go_at_call 17; first | exact qc (is2 (iv_div _ _ _ _ _ (by decide) (by decide)) (show _ = (21845 : Int) from by decide) (show _ = (21846 : Int) from by decide)) | exact qc (is2 (iv_div _ _ _ _ _ (by decide) (by decide)) (show _ = ((-2147483648) : Int) from by decide) (show _ = (2147483648 : Int) from by decide)) ) | (go_at_call 16; first | exact qc (is2 (iv_square _ _ _ (by decide)) (show _ = (0 : Int) from by decide) (show _ = (16384 : Int) from by decide)) ) | (go_at_call 63; first | exact qc (is2 (iv_mulratio _ _ _ _ _ (by decide) (by decide) (by decide) (by decide) (by decide)) (show _ = (-43691 : Int) from by decide) (show _ = (-21845 : Int) from by decide)) ) | (go_at_call 64; first | exact qc (is2 (iv_sub _ _ _ _ _ (by decide) (by decide)) (show _ = (-1 : Int) from by decide) (show _ = (1 : Int) from by decide)) ) | (go_at_call 18; first | exact qc (is2 (iv_add _ _ _ _ _ (by decide) (by decide)) (show _ = ((-2147483648) : Int) from by decide) (show _ = (2147483648 : Int) from by decide)) ) | (go_at_call 65; first | exact qc (is2 (iv_hull _ _ _ _ _ (by decide) (by decide)) (show _ = (1 : Int) from by decide) (show _ = (6 : Int) from by decide)) ) | (go_at_call 66; first | exact qc (iv_subset _ _ _ _ true _ (by decide)) | exact qc (iv_subset _ _ _ _ false _ (by decide))) | (go_at_call 67; first | exact qc (iv_contains _ _ _ true _ (by decide)) | exact qc (iv_contains _ _ _ false _ (by decide))) | (go_at_call 56; first | exact qc (iv_valid _ _ true _ (by decide)) | exact qc (iv_valid _ _ false _ (by decide))) | (go_at_call 68; first | exact qc (is1 (iv_mid _ _ _ (by decide)) (show _ = (-2 : Int) from by decide)) ) | (go_at_call 55; first | exact qc (is1 (iv_width _ _ _ (by decide)) (show _ = (7 : Int) from by decide)) ) | (go_at_call 69; first | exact qc (is1 (iv_mag _ _ _ (by decide)) (show _ = (5 : Int) from by decide)) ) | (go_at_call 70; first | exact qc (is1 (iv_sign _ _ _) (show _ = (0 : Int) from by decide)) | exact qc (is1 (iv_sign _ _ _) (show _ = (-1 : Int) from by decide)) )))
      as_aux_lemma =>
        repeat (go_big_quiet_step (first | (go_at_call 60; exact qc (law_v _ _ _)) | (go_at_call 62; exact qc (same_yes _ _ _)) | (go_at_call 15; first | exact qc (is2 (iv_mul _ _ _ _ _ (by decide) (by decide)) (show _ = (-65536 : Int) from by decide) (show _ = (196608 : Int) from by decide)) | exact qc (is2 (iv_mul _ _ _ _ _ (by decide) (by decide)) (show _ = ((-2147483648) : Int) from by decide) (show _ = (2147483648 : Int) from by decide)) | exact qc (is2 (iv_mul _ _ _ _ _ (by decide) (by decide)) (show _ = (-1 : Int) from by decide) (show _ = (0 : Int) from by decide)) ) | (go_at_call 17; first | exact qc (is2 (iv_div _ _ _ _ _ (by decide) (by decide)) (show _ = (21845 : Int) from by decide) (show _ = (21846 : Int) from by decide)) | exact qc (is2 (iv_div _ _ _ _ _ (by decide) (by decide)) (show _ = ((-2147483648) : Int) from by decide) (show _ = (2147483648 : Int) from by decide)) ) | (go_at_call 16; first | exact qc (is2 (iv_square _ _ _ (by decide)) (show _ = (0 : Int) from by decide) (show _ = (16384 : Int) from by decide)) ) | (go_at_call 63; first | exact qc (is2 (iv_mulratio _ _ _ _ _ (by decide) (by decide) (by decide) (by decide) (by decide)) (show _ = (-43691 : Int) from by decide) (show _ = (-21845 : Int) from by decide)) ) | (go_at_call 64; first | exact qc (is2 (iv_sub _ _ _ _ _ (by decide) (by decide)) (show _ = (-1 : Int) from by decide) (show _ = (1 : Int) from by decide)) ) | (go_at_call 18; first | exact qc (is2 (iv_add _ _ _ _ _ (by decide) (by decide)) (show _ = ((-2147483648) : Int) from by decide) (show _ = (2147483648 : Int) from by decide)) ) | (go_at_call 65; first | exact qc (is2 (iv_hull _ _ _ _ _ (by decide) (by decide)) (show _ = (1 : Int) from by decide) (show _ = (6 : Int) from by decide)) ) | (go_at_call 66; first | exact qc (iv_subset _ _ _ _ true _ (by decide)) | exact qc (iv_subset _ _ _ _ false _ (by decide))) | (go_at_call 67; first | exact qc (iv_contains _ _ _ true _ (by decide)) | exact qc (iv_contains _ _ _ false _ (by decide))) | (go_at_call 56; first | exact qc (iv_valid _ _ true _ (by decide)) | exact qc (iv_valid _ _ false _ (by decide))) | (go_at_call 68; first | exact qc (is1 (iv_mid _ _ _ (by decide)) (show _ = (-2 : Int) from by decide)) ) | (go_at_call 55; first | exact qc (is1 (iv_width _ _ _ (by decide)) (show _ = (7 : Int) from by decide)) ) | (go_at_call 69; first | exact qc (is1 (iv_mag _ _ _ (by decide)) (show _ = (5 : Int) from by decide)) ) | (go_at_call 70; first | exact qc (is1 (iv_sign _ _ _) (show _ = (0 : Int) from by decide)) | exact qc (is1 (iv_sign _ _ _) (show _ = (-1 : Int) from by decide)) )))
        refine wpQuiet_nil ?_
        rintro _ ⟨g13, rfl⟩
        go_wp2_with (fail)
        have hB : Below w.heap.size w g13.w := below_then hT5 g13.h
        go_ret
        refine ⟨rfl, ?_⟩
        go_grown
end Go.Proofs.Ytpepgheocemjdaa
