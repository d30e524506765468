/-
  Contracts of the reference: Valid, Small, Made.
-/
import Derived.Test.YtajddejeglhbhaaIw8
import Derived.Test.YtajddejeglhbhaaKit
import Derived.Test.YtajddejeglhbhaaIv
namespace Go.Proofs.Ytajddejeglhbhaa
open Go.ChangeShapes Go.WideShapes Go.ChangeAt Go.RowKit
set_option linter.unusedVariables false
set_option linter.unusedSimpArgs false
set_option maxRecDepth 100000

open Go.BigFrame
attribute [local go_sem ↓] run_max_two run_min_two run_max_three

set_option maxHeartbeats 1000000 in
theorem r2valid (a b : Int) (r : Bool) (w : World) (h : decide (VI a b) = r) :
    Calls Try.prog 23 #[.agg #[.int .i64 a, .int .i64 b]] w fun e w' => e = .returned (.bool r) ∧ Below w.heap.size w w' := by
  by_cases h0 : Ent a b
  · have hr : r = true := by rw [← h]; unfold VI; simp [h0]
    subst hr
    obtain ⟨rfl, rfl⟩ := h0
    clear h
    go_enter Try.func23, Try.ntmps23
    go_wp2_with (fail)
    generalize hW0 : World.alloc w _ = W0
    have hT0 : Below w.heap.size w W0 := by subst hW0; exact ((Below.refl w.heap.size w).alloc (by go_size) _)
    have S0 : ∀ g : Grown W0, w.heap.size < g.w.heap.size := fun g => Nat.lt_of_lt_of_le (by subst hW0; simp <;> omega) g.h.size
    have Y0 : w.heap.size < W0.heap.size := by subst hW0; simp <;> omega
    have F00 : ∀ g : Grown W0, g.w.cell? ⟨w.heap.size, 0, none⟩ = some (.int .i64 (-2147483648)) := fun g => (g.cell Y0).trans (by subst hW0; simp [go_sem])
    have H00 : ∀ g : Grown W0, g.w.frozen? ⟨w.heap.size, 0, none⟩ = false := fun g => (g.frozen Y0).trans (by subst hW0; simp [go_sem])
    have F01 : ∀ g : Grown W0, g.w.cell? ⟨w.heap.size, 1, none⟩ = some (.int .i64 2147483648) := fun g => (g.cell Y0).trans (by subst hW0; simp [go_sem])
    have H01 : ∀ g : Grown W0, g.w.frozen? ⟨w.heap.size, 1, none⟩ = false := fun g => (g.frozen Y0).trans (by subst hW0; simp [go_sem])
    clear Y0
    clear hW0
    obtain ⟨g0, hg0⟩ : ∃ g : Grown W0, W0 = g.w := ⟨⟨W0, Below.refl _ _⟩, rfl⟩
    rw [hg0]
    clear hg0
    refine (r2ent_yes _).mono ?_
    rintro e1 w1 ⟨rfl, hB1⟩
    obtain ⟨g1, rfl⟩ := grow g0 hB1
    clear hB1
    go_wp2_with (fail)
    have hB : Below w.heap.size w g1.w := below_then hT0 g1.h
    go_ret
    refine ⟨rfl, ?_⟩
    go_grown
  have h0' := Lib.hid h0
  by_cases h1 : Num a
  · by_cases h2 : Num b
    · have hr : decide (a ≤ b) = r := by rw [← h]; unfold VI; simp [h0, h1, h2]
      have h1' := Lib.hid h1
      have h2' := Lib.hid h2
      clear h h0 h1 h2
      go_enter Try.func23, Try.ntmps23
      go_wp2_with (fail)
      generalize hW0 : World.alloc w _ = W0
      have hT0 : Below w.heap.size w W0 := by subst hW0; exact ((Below.refl w.heap.size w).alloc (by go_size) _)
      have S0 : ∀ g : Grown W0, w.heap.size < g.w.heap.size := fun g => Nat.lt_of_lt_of_le (by subst hW0; simp <;> omega) g.h.size
      have Y0 : w.heap.size < W0.heap.size := by subst hW0; simp <;> omega
      have F00 : ∀ g : Grown W0, g.w.cell? ⟨w.heap.size, 0, none⟩ = some (.int .i64 a) := fun g => (g.cell Y0).trans (by subst hW0; simp [go_sem])
      have H00 : ∀ g : Grown W0, g.w.frozen? ⟨w.heap.size, 0, none⟩ = false := fun g => (g.frozen Y0).trans (by subst hW0; simp [go_sem])
      have F01 : ∀ g : Grown W0, g.w.cell? ⟨w.heap.size, 1, none⟩ = some (.int .i64 b) := fun g => (g.cell Y0).trans (by subst hW0; simp [go_sem])
      have H01 : ∀ g : Grown W0, g.w.frozen? ⟨w.heap.size, 1, none⟩ = false := fun g => (g.frozen Y0).trans (by subst hW0; simp [go_sem])
      clear Y0
      clear hW0
      obtain ⟨g0, hg0⟩ : ∃ g : Grown W0, W0 = g.w := ⟨⟨W0, Below.refl _ _⟩, rfl⟩
      rw [hg0]
      clear hg0
      refine (r2ent_no a b _ h0'.out).mono ?_
      rintro e1 w1 ⟨rfl, hB1⟩
      obtain ⟨g1, rfl⟩ := grow g0 hB1
      clear hB1
      go_wp2_with (fail)
      refine (r2num_yes a _ h1'.out).mono ?_
      rintro e2 w2 ⟨rfl, rfl⟩
      go_wp2_with (fail)
      refine (r2num_yes b _ h2'.out).mono ?_
      rintro e3 w3 ⟨rfl, rfl⟩
      go_wp2_with (fail)
      have hB : Below w.heap.size w g1.w := below_then hT0 g1.h
      go_ret
      refine ⟨by first | rfl | (simp [hr]; done), ?_⟩
      go_grown
    · have hr : r = false := by rw [← h]; unfold VI; simp [h0, h2]
      subst hr
      have h1' := Lib.hid h1
      have h2' := Lib.hid h2
      clear h h0 h1 h2
      go_enter Try.func23, Try.ntmps23
      go_wp2_with (fail)
      generalize hW0 : World.alloc w _ = W0
      have hT0 : Below w.heap.size w W0 := by subst hW0; exact ((Below.refl w.heap.size w).alloc (by go_size) _)
      have S0 : ∀ g : Grown W0, w.heap.size < g.w.heap.size := fun g => Nat.lt_of_lt_of_le (by subst hW0; simp <;> omega) g.h.size
      have Y0 : w.heap.size < W0.heap.size := by subst hW0; simp <;> omega
      have F00 : ∀ g : Grown W0, g.w.cell? ⟨w.heap.size, 0, none⟩ = some (.int .i64 a) := fun g => (g.cell Y0).trans (by subst hW0; simp [go_sem])
      have H00 : ∀ g : Grown W0, g.w.frozen? ⟨w.heap.size, 0, none⟩ = false := fun g => (g.frozen Y0).trans (by subst hW0; simp [go_sem])
      have F01 : ∀ g : Grown W0, g.w.cell? ⟨w.heap.size, 1, none⟩ = some (.int .i64 b) := fun g => (g.cell Y0).trans (by subst hW0; simp [go_sem])
      have H01 : ∀ g : Grown W0, g.w.frozen? ⟨w.heap.size, 1, none⟩ = false := fun g => (g.frozen Y0).trans (by subst hW0; simp [go_sem])
      clear Y0
      clear hW0
      obtain ⟨g0, hg0⟩ : ∃ g : Grown W0, W0 = g.w := ⟨⟨W0, Below.refl _ _⟩, rfl⟩
      rw [hg0]
      clear hg0
      refine (r2ent_no a b _ h0'.out).mono ?_
      rintro e1 w1 ⟨rfl, hB1⟩
      obtain ⟨g1, rfl⟩ := grow g0 hB1
      clear hB1
      go_wp2_with (fail)
      refine (r2num_yes a _ h1'.out).mono ?_
      rintro e2 w2 ⟨rfl, rfl⟩
      go_wp2_with (fail)
      refine (r2num_no b _ h2'.out).mono ?_
      rintro e3 w3 ⟨rfl, rfl⟩
      go_wp2_with (fail)
      have hB : Below w.heap.size w g1.w := below_then hT0 g1.h
      go_ret
      refine ⟨rfl, ?_⟩
      go_grown
  · have hr : r = false := by rw [← h]; unfold VI; simp [h0, h1]
    subst hr
    have h1' := Lib.hid h1
    clear h h0 h1
    go_enter Try.func23, Try.ntmps23
    go_wp2_with (fail)
    generalize hW0 : World.alloc w _ = W0
    have hT0 : Below w.heap.size w W0 := by subst hW0; exact ((Below.refl w.heap.size w).alloc (by go_size) _)
    have S0 : ∀ g : Grown W0, w.heap.size < g.w.heap.size := fun g => Nat.lt_of_lt_of_le (by subst hW0; simp <;> omega) g.h.size
    have Y0 : w.heap.size < W0.heap.size := by subst hW0; simp <;> omega
    have F00 : ∀ g : Grown W0, g.w.cell? ⟨w.heap.size, 0, none⟩ = some (.int .i64 a) := fun g => (g.cell Y0).trans (by subst hW0; simp [go_sem])
    have H00 : ∀ g : Grown W0, g.w.frozen? ⟨w.heap.size, 0, none⟩ = false := fun g => (g.frozen Y0).trans (by subst hW0; simp [go_sem])
    have F01 : ∀ g : Grown W0, g.w.cell? ⟨w.heap.size, 1, none⟩ = some (.int .i64 b) := fun g => (g.cell Y0).trans (by subst hW0; simp [go_sem])
    have H01 : ∀ g : Grown W0, g.w.frozen? ⟨w.heap.size, 1, none⟩ = false := fun g => (g.frozen Y0).trans (by subst hW0; simp [go_sem])
    clear Y0
    clear hW0
    obtain ⟨g0, hg0⟩ : ∃ g : Grown W0, W0 = g.w := ⟨⟨W0, Below.refl _ _⟩, rfl⟩
    rw [hg0]
    clear hg0
    refine (r2ent_no a b _ h0'.out).mono ?_
    rintro e1 w1 ⟨rfl, hB1⟩
    obtain ⟨g1, rfl⟩ := grow g0 hB1
    clear hB1
    go_wp2_with (fail)
    refine (r2num_no a _ h1'.out).mono ?_
    rintro e2 w2 ⟨rfl, rfl⟩
    go_wp2_with (fail)
    have hB : Below w.heap.size w g1.w := below_then hT0 g1.h
    go_ret
    refine ⟨rfl, ?_⟩
    go_grown

set_option maxHeartbeats 1000000 in
theorem r2small (a b : Int) (w : World) (ha1 : -9223372036854775808 ≤ a) (ha2 : a ≤ 9223372036854775807) (hb1 : -9223372036854775808 ≤ b) (hb2 : b ≤ 9223372036854775807) :
    Calls Try.prog 20 #[.agg #[.int .i64 a, .int .i64 b]] w fun e w' => e = .returned (.agg #[.int .i64 (min (a.tmod 16777216) (b.tmod 16777216)), .int .i64 (max (a.tmod 16777216) (b.tmod 16777216))]) ∧ Below w.heap.size w w' := by
  obtain ⟨x, hx⟩ : ∃ x, a.tmod 16777216 = x := ⟨_, rfl⟩
  obtain ⟨y, hy⟩ : ∃ y, b.tmod 16777216 = y := ⟨_, rfl⟩
  have hx' := Lib.hid hx
  have hy' := Lib.hid hy
  rw [hx, hy]
  clear hx hy
  go_enter Try.func20, Try.ntmps20
  go_wp2_with (fail)
  generalize hW0 : World.alloc (World.alloc w _) _ = W0
  have hT0 : Below w.heap.size w W0 := by subst hW0; exact (((Below.refl w.heap.size w).alloc (by go_size) _).alloc (by go_size) _)
  have S0 : ∀ g : Grown W0, w.heap.size < g.w.heap.size := fun g => Nat.lt_of_lt_of_le (by subst hW0; simp <;> omega) g.h.size
  have Y0 : w.heap.size < W0.heap.size := by subst hW0; simp <;> omega
  have F00 : ∀ g : Grown W0, g.w.cell? ⟨w.heap.size, 0, none⟩ = some (.int .i64 a) := fun g => (g.cell Y0).trans (by subst hW0; simp [go_sem])
  have H00 : ∀ g : Grown W0, g.w.frozen? ⟨w.heap.size, 0, none⟩ = false := fun g => (g.frozen Y0).trans (by subst hW0; simp [go_sem])
  have F01 : ∀ g : Grown W0, g.w.cell? ⟨w.heap.size, 1, none⟩ = some (.int .i64 b) := fun g => (g.cell Y0).trans (by subst hW0; simp [go_sem])
  have H01 : ∀ g : Grown W0, g.w.frozen? ⟨w.heap.size, 1, none⟩ = false := fun g => (g.frozen Y0).trans (by subst hW0; simp [go_sem])
  clear Y0
  have S1 : ∀ g : Grown W0, w.heap.size + 1 < g.w.heap.size := fun g => Nat.lt_of_lt_of_le (by subst hW0; simp <;> omega) g.h.size
  have Y1 : w.heap.size + 1 < W0.heap.size := by subst hW0; simp <;> omega
  have F10 : ∀ g : Grown W0, g.w.cell? ⟨w.heap.size + 1, 0, none⟩ = some (.int .i64 0) := fun g => (g.cell Y1).trans (by subst hW0; simp [go_sem])
  have H10 : ∀ g : Grown W0, g.w.frozen? ⟨w.heap.size + 1, 0, none⟩ = false := fun g => (g.frozen Y1).trans (by subst hW0; simp [go_sem])
  have F11 : ∀ g : Grown W0, g.w.cell? ⟨w.heap.size + 1, 1, none⟩ = some (.int .i64 0) := fun g => (g.cell Y1).trans (by subst hW0; simp [go_sem])
  have H11 : ∀ g : Grown W0, g.w.frozen? ⟨w.heap.size + 1, 1, none⟩ = false := fun g => (g.frozen Y1).trans (by subst hW0; simp [go_sem])
  clear Y1
  clear hW0
  obtain ⟨g0, hg0⟩ : ∃ g : Grown W0, W0 = g.w := ⟨⟨W0, Below.refl _ _⟩, rfl⟩
  rw [hg0]
  clear hg0
  refine region_quiet' g0 (by kernel_rfl) (by kernel_rfl) ?_
  repeat (go_big_quiet_step (fail))
  refine wpQuiet_nil ?_
  rintro _ ⟨g1, rfl⟩
  rw [hx'.out, hy'.out]
  go_wp2_with (fail)
  have hB : Below w.heap.size w g1.w := below_then hT0 g1.h
  refine bodyPost_ret (v := .agg #[.int .i64 (min x y), .int .i64 (max x y)]) (by simp [results, Try.results20, go_sem, F10, F11]) rfl ⟨rfl, ?_⟩
  go_grown

theorem small_vi (a b : Int) : VI (min (a.tmod 16777216) (b.tmod 16777216)) (max (a.tmod 16777216) (b.tmod 16777216)) := by
  have h1 := Int.lt_tmod_of_pos a (show (0 : Int) < 16777216 by decide)
  have h2 := Int.tmod_lt_of_pos a (show (0 : Int) < 16777216 by decide)
  have h3 := Int.lt_tmod_of_pos b (show (0 : Int) < 16777216 by decide)
  have h4 := Int.tmod_lt_of_pos b (show (0 : Int) < 16777216 by decide)
  unfold VI Num
  right
  omega

set_option maxHeartbeats 1000000 in
theorem r2made_yes (a b : Int) (w : World) (hv : VI a b) :
    Calls Try.prog 13 #[.agg #[.int .i64 a, .int .i64 b]] w fun e w' => e = .returned (.agg #[.int .i64 a, .int .i64 b]) ∧ Below w.heap.size w w' := by
  have hv' := Lib.hid hv
  clear hv
  go_enter Try.func13, Try.ntmps13
  go_wp2_with (fail)
  generalize hW0 : World.alloc (World.alloc w _) _ = W0
  have hT0 : Below w.heap.size w W0 := by subst hW0; exact (((Below.refl w.heap.size w).alloc (by go_size) _).alloc (by go_size) _)
  have S0 : ∀ g : Grown W0, w.heap.size < g.w.heap.size := fun g => Nat.lt_of_lt_of_le (by subst hW0; simp <;> omega) g.h.size
  have Y0 : w.heap.size < W0.heap.size := by subst hW0; simp <;> omega
  have F00 : ∀ g : Grown W0, g.w.cell? ⟨w.heap.size, 0, none⟩ = some (.int .i64 a) := fun g => (g.cell Y0).trans (by subst hW0; simp [go_sem])
  have H00 : ∀ g : Grown W0, g.w.frozen? ⟨w.heap.size, 0, none⟩ = false := fun g => (g.frozen Y0).trans (by subst hW0; simp [go_sem])
  have F01 : ∀ g : Grown W0, g.w.cell? ⟨w.heap.size, 1, none⟩ = some (.int .i64 b) := fun g => (g.cell Y0).trans (by subst hW0; simp [go_sem])
  have H01 : ∀ g : Grown W0, g.w.frozen? ⟨w.heap.size, 1, none⟩ = false := fun g => (g.frozen Y0).trans (by subst hW0; simp [go_sem])
  clear Y0
  have S1 : ∀ g : Grown W0, w.heap.size + 1 < g.w.heap.size := fun g => Nat.lt_of_lt_of_le (by subst hW0; simp <;> omega) g.h.size
  have Y1 : w.heap.size + 1 < W0.heap.size := by subst hW0; simp <;> omega
  have F10 : ∀ g : Grown W0, g.w.cell? ⟨w.heap.size + 1, 0, none⟩ = some (.int .i64 0) := fun g => (g.cell Y1).trans (by subst hW0; simp [go_sem])
  have H10 : ∀ g : Grown W0, g.w.frozen? ⟨w.heap.size + 1, 0, none⟩ = false := fun g => (g.frozen Y1).trans (by subst hW0; simp [go_sem])
  have F11 : ∀ g : Grown W0, g.w.cell? ⟨w.heap.size + 1, 1, none⟩ = some (.int .i64 0) := fun g => (g.cell Y1).trans (by subst hW0; simp [go_sem])
  have H11 : ∀ g : Grown W0, g.w.frozen? ⟨w.heap.size + 1, 1, none⟩ = false := fun g => (g.frozen Y1).trans (by subst hW0; simp [go_sem])
  clear Y1
  clear hW0
  obtain ⟨g0, hg0⟩ : ∃ g : Grown W0, W0 = g.w := ⟨⟨W0, Below.refl _ _⟩, rfl⟩
  rw [hg0]
  clear hg0
  refine (r2valid a b true _ (by simp [hv'.out])).mono ?_
  rintro e1 w1 ⟨rfl, hB1⟩
  obtain ⟨g1, rfl⟩ := grow g0 hB1
  clear hB1
  go_wp2_with (fail)
  have hB : Below w.heap.size w g1.w := below_then hT0 g1.h
  refine bodyPost_ret (v := .agg #[.int .i64 a, .int .i64 b]) (by simp [results, Try.results13, go_sem, F10, F11]) rfl ⟨rfl, ?_⟩
  go_grown

set_option maxHeartbeats 1000000 in
theorem r2made_ent (a b : Int) (w : World) (hv : ¬ VI a b) (h : (bits BinOp.and IntKind.i64 a 31 == 7) = true) :
    Calls Try.prog 13 #[.agg #[.int .i64 a, .int .i64 b]] w fun e w' => e = .returned (.agg #[.int .i64 (-2147483648), .int .i64 2147483648]) ∧ Below w.heap.size w w' := by
  have hv' := Lib.hid hv
  clear hv
  go_enter Try.func13, Try.ntmps13
  go_wp2_with (fail)
  generalize hW0 : World.alloc (World.alloc w _) _ = W0
  have hT0 : Below w.heap.size w W0 := by subst hW0; exact (((Below.refl w.heap.size w).alloc (by go_size) _).alloc (by go_size) _)
  have S0 : ∀ g : Grown W0, w.heap.size < g.w.heap.size := fun g => Nat.lt_of_lt_of_le (by subst hW0; simp <;> omega) g.h.size
  have Y0 : w.heap.size < W0.heap.size := by subst hW0; simp <;> omega
  have F00 : ∀ g : Grown W0, g.w.cell? ⟨w.heap.size, 0, none⟩ = some (.int .i64 a) := fun g => (g.cell Y0).trans (by subst hW0; simp [go_sem])
  have H00 : ∀ g : Grown W0, g.w.frozen? ⟨w.heap.size, 0, none⟩ = false := fun g => (g.frozen Y0).trans (by subst hW0; simp [go_sem])
  have F01 : ∀ g : Grown W0, g.w.cell? ⟨w.heap.size, 1, none⟩ = some (.int .i64 b) := fun g => (g.cell Y0).trans (by subst hW0; simp [go_sem])
  have H01 : ∀ g : Grown W0, g.w.frozen? ⟨w.heap.size, 1, none⟩ = false := fun g => (g.frozen Y0).trans (by subst hW0; simp [go_sem])
  clear Y0
  have S1 : ∀ g : Grown W0, w.heap.size + 1 < g.w.heap.size := fun g => Nat.lt_of_lt_of_le (by subst hW0; simp <;> omega) g.h.size
  have Y1 : w.heap.size + 1 < W0.heap.size := by subst hW0; simp <;> omega
  have F10 : ∀ g : Grown W0, g.w.cell? ⟨w.heap.size + 1, 0, none⟩ = some (.int .i64 0) := fun g => (g.cell Y1).trans (by subst hW0; simp [go_sem])
  have H10 : ∀ g : Grown W0, g.w.frozen? ⟨w.heap.size + 1, 0, none⟩ = false := fun g => (g.frozen Y1).trans (by subst hW0; simp [go_sem])
  have F11 : ∀ g : Grown W0, g.w.cell? ⟨w.heap.size + 1, 1, none⟩ = some (.int .i64 0) := fun g => (g.cell Y1).trans (by subst hW0; simp [go_sem])
  have H11 : ∀ g : Grown W0, g.w.frozen? ⟨w.heap.size + 1, 1, none⟩ = false := fun g => (g.frozen Y1).trans (by subst hW0; simp [go_sem])
  clear Y1
  clear hW0
  obtain ⟨g0, hg0⟩ : ∃ g : Grown W0, W0 = g.w := ⟨⟨W0, Below.refl _ _⟩, rfl⟩
  rw [hg0]
  clear hg0
  refine (r2valid a b false _ (by simp [hv'.out])).mono ?_
  rintro e1 w1 ⟨rfl, hB1⟩
  obtain ⟨g1, rfl⟩ := grow g0 hB1
  clear hB1
  go_wp2_with (fail)
  refine (r2entire _).mono ?_
  rintro e2 w2 ⟨rfl, hB2⟩
  obtain ⟨g2, rfl⟩ := grow g1 hB2
  clear hB2
  go_wp2_with (fail)
  have hB : Below w.heap.size w g2.w := below_then hT0 g2.h
  refine bodyPost_ret (v := .agg #[.int .i64 (-2147483648), .int .i64 2147483648]) (by simp [results, Try.results13, go_sem, F10, F11]) rfl ⟨rfl, ?_⟩
  go_grown

set_option maxHeartbeats 1000000 in
theorem r2made_no (a b : Int) (w : World) (hv : ¬ VI a b) (ha1 : -9223372036854775808 ≤ a) (ha2 : a ≤ 9223372036854775807) (hb1 : -9223372036854775808 ≤ b) (hb2 : b ≤ 9223372036854775807) (h : (bits BinOp.and IntKind.i64 a 31 == 7) = false) :
    Calls Try.prog 13 #[.agg #[.int .i64 a, .int .i64 b]] w fun e w' => e = .returned (.agg #[.int .i64 (min (a.tmod 16777216) (b.tmod 16777216)), .int .i64 (max (a.tmod 16777216) (b.tmod 16777216))]) ∧ Below w.heap.size w w' := by
  have hv' := Lib.hid hv
  clear hv
  have c1 := fun w => r2small a b w ha1 ha2 hb1 hb2
  generalize min (a.tmod 16777216) (b.tmod 16777216) = x at *
  generalize max (a.tmod 16777216) (b.tmod 16777216) = y at *
  go_enter Try.func13, Try.ntmps13
  go_wp2_with (fail)
  generalize hW0 : World.alloc (World.alloc w _) _ = W0
  have hT0 : Below w.heap.size w W0 := by subst hW0; exact (((Below.refl w.heap.size w).alloc (by go_size) _).alloc (by go_size) _)
  have S0 : ∀ g : Grown W0, w.heap.size < g.w.heap.size := fun g => Nat.lt_of_lt_of_le (by subst hW0; simp <;> omega) g.h.size
  have Y0 : w.heap.size < W0.heap.size := by subst hW0; simp <;> omega
  have F00 : ∀ g : Grown W0, g.w.cell? ⟨w.heap.size, 0, none⟩ = some (.int .i64 a) := fun g => (g.cell Y0).trans (by subst hW0; simp [go_sem])
  have H00 : ∀ g : Grown W0, g.w.frozen? ⟨w.heap.size, 0, none⟩ = false := fun g => (g.frozen Y0).trans (by subst hW0; simp [go_sem])
  have F01 : ∀ g : Grown W0, g.w.cell? ⟨w.heap.size, 1, none⟩ = some (.int .i64 b) := fun g => (g.cell Y0).trans (by subst hW0; simp [go_sem])
  have H01 : ∀ g : Grown W0, g.w.frozen? ⟨w.heap.size, 1, none⟩ = false := fun g => (g.frozen Y0).trans (by subst hW0; simp [go_sem])
  clear Y0
  have S1 : ∀ g : Grown W0, w.heap.size + 1 < g.w.heap.size := fun g => Nat.lt_of_lt_of_le (by subst hW0; simp <;> omega) g.h.size
  have Y1 : w.heap.size + 1 < W0.heap.size := by subst hW0; simp <;> omega
  have F10 : ∀ g : Grown W0, g.w.cell? ⟨w.heap.size + 1, 0, none⟩ = some (.int .i64 0) := fun g => (g.cell Y1).trans (by subst hW0; simp [go_sem])
  have H10 : ∀ g : Grown W0, g.w.frozen? ⟨w.heap.size + 1, 0, none⟩ = false := fun g => (g.frozen Y1).trans (by subst hW0; simp [go_sem])
  have F11 : ∀ g : Grown W0, g.w.cell? ⟨w.heap.size + 1, 1, none⟩ = some (.int .i64 0) := fun g => (g.cell Y1).trans (by subst hW0; simp [go_sem])
  have H11 : ∀ g : Grown W0, g.w.frozen? ⟨w.heap.size + 1, 1, none⟩ = false := fun g => (g.frozen Y1).trans (by subst hW0; simp [go_sem])
  clear Y1
  clear hW0
  obtain ⟨g0, hg0⟩ : ∃ g : Grown W0, W0 = g.w := ⟨⟨W0, Below.refl _ _⟩, rfl⟩
  rw [hg0]
  clear hg0
  refine (r2valid a b false _ (by simp [hv'.out])).mono ?_
  rintro e1 w1 ⟨rfl, hB1⟩
  obtain ⟨g1, rfl⟩ := grow g0 hB1
  clear hB1
  go_wp2_with (fail)
  refine (c1 _).mono ?_
  rintro e2 w2 ⟨rfl, hB2⟩
  obtain ⟨g2, rfl⟩ := grow g1 hB2
  clear hB2
  go_wp2_with (fail)
  have hB : Below w.heap.size w g2.w := below_then hT0 g2.h
  refine bodyPost_ret (v := .agg #[.int .i64 x, .int .i64 y]) (by simp [results, Try.results13, go_sem, F10, F11]) rfl ⟨rfl, ?_⟩
  go_grown

/-- Made: some valid interval. -/
theorem r2made (a b : Int) (ha1 : -9223372036854775808 ≤ a) (ha2 : a ≤ 9223372036854775807) (hb1 : -9223372036854775808 ≤ b) (hb2 : b ≤ 9223372036854775807) :
    ∃ p q, VI p q ∧ ∀ w, Calls Try.prog 13 #[.agg #[.int .i64 a, .int .i64 b]] w fun e w' => e = .returned (.agg #[.int .i64 p, .int .i64 q]) ∧ Below w.heap.size w w' := by
  by_cases hv : VI a b
  · exact ⟨a, b, hv, fun w => r2made_yes a b w hv⟩
  · cases h : (bits BinOp.and IntKind.i64 a 31 == 7) with
    | true => exact ⟨_, _, .inl ⟨rfl, rfl⟩, fun w => r2made_ent a b w hv h⟩
    | false => exact ⟨_, _, small_vi a b, fun w => r2made_no a b w hv ha1 ha2 hb1 hb2 h⟩

end Go.Proofs.Ytajddejeglhbhaa
