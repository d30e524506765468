/-
 The reference's Valid of an interval.
-/
import Derived.Test.YtajddejeglhbhaaIw8
import Derived.Test.YtajddejeglhbhaaKit
import Derived.Test.YtajddejeglhbhaaIv
namespace Go.Proofs.Ytajddejeglhbhaa
open Go.ChangeShapes Go.WideShapes Go.ChangeAt Go.RowKit
set_option linter.unusedVariables false
set_option linter.unusedSimpArgs false
set_option maxRecDepth 100000

open Go.BigFrame
attribute [local go_sem ↓] run_max_two run_min_two run_max_three

set_option maxHeartbeats 1000000 in
theorem r2valid (a b : Int) (r : Bool) (w : World) (h : decide (VI a b) = r) :
  Calls Try.prog 23 #[.agg #[.int .i64 a, .int .i64 b]] w fun e w' => e = .returned (.bool r) ∧ Below w.heap.size w w' := by
 by_cases h0 : Ent a b
 ·have hr : r = true := by rw [← h]; unfold VI; simp [h0]
  subst hr
  obtain ⟨rfl, rfl⟩ := h0
  clear h
  go_enter Try.func23, Try.ntmps23
  go_wp2_with (fail)
  generalize hW0 : World.alloc w _ = W0
  have hT0 : Below w.heap.size w W0 := by subst hW0; exact ((Below.refl w.heap.size w).alloc (by go_size) _)
  have S0 : ∀ g : Grown W0, w.heap.size < g.w.heap.size := fun g => Nat.lt_of_lt_of_le (by subst hW0; simp <;> omega) g.h.size
  have Y0 : w.heap.size < W0.heap.size := by subst hW0; simp <;> omega
  have F00 : ∀ g : Grown W0, g.w.cell? ⟨w.heap.size, 0, none⟩ = some (.int .i64 (-2147483648)) := fun g => (g.cell Y0).trans (by subst hW0; simp [go_sem])
  have H00 : ∀ g : Grown W0, g.w.frozen? ⟨w.heap.size, 0, none⟩ = false := fun g => (g.frozen Y0).trans (by subst hW0; simp [go_sem])
  have F01 : ∀ g : Grown W0, g.w.cell? ⟨w.heap.size, 1, none⟩ = some (.int .i64 2147483648) := fun g => (g.cell Y0).trans (by subst hW0; simp [go_sem])
  have H01 : ∀ g : Grown W0, g.w.frozen? ⟨w.heap.size, 1, none⟩ = false := fun g => (g.frozen Y0).trans (by subst hW0; simp [go_sem])
  clear Y0
  clear hW0
  obtain ⟨g0, hg0⟩ : ∃ g : Grown W0, W0 = g.w := ⟨⟨W0, Below.refl _ _⟩, rfl⟩
  rw [hg0]
  clear hg0
  refine (r2ent_yes _).mono ?_
  rintro e1 w1 ⟨rfl, hB1⟩
  obtain ⟨g1, rfl⟩ := grow g0 hB1
  clear hB1
  go_wp2_with (fail)
  have hB : Below w.heap.size w g1.w := below_then hT0 g1.h
  go_ret
  refine ⟨rfl, ?_⟩
  go_grown
 have h0' := Lib.hid h0
 by_cases h1 : Num a
 ·by_cases h2 : Num b
  ·have hr : decide (a ≤ b) = r := by rw [← h]; unfold VI; simp [h0, h1, h2]
   have h1' := Lib.hid h1
   have h2' := Lib.hid h2
   clear h h0 h1 h2
   go_enter Try.func23, Try.ntmps23
   go_wp2_with (fail)
   generalize hW0 : World.alloc w _ = W0
   have hT0 : Below w.heap.size w W0 := by subst hW0; exact ((Below.refl w.heap.size w).alloc (by go_size) _)
   have S0 : ∀ g : Grown W0, w.heap.size < g.w.heap.size := fun g => Nat.lt_of_lt_of_le (by subst hW0; simp <;> omega) g.h.size
   have Y0 : w.heap.size < W0.heap.size := by subst hW0; simp <;> omega
   have F00 : ∀ g : Grown W0, g.w.cell? ⟨w.heap.size, 0, none⟩ = some (.int .i64 a) := fun g => (g.cell Y0).trans (by subst hW0; simp [go_sem])
   have H00 : ∀ g : Grown W0, g.w.frozen? ⟨w.heap.size, 0, none⟩ = false := fun g => (g.frozen Y0).trans (by subst hW0; simp [go_sem])
   have F01 : ∀ g : Grown W0, g.w.cell? ⟨w.heap.size, 1, none⟩ = some (.int .i64 b) := fun g => (g.cell Y0).trans (by subst hW0; simp [go_sem])
   have H01 : ∀ g : Grown W0, g.w.frozen? ⟨w.heap.size, 1, none⟩ = false := fun g => (g.frozen Y0).trans (by subst hW0; simp [go_sem])
   clear Y0
   clear hW0
   obtain ⟨g0, hg0⟩ : ∃ g : Grown W0, W0 = g.w := ⟨⟨W0, Below.refl _ _⟩, rfl⟩
   rw [hg0]
   clear hg0
   refine (r2ent_no a b _ h0'.out).mono ?_
   rintro e1 w1 ⟨rfl, hB1⟩
   obtain ⟨g1, rfl⟩ := grow g0 hB1
   clear hB1
   go_wp2_with (fail)
   refine (r2num_yes a _ h1'.out).mono ?_
   rintro e2 w2 ⟨rfl, rfl⟩
   go_wp2_with (fail)
   refine (r2num_yes b _ h2'.out).mono ?_
   rintro e3 w3 ⟨rfl, rfl⟩
   go_wp2_with (fail)
   have hB : Below w.heap.size w g1.w := below_then hT0 g1.h
   go_ret
   refine ⟨by first | rfl | (simp [hr]; done), ?_⟩
   go_grown
  ·have hr : r = false := by rw [← h]; unfold VI; simp [h0, h2]
   subst hr
   have h1' := Lib.hid h1
   have h2' := Lib.hid h2
   clear h h0 h1 h2
   go_enter Try.func23, Try.ntmps23
   go_wp2_with (fail)
   generalize hW0 : World.alloc w _ = W0
   have hT0 : Below w.heap.size w W0 := by subst hW0; exact ((Below.refl w.heap.size w).alloc (by go_size) _)
   have S0 : ∀ g : Grown W0, w.heap.size < g.w.heap.size := fun g => Nat.lt_of_lt_of_le (by subst hW0; simp <;> omega) g.h.size
   have Y0 : w.heap.size < W0.heap.size := by subst hW0; simp <;> omega
   have F00 : ∀ g : Grown W0, g.w.cell? ⟨w.heap.size, 0, none⟩ = some (.int .i64 a) := fun g => (g.cell Y0).trans (by subst hW0; simp [go_sem])
   have H00 : ∀ g : Grown W0, g.w.frozen? ⟨w.heap.size, 0, none⟩ = false := fun g => (g.frozen Y0).trans (by subst hW0; simp [go_sem])
   have F01 : ∀ g : Grown W0, g.w.cell? ⟨w.heap.size, 1, none⟩ = some (.int .i64 b) := fun g => (g.cell Y0).trans (by subst hW0; simp [go_sem])
   have H01 : ∀ g : Grown W0, g.w.frozen? ⟨w.heap.size, 1, none⟩ = false := fun g => (g.frozen Y0).trans (by subst hW0; simp [go_sem])
   clear Y0
   clear hW0
   obtain ⟨g0, hg0⟩ : ∃ g : Grown W0, W0 = g.w := ⟨⟨W0, Below.refl _ _⟩, rfl⟩
   rw [hg0]
   clear hg0
   refine (r2ent_no a b _ h0'.out).mono ?_
   rintro e1 w1 ⟨rfl, hB1⟩
   obtain ⟨g1, rfl⟩ := grow g0 hB1
   clear hB1
   go_wp2_with (fail)
   refine (r2num_yes a _ h1'.out).mono ?_
   rintro e2 w2 ⟨rfl, rfl⟩
   go_wp2_with (fail)
   refine (r2num_no b _ h2'.out).mono ?_
   rintro e3 w3 ⟨rfl, rfl⟩
   go_wp2_with (fail)
   have hB : Below w.heap.size w g1.w := below_then hT0 g1.h
   go_ret
   refine ⟨rfl, ?_⟩
   go_grown
 ·have hr : r = false := by rw [← h]; unfold VI; simp [h0, h1]
  subst hr
  have h1' := Lib.hid h1
  clear h h0 h1
  go_enter Try.func23, Try.ntmps23
  go_wp2_with (fail)
  generalize hW0 : World.alloc w _ = W0
  have hT0 : Below w.heap.size w W0 := by subst hW0; exact ((Below.refl w.heap.size w).alloc (by go_size) _)
  have S0 : ∀ g : Grown W0, w.heap.size < g.w.heap.size := fun g => Nat.lt_of_lt_of_le (by subst hW0; simp <;> omega) g.h.size
  have Y0 : w.heap.size < W0.heap.size := by subst hW0; simp <;> omega
  have F00 : ∀ g : Grown W0, g.w.cell? ⟨w.heap.size, 0, none⟩ = some (.int .i64 a) := fun g => (g.cell Y0).trans (by subst hW0; simp [go_sem])
  have H00 : ∀ g : Grown W0, g.w.frozen? ⟨w.heap.size, 0, none⟩ = false := fun g => (g.frozen Y0).trans (by subst hW0; simp [go_sem])
  have F01 : ∀ g : Grown W0, g.w.cell? ⟨w.heap.size, 1, none⟩ = some (.int .i64 b) := fun g => (g.cell Y0).trans (by subst hW0; simp [go_sem])
  have H01 : ∀ g : Grown W0, g.w.frozen? ⟨w.heap.size, 1, none⟩ = false := fun g => (g.frozen Y0).trans (by subst hW0; simp [go_sem])
  clear Y0
  clear hW0
  obtain ⟨g0, hg0⟩ : ∃ g : Grown W0, W0 = g.w := ⟨⟨W0, Below.refl _ _⟩, rfl⟩
  rw [hg0]
  clear hg0
  refine (r2ent_no a b _ h0'.out).mono ?_
  rintro e1 w1 ⟨rfl, hB1⟩
  obtain ⟨g1, rfl⟩ := grow g0 hB1
  clear hB1
  go_wp2_with (fail)
  refine (r2num_no a _ h1'.out).mono ?_
  rintro e2 w2 ⟨rfl, rfl⟩
  go_wp2_with (fail)
  have hB : Below w.heap.size w g1.w := below_then hT0 g1.h
  go_ret
  refine ⟨rfl, ?_⟩
  go_grown

end Go.Proofs.Ytajddejeglhbhaa
