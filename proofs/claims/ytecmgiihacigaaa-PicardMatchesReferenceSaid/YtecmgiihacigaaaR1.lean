/-
  Contracts of the reference: Valid, Small, Made.
-/
import Derived.Test.YtecmgiihacigaaaIw8
import Derived.Test.YtecmgiihacigaaaKit
import Derived.Test.YtecmgiihacigaaaIv
namespace Go.Proofs.Ytecmgiihacigaaa
open Go.ChangeShapes Go.WideShapes Go.ChangeAt Go.RowKit
set_option linter.unusedVariables false
set_option linter.unusedSimpArgs false
set_option maxRecDepth 100000

open Go.BigFrame
attribute [local go_sem ↓] run_max_two run_min_two run_max_three

set_option maxHeartbeats 1000000 in
theorem r2small (a b : Int) (w : World) (ha1 : -9223372036854775808 ≤ a) (ha2 : a ≤ 9223372036854775807) (hb1 : -9223372036854775808 ≤ b) (hb2 : b ≤ 9223372036854775807) :
    Calls Try.prog 28 #[.agg #[.int .i64 a, .int .i64 b]] w fun e w' => e = .returned (.agg #[.int .i64 (min (a.tmod 16777216) (b.tmod 16777216)), .int .i64 (max (a.tmod 16777216) (b.tmod 16777216))]) ∧ Below w.heap.size w w' := by
  obtain ⟨x, hx⟩ : ∃ x, a.tmod 16777216 = x := ⟨_, rfl⟩
  obtain ⟨y, hy⟩ : ∃ y, b.tmod 16777216 = y := ⟨_, rfl⟩
  have hx' := Lib.hid hx
  have hy' := Lib.hid hy
  rw [hx, hy]
  clear hx hy
  go_enter Try.func28, Try.ntmps28
  go_wp2_with (fail)
  generalize hW0 : World.alloc (World.alloc w _) _ = W0
  have hT0 : Below w.heap.size w W0 := by subst hW0; exact (((Below.refl w.heap.size w).alloc (by go_size) _).alloc (by go_size) _)
  have S0 : ∀ g : Grown W0, w.heap.size < g.w.heap.size := fun g => Nat.lt_of_lt_of_le (by subst hW0; simp <;> omega) g.h.size
  have Y0 : w.heap.size < W0.heap.size := by subst hW0; simp <;> omega
  have F00 : ∀ g : Grown W0, g.w.cell? ⟨w.heap.size, 0, none⟩ = some (.int .i64 a) := fun g => (g.cell Y0).trans (by subst hW0; simp [go_sem])
  have H00 : ∀ g : Grown W0, g.w.frozen? ⟨w.heap.size, 0, none⟩ = false := fun g => (g.frozen Y0).trans (by subst hW0; simp [go_sem])
  have F01 : ∀ g : Grown W0, g.w.cell? ⟨w.heap.size, 1, none⟩ = some (.int .i64 b) := fun g => (g.cell Y0).trans (by subst hW0; simp [go_sem])
  have H01 : ∀ g : Grown W0, g.w.frozen? ⟨w.heap.size, 1, none⟩ = false := fun g => (g.frozen Y0).trans (by subst hW0; simp [go_sem])
  clear Y0
  have S1 : ∀ g : Grown W0, w.heap.size + 1 < g.w.heap.size := fun g => Nat.lt_of_lt_of_le (by subst hW0; simp <;> omega) g.h.size
  have Y1 : w.heap.size + 1 < W0.heap.size := by subst hW0; simp <;> omega
  have F10 : ∀ g : Grown W0, g.w.cell? ⟨w.heap.size + 1, 0, none⟩ = some (.int .i64 0) := fun g => (g.cell Y1).trans (by subst hW0; simp [go_sem])
  have H10 : ∀ g : Grown W0, g.w.frozen? ⟨w.heap.size + 1, 0, none⟩ = false := fun g => (g.frozen Y1).trans (by subst hW0; simp [go_sem])
  have F11 : ∀ g : Grown W0, g.w.cell? ⟨w.heap.size + 1, 1, none⟩ = some (.int .i64 0) := fun g => (g.cell Y1).trans (by subst hW0; simp [go_sem])
  have H11 : ∀ g : Grown W0, g.w.frozen? ⟨w.heap.size + 1, 1, none⟩ = false := fun g => (g.frozen Y1).trans (by subst hW0; simp [go_sem])
  clear Y1
  clear hW0
  obtain ⟨g0, hg0⟩ : ∃ g : Grown W0, W0 = g.w := ⟨⟨W0, Below.refl _ _⟩, rfl⟩
  rw [hg0]
  clear hg0
  refine region_quiet' g0 (by kernel_rfl) (by kernel_rfl) ?_
  repeat (go_big_quiet_step (fail))
  refine wpQuiet_nil ?_
  rintro _ ⟨g1, rfl⟩
  rw [hx'.out, hy'.out]
  go_wp2_with (fail)
  have hB : Below w.heap.size w g1.w := below_then hT0 g1.h
  refine bodyPost_ret (v := .agg #[.int .i64 (min x y), .int .i64 (max x y)]) (by simp [results, Try.results28, go_sem, F10, F11]) rfl ⟨rfl, ?_⟩
  go_grown

theorem small_vi (a b : Int) : VI (min (a.tmod 16777216) (b.tmod 16777216)) (max (a.tmod 16777216) (b.tmod 16777216)) := by
  have h1 := Int.lt_tmod_of_pos a (show (0 : Int) < 16777216 by decide)
  have h2 := Int.tmod_lt_of_pos a (show (0 : Int) < 16777216 by decide)
  have h3 := Int.lt_tmod_of_pos b (show (0 : Int) < 16777216 by decide)
  have h4 := Int.tmod_lt_of_pos b (show (0 : Int) < 16777216 by decide)
  unfold VI Num
  right
  omega

end Go.Proofs.Ytecmgiihacigaaa
