/-
  The ratio of a law's argument.
-/
import Derived.Test.YtdnndmpdlelliaaHead
import Derived.Test.YtdnndmpdlelliaaMm
namespace Go.Proofs.Ytdnndmpdlelliaa
open Go.ChangeShapes Go.WideShapes Go.ChangeAt Go.RowKit
set_option linter.unusedVariables false
set_option linter.unusedSimpArgs false
set_option maxRecDepth 100000

open Go.BigFrame
attribute [local go_sem ↓] run_max_two run_min_two run_max_three

set_option maxHeartbeats 1000000 in
theorem law_ratio (x0 x1 x2 x3 x4 x5 : Int) (w : World) (h0 : 0 ≤ x5) (h1 : x5 < 65536) (h2 : -2147483648 ≤ x4) (h3 : x4 ≤ 2147483647) :
    Calls Try.prog 20 #[.agg #[.int .i64 x0, .int .i64 x1, .int .i64 x2, .int .i64 x3, .int .i32 x4, .int .u16 x5]] w fun e w' => e = .returned (.tuple #[.int .i64 (x4.tmod 1073741824), .int .i64 (1 + x5)]) ∧ Below w.heap.size w w' := by
  go_enter Try.func20, Try.ntmps20
  go_wp2_with (fail)
  generalize hW0 : World.alloc w _ = W0
  have hT0 : Below w.heap.size w W0 := by subst hW0; exact ((Below.refl w.heap.size w).alloc (by go_size) _)
  have Y0 : w.heap.size < W0.heap.size := by subst hW0; simp <;> omega
  have S0 : ∀ g : Grown W0, w.heap.size < g.w.heap.size := fun g => Nat.lt_of_lt_of_le Y0 g.h.size
  have F0_0 : ∀ g : Grown W0, g.w.cell? ⟨w.heap.size, 0, none⟩ = some (.int .i64 x0) := fun g => (g.cell Y0).trans (by subst hW0; simp [go_sem])
  have H0_0 : ∀ g : Grown W0, g.w.frozen? ⟨w.heap.size, 0, none⟩ = false := fun g => (g.frozen Y0).trans (by subst hW0; simp [go_sem])
  have F0_1 : ∀ g : Grown W0, g.w.cell? ⟨w.heap.size, 1, none⟩ = some (.int .i64 x1) := fun g => (g.cell Y0).trans (by subst hW0; simp [go_sem])
  have H0_1 : ∀ g : Grown W0, g.w.frozen? ⟨w.heap.size, 1, none⟩ = false := fun g => (g.frozen Y0).trans (by subst hW0; simp [go_sem])
  have F0_2 : ∀ g : Grown W0, g.w.cell? ⟨w.heap.size, 2, none⟩ = some (.int .i64 x2) := fun g => (g.cell Y0).trans (by subst hW0; simp [go_sem])
  have H0_2 : ∀ g : Grown W0, g.w.frozen? ⟨w.heap.size, 2, none⟩ = false := fun g => (g.frozen Y0).trans (by subst hW0; simp [go_sem])
  have F0_3 : ∀ g : Grown W0, g.w.cell? ⟨w.heap.size, 3, none⟩ = some (.int .i64 x3) := fun g => (g.cell Y0).trans (by subst hW0; simp [go_sem])
  have H0_3 : ∀ g : Grown W0, g.w.frozen? ⟨w.heap.size, 3, none⟩ = false := fun g => (g.frozen Y0).trans (by subst hW0; simp [go_sem])
  have F0_4 : ∀ g : Grown W0, g.w.cell? ⟨w.heap.size, 4, none⟩ = some (.int .i32 x4) := fun g => (g.cell Y0).trans (by subst hW0; simp [go_sem])
  have H0_4 : ∀ g : Grown W0, g.w.frozen? ⟨w.heap.size, 4, none⟩ = false := fun g => (g.frozen Y0).trans (by subst hW0; simp [go_sem])
  have F0_5 : ∀ g : Grown W0, g.w.cell? ⟨w.heap.size, 5, none⟩ = some (.int .u16 x5) := fun g => (g.cell Y0).trans (by subst hW0; simp [go_sem])
  have H0_5 : ∀ g : Grown W0, g.w.frozen? ⟨w.heap.size, 5, none⟩ = false := fun g => (g.frozen Y0).trans (by subst hW0; simp [go_sem])
  clear Y0
  clear hW0
  obtain ⟨g0, hg0⟩ : ∃ g : Grown W0, W0 = g.w := ⟨⟨W0, Below.refl _ _⟩, rfl⟩
  rw [hg0]
  clear hg0
  refine region_quiet' g0 (by kernel_rfl) (by kernel_rfl) ?_
  repeat (go_big_quiet_step (fail))
  refine wpQuiet_nil ?_
  rintro _ ⟨g1, rfl⟩
  go_wp2_with (fail)
  have hB : Below w.heap.size w g1.w := below_then hT0 g1.h
  go_ret2
  refine ⟨rfl, ?_⟩
  go_grown
end Go.Proofs.Ytdnndmpdlelliaa
