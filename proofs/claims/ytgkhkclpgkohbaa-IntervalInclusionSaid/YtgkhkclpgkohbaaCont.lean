/-
  Elements of an interval.
-/
import Derived.Test.YtgkhkclpgkohbaaIsoMath
import Derived.Test.YtgkhkclpgkohbaaIv3
namespace Go.Proofs.Ytgkhkclpgkohbaa
open Go.ChangeShapes Go.WideShapes Go.ChangeAt Go.RowKit
set_option linter.unusedVariables false
set_option linter.unusedSimpArgs false

open Go.BigFrame

set_option maxHeartbeats 1000000 in
theorem contains_ent (n d : Int) (w : World) :
    Calls Try.prog 58 #[.agg #[.int .i64 (-2147483648), .int .i64 2147483648], .int .i64 n, .int .i64 d] w fun e w' => e = .returned (.bool true) ∧ Below w.heap.size w w' := by
  go_enter Try.func58, Try.ntmps58
  go_wp2_with (fail)
  generalize hW0 : World.alloc w _ = W0
  have hT0 : Below w.heap.size w W0 := by subst hW0; exact ((Below.refl w.heap.size w).alloc (by go_size) _)
  have S0 : ∀ g : Grown W0, w.heap.size < g.w.heap.size := fun g => Nat.lt_of_lt_of_le (by subst hW0; simp <;> omega) g.h.size
  have Y0 : w.heap.size < W0.heap.size := by subst hW0; simp <;> omega
  have F00 : ∀ g : Grown W0, g.w.cell? ⟨w.heap.size, 0, none⟩ = some (.int .i64 (-2147483648)) := fun g => (g.cell Y0).trans (by subst hW0; simp [go_sem])
  have H00 : ∀ g : Grown W0, g.w.frozen? ⟨w.heap.size, 0, none⟩ = false := fun g => (g.frozen Y0).trans (by subst hW0; simp [go_sem])
  have F01 : ∀ g : Grown W0, g.w.cell? ⟨w.heap.size, 1, none⟩ = some (.int .i64 2147483648) := fun g => (g.cell Y0).trans (by subst hW0; simp [go_sem])
  have H01 : ∀ g : Grown W0, g.w.frozen? ⟨w.heap.size, 1, none⟩ = false := fun g => (g.frozen Y0).trans (by subst hW0; simp [go_sem])
  clear Y0
  clear hW0
  obtain ⟨g0, hg0⟩ : ∃ g : Grown W0, W0 = g.w := ⟨⟨W0, Below.refl _ _⟩, rfl⟩
  rw [hg0]
  clear hg0
  refine region_quiet' g0 (by kernel_rfl) (by kernel_rfl) ?_
  repeat (go_big_quiet_step ((go_at_call 38; exact qc (r2ent_yes _))))
  refine wpQuiet_nil ?_
  rintro _ ⟨g1, rfl⟩
  go_wp2_with (fail)
  have hB : Below w.heap.size w g1.w := below_then hT0 g1.h
  go_ret
  refine ⟨rfl, ?_⟩
  go_grown

set_option maxHeartbeats 1000000 in
theorem contains_yes (a b n d : Int) (w : World) (he : ¬ Ent a b) (h1 : a ≤ dn n d) (h2 : up n d ≤ b) (hn1 : -4611686018427387904 ≤ n) (hn2 : n ≤ 4611686018427387904) (hd : 0 < d) :
    Calls Try.prog 58 #[.agg #[.int .i64 a, .int .i64 b], .int .i64 n, .int .i64 d] w fun e w' => e = .returned (.bool true) ∧ Below w.heap.size w w' := by
  have hb : dn n d ≤ 4611686018427387904 ∧ -4611686018427387904 ≤ dn n d := by
    have q1 := dn_mul n hd
    constructor
    · by_cases hh : dn n d ≤ 0
      · omega
      · have := Int.mul_le_mul_of_nonneg_left (show 1 ≤ d by omega) (show 0 ≤ dn n d by omega); omega
    · refine dn_le hd ?_
      have := Int.mul_le_mul_of_nonpos_left (a := -4611686018427387904) (by omega) (show 1 ≤ d by omega); omega
  have hu := up_dn n hd
  have c1 := fun w => r2floor n d w hn1 hn2 (by omega)
  have c2 := fun w => r2ceil n d w hn1 hn2 (by omega) (by rw [dn_neg]; omega)
  have he' := Lib.hid he
  clear he
  generalize dn n d = x at *
  generalize up n d = y at *
  clear hb hu
  go_enter Try.func58, Try.ntmps58
  go_wp2_with (fail)
  generalize hW0 : World.alloc w _ = W0
  have hT0 : Below w.heap.size w W0 := by subst hW0; exact ((Below.refl w.heap.size w).alloc (by go_size) _)
  have S0 : ∀ g : Grown W0, w.heap.size < g.w.heap.size := fun g => Nat.lt_of_lt_of_le (by subst hW0; simp <;> omega) g.h.size
  have Y0 : w.heap.size < W0.heap.size := by subst hW0; simp <;> omega
  have F00 : ∀ g : Grown W0, g.w.cell? ⟨w.heap.size, 0, none⟩ = some (.int .i64 a) := fun g => (g.cell Y0).trans (by subst hW0; simp [go_sem])
  have H00 : ∀ g : Grown W0, g.w.frozen? ⟨w.heap.size, 0, none⟩ = false := fun g => (g.frozen Y0).trans (by subst hW0; simp [go_sem])
  have F01 : ∀ g : Grown W0, g.w.cell? ⟨w.heap.size, 1, none⟩ = some (.int .i64 b) := fun g => (g.cell Y0).trans (by subst hW0; simp [go_sem])
  have H01 : ∀ g : Grown W0, g.w.frozen? ⟨w.heap.size, 1, none⟩ = false := fun g => (g.frozen Y0).trans (by subst hW0; simp [go_sem])
  clear Y0
  clear hW0
  obtain ⟨g0, hg0⟩ : ∃ g : Grown W0, W0 = g.w := ⟨⟨W0, Below.refl _ _⟩, rfl⟩
  rw [hg0]
  clear hg0
  refine region_quiet' g0 (by kernel_rfl) (by kernel_rfl) ?_
  repeat (go_big_quiet_step (first | (go_at_call 38; exact qc (r2ent_no a b _ he'.out)) | (go_at_call 59; exact qs (c1 _)) | (go_at_call 60; exact qs (c2 _))))
  refine wpQuiet_nil ?_
  rintro _ ⟨g1, rfl⟩
  go_wp2_with (fail)
  have hB : Below w.heap.size w g1.w := below_then hT0 g1.h
  go_ret
  refine ⟨rfl, ?_⟩
  go_grown

/-- A rational between the ends is an element, whether the ends are made entire or not. -/
theorem contains_mk {x y n d : Int} (h1 : x ≤ dn n d) (h2 : up n d ≤ y) (hn1 : -4611686018427387904 ≤ n) (hn2 : n ≤ 4611686018427387904) (hd : 0 < d) (w : World) :
    Calls Try.prog 58 #[.agg #[.int .i64 (mkLo x y), .int .i64 (mkHi x y)], .int .i64 n, .int .i64 d] w fun e w' => e = .returned (.bool true) ∧ Below w.heap.size w w' := by
  by_cases he : Ent (mkLo x y) (mkHi x y)
  · rw [he.1, he.2]; exact contains_ent n d w
  · obtain ⟨_, _, e1, e2⟩ := mk_not_ent he
    rw [e1, e2] at he ⊢
    exact contains_yes x y n d w he h1 h2 hn1 hn2 hd
end Go.Proofs.Ytgkhkclpgkohbaa
