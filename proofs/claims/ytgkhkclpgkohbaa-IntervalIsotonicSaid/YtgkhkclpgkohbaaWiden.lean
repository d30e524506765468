/-
  The supersets of the law of isotony.
-/
import Derived.Test.YtgkhkclpgkohbaaIsoMath
import Derived.Test.YtgkhkclpgkohbaaHead
namespace Go.Proofs.Ytgkhkclpgkohbaa
open Go.ChangeShapes Go.WideShapes Go.ChangeAt Go.RowKit
set_option linter.unusedVariables false
set_option linter.unusedSimpArgs false

open Go.BigFrame

set_option maxHeartbeats 1000000 in
theorem widen_ent (u v : Int) (w : World) :
    Calls Try.prog 61 #[.agg #[.int .i64 (-2147483648), .int .i64 2147483648], .int .u32 u, .int .u32 v] w fun e w' => e = .returned (.agg #[.int .i64 (-2147483648), .int .i64 2147483648]) ∧ Below w.heap.size w w' := by
  go_enter Try.func61, Try.ntmps61
  go_wp2_with (fail)
  generalize hW0 : World.alloc (World.alloc w _) _ = W0
  have hT0 : Below w.heap.size w W0 := by subst hW0; exact (((Below.refl w.heap.size w).alloc (by go_size) _).alloc (by go_size) _)
  have S0 : ∀ g : Grown W0, w.heap.size < g.w.heap.size := fun g => Nat.lt_of_lt_of_le (by subst hW0; simp <;> omega) g.h.size
  have Y0 : w.heap.size < W0.heap.size := by subst hW0; simp <;> omega
  have F00 : ∀ g : Grown W0, g.w.cell? ⟨w.heap.size, 0, none⟩ = some (.int .i64 (-2147483648)) := fun g => (g.cell Y0).trans (by subst hW0; simp [go_sem])
  have H00 : ∀ g : Grown W0, g.w.frozen? ⟨w.heap.size, 0, none⟩ = false := fun g => (g.frozen Y0).trans (by subst hW0; simp [go_sem])
  have F01 : ∀ g : Grown W0, g.w.cell? ⟨w.heap.size, 1, none⟩ = some (.int .i64 2147483648) := fun g => (g.cell Y0).trans (by subst hW0; simp [go_sem])
  have H01 : ∀ g : Grown W0, g.w.frozen? ⟨w.heap.size, 1, none⟩ = false := fun g => (g.frozen Y0).trans (by subst hW0; simp [go_sem])
  clear Y0
  have S1 : ∀ g : Grown W0, w.heap.size + 1 < g.w.heap.size := fun g => Nat.lt_of_lt_of_le (by subst hW0; simp <;> omega) g.h.size
  have Y1 : w.heap.size + 1 < W0.heap.size := by subst hW0; simp <;> omega
  have F10 : ∀ g : Grown W0, g.w.cell? ⟨w.heap.size + 1, 0, none⟩ = some (.int .i64 0) := fun g => (g.cell Y1).trans (by subst hW0; simp [go_sem])
  have H10 : ∀ g : Grown W0, g.w.frozen? ⟨w.heap.size + 1, 0, none⟩ = false := fun g => (g.frozen Y1).trans (by subst hW0; simp [go_sem])
  have F11 : ∀ g : Grown W0, g.w.cell? ⟨w.heap.size + 1, 1, none⟩ = some (.int .i64 0) := fun g => (g.cell Y1).trans (by subst hW0; simp [go_sem])
  have H11 : ∀ g : Grown W0, g.w.frozen? ⟨w.heap.size + 1, 1, none⟩ = false := fun g => (g.frozen Y1).trans (by subst hW0; simp [go_sem])
  clear Y1
  clear hW0
  obtain ⟨g0, hg0⟩ : ∃ g : Grown W0, W0 = g.w := ⟨⟨W0, Below.refl _ _⟩, rfl⟩
  rw [hg0]
  clear hg0
  refine (r2ent_yes _).mono ?_
  rintro e1 w1 ⟨rfl, hB1⟩
  obtain ⟨g1, rfl⟩ := grow g0 hB1
  clear hB1
  go_wp2_with (fail)
  have hB : Below w.heap.size w g1.w := below_then hT0 g1.h
  refine bodyPost_ret (v := .agg #[.int .i64 (-2147483648), .int .i64 2147483648]) (by simp [results, Try.results61, go_sem, F10, F11]) rfl ⟨rfl, ?_⟩
  go_grown

set_option maxHeartbeats 1000000 in
theorem widen_no (a b u v : Int) (w : World) (he : ¬ Ent a b) (ha : -2147483648 ≤ a) (hb : b ≤ 2147483648) (hab : a ≤ b) (u0 : 0 ≤ u) (u1 : u < 4294967296) (v0 : 0 ≤ v) (v1 : v < 4294967296) :
    Calls Try.prog 61 #[.agg #[.int .i64 a, .int .i64 b], .int .u32 u, .int .u32 v] w fun e w' => e = .returned (.agg #[.int .i64 (mkLo (a - u % 99991) (b + v % 99991)), .int .i64 (mkHi (a - u % 99991) (b + v % 99991))]) ∧ Below w.heap.size w w' := by
  have he' := Lib.hid he
  clear he
  have c1 := fun w => r2new (a - u % 99991) (b + v % 99991) w
  generalize mkLo (a - u % 99991) (b + v % 99991) = p at *
  generalize mkHi (a - u % 99991) (b + v % 99991) = q at *
  go_enter Try.func61, Try.ntmps61
  go_wp2_with (fail)
  generalize hW0 : World.alloc (World.alloc w _) _ = W0
  have hT0 : Below w.heap.size w W0 := by subst hW0; exact (((Below.refl w.heap.size w).alloc (by go_size) _).alloc (by go_size) _)
  have S0 : ∀ g : Grown W0, w.heap.size < g.w.heap.size := fun g => Nat.lt_of_lt_of_le (by subst hW0; simp <;> omega) g.h.size
  have Y0 : w.heap.size < W0.heap.size := by subst hW0; simp <;> omega
  have F00 : ∀ g : Grown W0, g.w.cell? ⟨w.heap.size, 0, none⟩ = some (.int .i64 a) := fun g => (g.cell Y0).trans (by subst hW0; simp [go_sem])
  have H00 : ∀ g : Grown W0, g.w.frozen? ⟨w.heap.size, 0, none⟩ = false := fun g => (g.frozen Y0).trans (by subst hW0; simp [go_sem])
  have F01 : ∀ g : Grown W0, g.w.cell? ⟨w.heap.size, 1, none⟩ = some (.int .i64 b) := fun g => (g.cell Y0).trans (by subst hW0; simp [go_sem])
  have H01 : ∀ g : Grown W0, g.w.frozen? ⟨w.heap.size, 1, none⟩ = false := fun g => (g.frozen Y0).trans (by subst hW0; simp [go_sem])
  clear Y0
  have S1 : ∀ g : Grown W0, w.heap.size + 1 < g.w.heap.size := fun g => Nat.lt_of_lt_of_le (by subst hW0; simp <;> omega) g.h.size
  have Y1 : w.heap.size + 1 < W0.heap.size := by subst hW0; simp <;> omega
  have F10 : ∀ g : Grown W0, g.w.cell? ⟨w.heap.size + 1, 0, none⟩ = some (.int .i64 0) := fun g => (g.cell Y1).trans (by subst hW0; simp [go_sem])
  have H10 : ∀ g : Grown W0, g.w.frozen? ⟨w.heap.size + 1, 0, none⟩ = false := fun g => (g.frozen Y1).trans (by subst hW0; simp [go_sem])
  have F11 : ∀ g : Grown W0, g.w.cell? ⟨w.heap.size + 1, 1, none⟩ = some (.int .i64 0) := fun g => (g.cell Y1).trans (by subst hW0; simp [go_sem])
  have H11 : ∀ g : Grown W0, g.w.frozen? ⟨w.heap.size + 1, 1, none⟩ = false := fun g => (g.frozen Y1).trans (by subst hW0; simp [go_sem])
  clear Y1
  clear hW0
  obtain ⟨g0, hg0⟩ : ∃ g : Grown W0, W0 = g.w := ⟨⟨W0, Below.refl _ _⟩, rfl⟩
  rw [hg0]
  clear hg0
  refine (r2ent_no a b _ he'.out).mono ?_
  rintro e1 w1 ⟨rfl, hB1⟩
  obtain ⟨g1, rfl⟩ := grow g0 hB1
  clear hB1
  go_wp2_with (fail)
  refine (c1 _).mono ?_
  rintro e2 w2 ⟨rfl, hB2⟩
  obtain ⟨g2, rfl⟩ := grow g1 hB2
  clear hB2
  go_wp2_with (fail)
  have hB : Below w.heap.size w g2.w := below_then hT0 g2.h
  refine bodyPost_ret (v := .agg #[.int .i64 p, .int .i64 q]) (by simp [results, Try.results61, go_sem, F10, F11]) rfl ⟨rfl, ?_⟩
  go_grown

/-- widen: a valid interval that holds the one given. -/
theorem widen_any (a b u v : Int) (hv : VI a b) (u0 : 0 ≤ u) (u1 : u < 4294967296) (v0 : 0 ≤ v) (v1 : v < 4294967296) :
    ∃ i j, VI i j ∧ Sb a b i j ∧ ∀ w, Calls Try.prog 61 #[.agg #[.int .i64 a, .int .i64 b], .int .u32 u, .int .u32 v] w fun e w' => e = .returned (.agg #[.int .i64 i, .int .i64 j]) ∧ Below w.heap.size w w' := by
  by_cases he : Ent a b
  · obtain ⟨rfl, rfl⟩ := he
    exact ⟨_, _, hv, ⟨Int.le_refl _, Int.le_refl _⟩, fun w => widen_ent u v w⟩
  · have hb := hv.bd
    refine ⟨_, _, mk_vi (by omega), ?_, fun w => widen_no a b u v w he (by omega) (by omega) (by omega) u0 u1 v0 v1⟩
    have := mk_sub (x := a) (y := b) (x' := a - u % 99991) (y' := b + v % 99991) (by omega) (by omega) (by omega)
    rw [(mk_self hv he).1, (mk_self hv he).2] at this
    exact this
theorem load_u32 {w0 : World} {b o : Nat} {x : Int} (hb : b < w0.heap.size) (h0 : w0.cell? ⟨b, o, none⟩ = some (.int .u32 x)) :
    ∀ g : Grown w0, (Instr.loadAt 45 (.pointer (some ⟨b, o, none⟩))).run Try.prog g.w = .ok (.int .u32 x) g.w := fun g => by
  have h0' := (g.cell (o := o) hb).trans h0
  simp [go_sem, h0']
end Go.Proofs.Ytgkhkclpgkohbaa
