/-
  box.Inflate's closure.
-/
import Derived.Test.YtdnndmpdlelliaaSqd
import Derived.Test.YtdnndmpdlelliaaIw3
import Derived.Test.YtdnndmpdlelliaaIw2
namespace Go.Proofs.Ytdnndmpdlelliaa
open Go.ChangeShapes Go.WideShapes Go.ChangeAt Go.RowKit
set_option linter.unusedVariables false
set_option linter.unusedSimpArgs false
set_option maxRecDepth 100000

attribute [local irreducible] Calls
open Go.BigFrame
attribute [local go_sem ↓] run_max_two run_min_two run_max_three

def inflI (d : Int) (p : Int × Int) : Int × Int := if Ent p.1 p.2 then p else (mkLo (p.1 - d) (p.2 + d), mkHi (p.1 - d) (p.2 + d))

set_option maxHeartbeats 1000000 in
theorem infl_ent (d : Int) (X : Nat) (w : World) (hX : X < w.heap.size) (hc : w.cell? ⟨X, 0, none⟩ = some (.int .i64 d)) :
    Calls Try.prog 116 #[.agg #[.int .i64 (-2147483648), .int .i64 2147483648], .pointer (some ⟨X, 0, none⟩)] w fun e w' => e = .returned (.agg #[.int .i64 (-2147483648), .int .i64 2147483648]) ∧ Below w.heap.size w w' := by
  go_enter Try.func116, Try.ntmps116
  go_wp2_with (fail)
  generalize hW0 : World.alloc (World.alloc w _) _ = W0
  have hT0 : Below w.heap.size w W0 := by subst hW0; exact (((Below.refl w.heap.size w).alloc (by go_size) _).alloc (by go_size) _)
  have S0 : ∀ g : Grown W0, w.heap.size < g.w.heap.size := fun g => Nat.lt_of_lt_of_le (by subst hW0; simp <;> omega) g.h.size
  have Y0 : w.heap.size < W0.heap.size := by subst hW0; simp <;> omega
  have F00 : ∀ g : Grown W0, g.w.cell? ⟨w.heap.size, 0, none⟩ = some (.int .i64 (-2147483648)) := fun g => (g.cell Y0).trans (by subst hW0; simp [go_sem])
  have H00 : ∀ g : Grown W0, g.w.frozen? ⟨w.heap.size, 0, none⟩ = false := fun g => (g.frozen Y0).trans (by subst hW0; simp [go_sem])
  have F01 : ∀ g : Grown W0, g.w.cell? ⟨w.heap.size, 1, none⟩ = some (.int .i64 2147483648) := fun g => (g.cell Y0).trans (by subst hW0; simp [go_sem])
  have H01 : ∀ g : Grown W0, g.w.frozen? ⟨w.heap.size, 1, none⟩ = false := fun g => (g.frozen Y0).trans (by subst hW0; simp [go_sem])
  clear Y0
  have S1 : ∀ g : Grown W0, w.heap.size + 1 < g.w.heap.size := fun g => Nat.lt_of_lt_of_le (by subst hW0; simp <;> omega) g.h.size
  have Y1 : w.heap.size + 1 < W0.heap.size := by subst hW0; simp <;> omega
  have F10 : ∀ g : Grown W0, g.w.cell? ⟨w.heap.size + 1, 0, none⟩ = some (.int .i64 0) := fun g => (g.cell Y1).trans (by subst hW0; simp [go_sem])
  have H10 : ∀ g : Grown W0, g.w.frozen? ⟨w.heap.size + 1, 0, none⟩ = false := fun g => (g.frozen Y1).trans (by subst hW0; simp [go_sem])
  have F11 : ∀ g : Grown W0, g.w.cell? ⟨w.heap.size + 1, 1, none⟩ = some (.int .i64 0) := fun g => (g.cell Y1).trans (by subst hW0; simp [go_sem])
  have H11 : ∀ g : Grown W0, g.w.frozen? ⟨w.heap.size + 1, 1, none⟩ = false := fun g => (g.frozen Y1).trans (by subst hW0; simp [go_sem])
  clear Y1
  clear hW0
  obtain ⟨g0, hg0⟩ : ∃ g : Grown W0, W0 = g.w := ⟨⟨W0, Below.refl _ _⟩, rfl⟩
  rw [hg0]
  clear hg0
  have FX : ∀ g : Grown W0, g.w.cell? ⟨X, 0, none⟩ = some (.int .i64 d) := fun g => (g.cell (Nat.lt_of_lt_of_le hX hT0.size)).trans ((hT0.cell (p := ⟨X, 0, none⟩) hX).trans hc)
  refine (iv_ent_yes _).mono ?_
  rintro e1 w1 ⟨rfl, hB1⟩
  obtain ⟨g1, rfl⟩ := grow g0 hB1
  clear hB1
  go_wp2_with (fail)
  have hB : Below w.heap.size w g1.w := below_then hT0 g1.h
  refine bodyPost_ret (v := .agg #[.int .i64 (-2147483648), .int .i64 2147483648]) (by simp [results, Try.results116, go_sem, F10, F11]) rfl ⟨rfl, ?_⟩
  go_grown

set_option maxHeartbeats 1000000 in
theorem infl_no (a b : Int) (d : Int) (X : Nat) (w : World) (hX : X < w.heap.size) (hc : w.cell? ⟨X, 0, none⟩ = some (.int .i64 d)) (hv : VI a b) (he : ¬ Ent a b) (hd0 : 0 ≤ d) (hd1 : d ≤ 4294967296) :
    Calls Try.prog 116 #[.agg #[.int .i64 a, .int .i64 b], .pointer (some ⟨X, 0, none⟩)] w fun e w' => e = .returned (.agg #[.int .i64 (mkLo (a - d) (b + d)), .int .i64 (mkHi (a - d) (b + d))]) ∧ Below w.heap.size w w' := by
  have he' := Lib.hid he
  obtain ⟨ha1, ha2, hb1, hb2, hab⟩ := hv.bd
  have c1 := fun w => iv_new (a - d) (b + d) w (by omega)
  clear he hv
  generalize mkLo (a - d) (b + d) = p at *
  generalize mkHi (a - d) (b + d) = q at *
  go_enter Try.func116, Try.ntmps116
  go_wp2_with (fail)
  generalize hW0 : World.alloc (World.alloc w _) _ = W0
  have hT0 : Below w.heap.size w W0 := by subst hW0; exact (((Below.refl w.heap.size w).alloc (by go_size) _).alloc (by go_size) _)
  have S0 : ∀ g : Grown W0, w.heap.size < g.w.heap.size := fun g => Nat.lt_of_lt_of_le (by subst hW0; simp <;> omega) g.h.size
  have Y0 : w.heap.size < W0.heap.size := by subst hW0; simp <;> omega
  have F00 : ∀ g : Grown W0, g.w.cell? ⟨w.heap.size, 0, none⟩ = some (.int .i64 a) := fun g => (g.cell Y0).trans (by subst hW0; simp [go_sem])
  have H00 : ∀ g : Grown W0, g.w.frozen? ⟨w.heap.size, 0, none⟩ = false := fun g => (g.frozen Y0).trans (by subst hW0; simp [go_sem])
  have F01 : ∀ g : Grown W0, g.w.cell? ⟨w.heap.size, 1, none⟩ = some (.int .i64 b) := fun g => (g.cell Y0).trans (by subst hW0; simp [go_sem])
  have H01 : ∀ g : Grown W0, g.w.frozen? ⟨w.heap.size, 1, none⟩ = false := fun g => (g.frozen Y0).trans (by subst hW0; simp [go_sem])
  clear Y0
  have S1 : ∀ g : Grown W0, w.heap.size + 1 < g.w.heap.size := fun g => Nat.lt_of_lt_of_le (by subst hW0; simp <;> omega) g.h.size
  have Y1 : w.heap.size + 1 < W0.heap.size := by subst hW0; simp <;> omega
  have F10 : ∀ g : Grown W0, g.w.cell? ⟨w.heap.size + 1, 0, none⟩ = some (.int .i64 0) := fun g => (g.cell Y1).trans (by subst hW0; simp [go_sem])
  have H10 : ∀ g : Grown W0, g.w.frozen? ⟨w.heap.size + 1, 0, none⟩ = false := fun g => (g.frozen Y1).trans (by subst hW0; simp [go_sem])
  have F11 : ∀ g : Grown W0, g.w.cell? ⟨w.heap.size + 1, 1, none⟩ = some (.int .i64 0) := fun g => (g.cell Y1).trans (by subst hW0; simp [go_sem])
  have H11 : ∀ g : Grown W0, g.w.frozen? ⟨w.heap.size + 1, 1, none⟩ = false := fun g => (g.frozen Y1).trans (by subst hW0; simp [go_sem])
  clear Y1
  clear hW0
  obtain ⟨g0, hg0⟩ : ∃ g : Grown W0, W0 = g.w := ⟨⟨W0, Below.refl _ _⟩, rfl⟩
  rw [hg0]
  clear hg0
  have FX : ∀ g : Grown W0, g.w.cell? ⟨X, 0, none⟩ = some (.int .i64 d) := fun g => (g.cell (Nat.lt_of_lt_of_le hX hT0.size)).trans ((hT0.cell (p := ⟨X, 0, none⟩) hX).trans hc)
  refine (iv_ent_no a b _ he'.out).mono ?_
  rintro e1 w1 ⟨rfl, hB1⟩
  obtain ⟨g1, rfl⟩ := grow g0 hB1
  clear hB1
  go_wp2_with (fail)
  refine (c1 _).mono ?_
  rintro e2 w2 ⟨rfl, hB2⟩
  obtain ⟨g2, rfl⟩ := grow g1 hB2
  clear hB2
  go_wp2_with (fail)
  have hB : Below w.heap.size w g2.w := below_then hT0 g2.h
  refine bodyPost_ret (v := .agg #[.int .i64 p, .int .i64 q]) (by simp [results, Try.results116, go_sem, F10, F11]) rfl ⟨rfl, ?_⟩
  go_grown

theorem infl1 (p : Int × Int) (d : Int) (X : Nat) (w : World) (hX : X < w.heap.size) (hc : w.cell? ⟨X, 0, none⟩ = some (.int .i64 d)) (hv : VB p) (hd0 : 0 ≤ d) (hd1 : d ≤ 4294967296) :
    Calls Try.prog 116 #[.agg #[.int .i64 p.1, .int .i64 p.2], .pointer (some ⟨X, 0, none⟩)] w fun e w' => e = .returned (.agg #[.int .i64 (inflI d p).1, .int .i64 (inflI d p).2]) ∧ Below w.heap.size w w' := by
  obtain ⟨a, b⟩ := p
  unfold inflI
  by_cases he : Ent a b
  · rw [if_pos he]
    obtain ⟨rfl, rfl⟩ := he
    exact infl_ent d X w hX hc
  · rw [if_neg he]
    exact infl_no a b d X w hX hc hv he hd0 hd1
end Go.Proofs.Ytdnndmpdlelliaa
