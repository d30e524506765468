/-
  R7 Iv4
-/
import Derived.Test.YtbppfohcicepcaaGreatKbb
import Derived.Test.YtbppfohcicepcaaGreatKbe
import Derived.Test.YtbppfohcicepcaaGreatKbl
import Derived.Test.YtbppfohcicepcaaGreatKbzh
import Derived.RangeFuncBox
import Derived.Outline
import Derived.WalkMore
import Derived.Deep.RegionWith
namespace Go.Proofs.YtbppfohcicepcaaGreat
open Go.ChangeShapes Go.WideShapes Go.ChangeAt Go.RowKit
set_option linter.unusedVariables false
set_option linter.unusedSimpArgs false
set_option maxRecDepth 100000
open Go.BigFrame
attribute [local go_sem ↓] run_max_two run_min_two run_max_three
attribute [local irreducible] Calls
theorem dn_within2 {n d B : Int} (hd : ¬ d = 0) (h1 : -B ≤ n) (h2 : n ≤ B) (hB : 0 ≤ B) : -B ≤ dn n d ∧ dn n d ≤ B := by
  by_cases h : 0 < d
  · exact dn_within h h1 h2 hB
  · have := dn_within (n := -n) (d := -d) (B := B) (by omega) (by omega) (by omega) hB
    rwa [dn_flip] at this
def upg {W0 : World} (g : Grown W0) (h : Grown g.w) : Grown W0 := ⟨h.w, g.h.trans (h.h.mono g.h.size)⟩
theorem steady_row {B : Nat} {x y : Value} {t : TypeId} : Steady (fun u w' => ∃ X, u = .slice (some ⟨X, 0, none⟩) 2 2 ∧ B ≤ X ∧ w'.heap[X]? = some (.cells #[x, y] t (0, 0))) := by
  rintro v w1 w2 hb ⟨X, h1, h2, h3⟩
  exact ⟨X, h1, h2, (hb.block X (Array.getElem?_eq_some_iff.1 h3).1).trans h3⟩

set_option maxHeartbeats 8000000 in
theorem r2div (a b c d : Int) (w : World) (hv : VI a b) (hw : VI c d) :
    Calls Tryz.prog 63 #[.agg #[.int .i64 a, .int .i64 b], .agg #[.int .i64 c, .int .i64 d]] w fun e w' => e = .returned (.agg #[.int .i64 (divLo a b c d), .int .i64 (divHi a b c d)]) ∧ Below w.heap.size w w' := by
  unfold divLo divHi
  by_cases h1 : Ent a b
  · rw [if_pos (.inl h1), if_pos (.inl h1)]
    obtain ⟨rfl, rfl⟩ := h1
    clear hv hw
    go_enter Tryz.func63, Tryz.ntmps63
    go_wp2_with (fail)
    generalize hW0 : World.alloc (World.alloc (World.alloc w _) _) _ = W0
    have hT0 : Below w.heap.size w W0 := by subst hW0; exact ((((Below.refl w.heap.size w).alloc (by go_size) _).alloc (by go_size) _).alloc (by go_size) _)
    have S0 : ∀ g : Grown W0, w.heap.size < g.w.heap.size := fun g => Nat.lt_of_lt_of_le (by subst hW0; simp <;> omega) g.h.size
    have Y0 : w.heap.size < W0.heap.size := by subst hW0; simp <;> omega
    have F00 : ∀ g : Grown W0, g.w.cell? ⟨w.heap.size, 0, none⟩ = some (.int .i64 (-2147483648)) := fun g => (g.cell Y0).trans (by subst hW0; simp [go_sem])
    have H00 : ∀ g : Grown W0, g.w.frozen? ⟨w.heap.size, 0, none⟩ = false := fun g => (g.frozen Y0).trans (by subst hW0; simp [go_sem])
    have F01 : ∀ g : Grown W0, g.w.cell? ⟨w.heap.size, 1, none⟩ = some (.int .i64 2147483648) := fun g => (g.cell Y0).trans (by subst hW0; simp [go_sem])
    have H01 : ∀ g : Grown W0, g.w.frozen? ⟨w.heap.size, 1, none⟩ = false := fun g => (g.frozen Y0).trans (by subst hW0; simp [go_sem])
    clear Y0
    have S1 : ∀ g : Grown W0, w.heap.size + 1 < g.w.heap.size := fun g => Nat.lt_of_lt_of_le (by subst hW0; simp <;> omega) g.h.size
    have Y1 : w.heap.size + 1 < W0.heap.size := by subst hW0; simp <;> omega
    have F10 : ∀ g : Grown W0, g.w.cell? ⟨w.heap.size + 1, 0, none⟩ = some (.int .i64 c) := fun g => (g.cell Y1).trans (by subst hW0; simp [go_sem])
    have H10 : ∀ g : Grown W0, g.w.frozen? ⟨w.heap.size + 1, 0, none⟩ = false := fun g => (g.frozen Y1).trans (by subst hW0; simp [go_sem])
    have F11 : ∀ g : Grown W0, g.w.cell? ⟨w.heap.size + 1, 1, none⟩ = some (.int .i64 d) := fun g => (g.cell Y1).trans (by subst hW0; simp [go_sem])
    have H11 : ∀ g : Grown W0, g.w.frozen? ⟨w.heap.size + 1, 1, none⟩ = false := fun g => (g.frozen Y1).trans (by subst hW0; simp [go_sem])
    clear Y1
    have S2 : ∀ g : Grown W0, w.heap.size + 1 + 1 < g.w.heap.size := fun g => Nat.lt_of_lt_of_le (by subst hW0; simp <;> omega) g.h.size
    have Y2 : w.heap.size + 1 + 1 < W0.heap.size := by subst hW0; simp <;> omega
    have F20 : ∀ g : Grown W0, g.w.cell? ⟨w.heap.size + 1 + 1, 0, none⟩ = some (.int .i64 0) := fun g => (g.cell Y2).trans (by subst hW0; simp [go_sem])
    have H20 : ∀ g : Grown W0, g.w.frozen? ⟨w.heap.size + 1 + 1, 0, none⟩ = false := fun g => (g.frozen Y2).trans (by subst hW0; simp [go_sem])
    have F21 : ∀ g : Grown W0, g.w.cell? ⟨w.heap.size + 1 + 1, 1, none⟩ = some (.int .i64 0) := fun g => (g.cell Y2).trans (by subst hW0; simp [go_sem])
    have H21 : ∀ g : Grown W0, g.w.frozen? ⟨w.heap.size + 1 + 1, 1, none⟩ = false := fun g => (g.frozen Y2).trans (by subst hW0; simp [go_sem])
    clear Y2
    clear hW0
    obtain ⟨g0, hg0⟩ : ∃ g : Grown W0, W0 = g.w := ⟨⟨W0, Below.refl _ _⟩, rfl⟩
    rw [hg0]
    clear hg0
    refine (r2ent_yes _).mono ?_
    rintro e1 w1 ⟨rfl, hB1⟩
    obtain ⟨g1, rfl⟩ := grow g0 hB1
    clear hB1
    go_wp2_with (fail)
    refine (r2entire _).mono ?_
    rintro e2 w2 ⟨rfl, hB2⟩
    obtain ⟨g2, rfl⟩ := grow g1 hB2
    clear hB2
    go_wp2_with (fail)
    have hB : Below w.heap.size w g2.w := below_then hT0 g2.h
    refine bodyPost_ret (v := .agg #[.int .i64 (-2147483648), .int .i64 2147483648]) (by simp [results, Tryz.results63, go_sem, F20, F21]) rfl ⟨rfl, ?_⟩
    go_grown
  by_cases h2 : Ent c d
  · have hz : c ≤ 0 ∧ 0 ≤ d := by obtain ⟨rfl, rfl⟩ := h2; decide
    rw [if_pos (.inr hz), if_pos (.inr hz)]
    obtain ⟨rfl, rfl⟩ := h2
    have h1' := Lib.hid h1
    clear h1 hv hw hz
    go_enter Tryz.func63, Tryz.ntmps63
    go_wp2_with (fail)
    generalize hW0 : World.alloc (World.alloc (World.alloc w _) _) _ = W0
    have hT0 : Below w.heap.size w W0 := by subst hW0; exact ((((Below.refl w.heap.size w).alloc (by go_size) _).alloc (by go_size) _).alloc (by go_size) _)
    have S0 : ∀ g : Grown W0, w.heap.size < g.w.heap.size := fun g => Nat.lt_of_lt_of_le (by subst hW0; simp <;> omega) g.h.size
    have Y0 : w.heap.size < W0.heap.size := by subst hW0; simp <;> omega
    have F00 : ∀ g : Grown W0, g.w.cell? ⟨w.heap.size, 0, none⟩ = some (.int .i64 a) := fun g => (g.cell Y0).trans (by subst hW0; simp [go_sem])
    have H00 : ∀ g : Grown W0, g.w.frozen? ⟨w.heap.size, 0, none⟩ = false := fun g => (g.frozen Y0).trans (by subst hW0; simp [go_sem])
    have F01 : ∀ g : Grown W0, g.w.cell? ⟨w.heap.size, 1, none⟩ = some (.int .i64 b) := fun g => (g.cell Y0).trans (by subst hW0; simp [go_sem])
    have H01 : ∀ g : Grown W0, g.w.frozen? ⟨w.heap.size, 1, none⟩ = false := fun g => (g.frozen Y0).trans (by subst hW0; simp [go_sem])
    clear Y0
    have S1 : ∀ g : Grown W0, w.heap.size + 1 < g.w.heap.size := fun g => Nat.lt_of_lt_of_le (by subst hW0; simp <;> omega) g.h.size
    have Y1 : w.heap.size + 1 < W0.heap.size := by subst hW0; simp <;> omega
    have F10 : ∀ g : Grown W0, g.w.cell? ⟨w.heap.size + 1, 0, none⟩ = some (.int .i64 (-2147483648)) := fun g => (g.cell Y1).trans (by subst hW0; simp [go_sem])
    have H10 : ∀ g : Grown W0, g.w.frozen? ⟨w.heap.size + 1, 0, none⟩ = false := fun g => (g.frozen Y1).trans (by subst hW0; simp [go_sem])
    have F11 : ∀ g : Grown W0, g.w.cell? ⟨w.heap.size + 1, 1, none⟩ = some (.int .i64 2147483648) := fun g => (g.cell Y1).trans (by subst hW0; simp [go_sem])
    have H11 : ∀ g : Grown W0, g.w.frozen? ⟨w.heap.size + 1, 1, none⟩ = false := fun g => (g.frozen Y1).trans (by subst hW0; simp [go_sem])
    clear Y1
    have S2 : ∀ g : Grown W0, w.heap.size + 1 + 1 < g.w.heap.size := fun g => Nat.lt_of_lt_of_le (by subst hW0; simp <;> omega) g.h.size
    have Y2 : w.heap.size + 1 + 1 < W0.heap.size := by subst hW0; simp <;> omega
    have F20 : ∀ g : Grown W0, g.w.cell? ⟨w.heap.size + 1 + 1, 0, none⟩ = some (.int .i64 0) := fun g => (g.cell Y2).trans (by subst hW0; simp [go_sem])
    have H20 : ∀ g : Grown W0, g.w.frozen? ⟨w.heap.size + 1 + 1, 0, none⟩ = false := fun g => (g.frozen Y2).trans (by subst hW0; simp [go_sem])
    have F21 : ∀ g : Grown W0, g.w.cell? ⟨w.heap.size + 1 + 1, 1, none⟩ = some (.int .i64 0) := fun g => (g.cell Y2).trans (by subst hW0; simp [go_sem])
    have H21 : ∀ g : Grown W0, g.w.frozen? ⟨w.heap.size + 1 + 1, 1, none⟩ = false := fun g => (g.frozen Y2).trans (by subst hW0; simp [go_sem])
    clear Y2
    clear hW0
    obtain ⟨g0, hg0⟩ : ∃ g : Grown W0, W0 = g.w := ⟨⟨W0, Below.refl _ _⟩, rfl⟩
    rw [hg0]
    clear hg0
    refine (r2ent_no a b _ h1'.out).mono ?_
    rintro e1 w1 ⟨rfl, hB1⟩
    obtain ⟨g1, rfl⟩ := grow g0 hB1
    clear hB1
    go_wp2_with (fail)
    refine (r2ent_yes _).mono ?_
    rintro e2 w2 ⟨rfl, hB2⟩
    obtain ⟨g2, rfl⟩ := grow g1 hB2
    clear hB2
    go_wp2_with (fail)
    refine (r2entire _).mono ?_
    rintro e3 w3 ⟨rfl, hB3⟩
    obtain ⟨g3, rfl⟩ := grow g2 hB3
    clear hB3
    go_wp2_with (fail)
    have hB : Below w.heap.size w g3.w := below_then hT0 g3.h
    refine bodyPost_ret (v := .agg #[.int .i64 (-2147483648), .int .i64 2147483648]) (by simp [results, Tryz.results63, go_sem, F20, F21]) rfl ⟨rfl, ?_⟩
    go_grown
  by_cases h3 : c ≤ 0 ∧ 0 ≤ d
  · rw [if_pos (.inr h3), if_pos (.inr h3)]
    have h1' := Lib.hid h1
    have h2' := Lib.hid h2
    obtain ⟨z1, z2⟩ := h3
    clear h1 h2 hv hw
    go_enter Tryz.func63, Tryz.ntmps63
    go_wp2_with (fail)
    generalize hW0 : World.alloc (World.alloc (World.alloc w _) _) _ = W0
    have hT0 : Below w.heap.size w W0 := by subst hW0; exact ((((Below.refl w.heap.size w).alloc (by go_size) _).alloc (by go_size) _).alloc (by go_size) _)
    have S0 : ∀ g : Grown W0, w.heap.size < g.w.heap.size := fun g => Nat.lt_of_lt_of_le (by subst hW0; simp <;> omega) g.h.size
    have Y0 : w.heap.size < W0.heap.size := by subst hW0; simp <;> omega
    have F00 : ∀ g : Grown W0, g.w.cell? ⟨w.heap.size, 0, none⟩ = some (.int .i64 a) := fun g => (g.cell Y0).trans (by subst hW0; simp [go_sem])
    have H00 : ∀ g : Grown W0, g.w.frozen? ⟨w.heap.size, 0, none⟩ = false := fun g => (g.frozen Y0).trans (by subst hW0; simp [go_sem])
    have F01 : ∀ g : Grown W0, g.w.cell? ⟨w.heap.size, 1, none⟩ = some (.int .i64 b) := fun g => (g.cell Y0).trans (by subst hW0; simp [go_sem])
    have H01 : ∀ g : Grown W0, g.w.frozen? ⟨w.heap.size, 1, none⟩ = false := fun g => (g.frozen Y0).trans (by subst hW0; simp [go_sem])
    clear Y0
    have S1 : ∀ g : Grown W0, w.heap.size + 1 < g.w.heap.size := fun g => Nat.lt_of_lt_of_le (by subst hW0; simp <;> omega) g.h.size
    have Y1 : w.heap.size + 1 < W0.heap.size := by subst hW0; simp <;> omega
    have F10 : ∀ g : Grown W0, g.w.cell? ⟨w.heap.size + 1, 0, none⟩ = some (.int .i64 c) := fun g => (g.cell Y1).trans (by subst hW0; simp [go_sem])
    have H10 : ∀ g : Grown W0, g.w.frozen? ⟨w.heap.size + 1, 0, none⟩ = false := fun g => (g.frozen Y1).trans (by subst hW0; simp [go_sem])
    have F11 : ∀ g : Grown W0, g.w.cell? ⟨w.heap.size + 1, 1, none⟩ = some (.int .i64 d) := fun g => (g.cell Y1).trans (by subst hW0; simp [go_sem])
    have H11 : ∀ g : Grown W0, g.w.frozen? ⟨w.heap.size + 1, 1, none⟩ = false := fun g => (g.frozen Y1).trans (by subst hW0; simp [go_sem])
    clear Y1
    have S2 : ∀ g : Grown W0, w.heap.size + 1 + 1 < g.w.heap.size := fun g => Nat.lt_of_lt_of_le (by subst hW0; simp <;> omega) g.h.size
    have Y2 : w.heap.size + 1 + 1 < W0.heap.size := by subst hW0; simp <;> omega
    have F20 : ∀ g : Grown W0, g.w.cell? ⟨w.heap.size + 1 + 1, 0, none⟩ = some (.int .i64 0) := fun g => (g.cell Y2).trans (by subst hW0; simp [go_sem])
    have H20 : ∀ g : Grown W0, g.w.frozen? ⟨w.heap.size + 1 + 1, 0, none⟩ = false := fun g => (g.frozen Y2).trans (by subst hW0; simp [go_sem])
    have F21 : ∀ g : Grown W0, g.w.cell? ⟨w.heap.size + 1 + 1, 1, none⟩ = some (.int .i64 0) := fun g => (g.cell Y2).trans (by subst hW0; simp [go_sem])
    have H21 : ∀ g : Grown W0, g.w.frozen? ⟨w.heap.size + 1 + 1, 1, none⟩ = false := fun g => (g.frozen Y2).trans (by subst hW0; simp [go_sem])
    clear Y2
    clear hW0
    obtain ⟨g0, hg0⟩ : ∃ g : Grown W0, W0 = g.w := ⟨⟨W0, Below.refl _ _⟩, rfl⟩
    rw [hg0]
    clear hg0
    refine (r2ent_no a b _ h1'.out).mono ?_
    rintro e1 w1 ⟨rfl, hB1⟩
    obtain ⟨g1, rfl⟩ := grow g0 hB1
    clear hB1
    go_wp2_with (fail)
    refine (r2ent_no c d _ h2'.out).mono ?_
    rintro e2 w2 ⟨rfl, hB2⟩
    obtain ⟨g2, rfl⟩ := grow g1 hB2
    clear hB2
    go_wp2_with (fail)
    refine (r2entire _).mono ?_
    rintro e3 w3 ⟨rfl, hB3⟩
    obtain ⟨g3, rfl⟩ := grow g2 hB3
    clear hB3
    go_wp2_with (fail)
    have hB : Below w.heap.size w g3.w := below_then hT0 g3.h
    refine bodyPost_ret (v := .agg #[.int .i64 (-2147483648), .int .i64 2147483648]) (by simp [results, Tryz.results63, go_sem, F20, F21]) rfl ⟨rfl, ?_⟩
    go_grown
  · rw [if_neg (by intro h; rcases h with h | h; exact h1 h; exact h3 h), if_neg (by intro h; rcases h with h | h; exact h1 h; exact h3 h)]
    obtain ⟨ha1, ha2, hb1, hb2, hab⟩ := hv.bd
    obtain ⟨hc1, hc2, hd1, hd2, hcd⟩ := hw.bd
    have h1' := Lib.hid h1
    have h2' := Lib.hid h2
    have hc0 : ¬ c = 0 := by omega
    have hd0 : ¬ d = 0 := by omega
    have f0 : -4611686018427387904 ≤ a * 65536 := by omega
    have e0 : a * 65536 ≤ 4611686018427387904 := by omega
    have f1 : -4611686018427387904 ≤ b * 65536 := by omega
    have e1 : b * 65536 ≤ 4611686018427387904 := by omega
    have w00 := dn_within2 (n := -(a * 65536)) (d := c) (B := 4611686018427387904) (by omega) (by omega) (by omega) (by omega)
    have k00 := Lib.hid (fun w => r2floor (a * 65536) c w (by omega) (by omega) (by omega))
    have j00 := Lib.hid (fun w => r2ceil (a * 65536) c w (by omega) (by omega) (by omega) (by omega))
    have w01 := dn_within2 (n := -(a * 65536)) (d := d) (B := 4611686018427387904) (by omega) (by omega) (by omega) (by omega)
    have k01 := Lib.hid (fun w => r2floor (a * 65536) d w (by omega) (by omega) (by omega))
    have j01 := Lib.hid (fun w => r2ceil (a * 65536) d w (by omega) (by omega) (by omega) (by omega))
    have w10 := dn_within2 (n := -(b * 65536)) (d := c) (B := 4611686018427387904) (by omega) (by omega) (by omega) (by omega)
    have k10 := Lib.hid (fun w => r2floor (b * 65536) c w (by omega) (by omega) (by omega))
    have j10 := Lib.hid (fun w => r2ceil (b * 65536) c w (by omega) (by omega) (by omega) (by omega))
    have w11 := dn_within2 (n := -(b * 65536)) (d := d) (B := 4611686018427387904) (by omega) (by omega) (by omega) (by omega)
    have k11 := Lib.hid (fun w => r2floor (b * 65536) d w (by omega) (by omega) (by omega))
    have j11 := Lib.hid (fun w => r2ceil (b * 65536) d w (by omega) (by omega) (by omega) (by omega))
    obtain ⟨l, hl⟩ : ∃ l, dv1 a b c d = l := ⟨_, rfl⟩
    obtain ⟨h, hh⟩ : ∃ h, dv2 a b c d = h := ⟨_, rfl⟩
    rw [hl, hh]
    unfold dv1 at hl
    unfold dv2 at hh
    have c3 := fun w => r2new l h w
    generalize mkLo _ _ = x at *
    generalize mkHi _ _ = y at *
    generalize dn (a * 65536) c = q00 at *
    generalize up (a * 65536) c = z00 at *
    clear w00
    have q00b : Hid True := trivial
    generalize dn (a * 65536) d = q01 at *
    generalize up (a * 65536) d = z01 at *
    clear w01
    have q01b : Hid True := trivial
    generalize dn (b * 65536) c = q10 at *
    generalize up (b * 65536) c = z10 at *
    clear w10
    have q10b : Hid True := trivial
    generalize dn (b * 65536) d = q11 at *
    generalize up (b * 65536) d = z11 at *
    clear w11
    have q11b : Hid True := trivial
    have hm1 := Lib.hid hl
    have hm2 := Lib.hid hh
    have h3' : (decide (c ≤ 0) && decide (0 ≤ d)) = false := by simp; omega
    have G : 0 < c ∨ (c ≤ 0 ∧ d < 0) := by omega
    clear hl hh h1 h2 h3 hv hw hcd hab hc0 hd0
    rcases G with G | ⟨Gc, G⟩
    all_goals clear h3'
    all_goals
      go_enter Tryz.func63, Tryz.ntmps63
      go_wp2_with (fail)
      generalize hW0 : World.alloc (World.alloc (World.alloc w _) _) _ = W0
      have hT0 : Below w.heap.size w W0 := by subst hW0; exact ((((Below.refl w.heap.size w).alloc (by go_size) _).alloc (by go_size) _).alloc (by go_size) _)
      have Y0 : w.heap.size < W0.heap.size := by subst hW0; simp <;> omega
      have S0 : ∀ g : Grown W0, w.heap.size < g.w.heap.size := fun g => Nat.lt_of_lt_of_le Y0 g.h.size
      have F0_0 : ∀ g : Grown W0, g.w.cell? ⟨w.heap.size, 0, none⟩ = some (.int .i64 a) := fun g => (g.cell Y0).trans (by subst hW0; simp [go_sem])
      have H0_0 : ∀ g : Grown W0, g.w.frozen? ⟨w.heap.size, 0, none⟩ = false := fun g => (g.frozen Y0).trans (by subst hW0; simp [go_sem])
      have F0_1 : ∀ g : Grown W0, g.w.cell? ⟨w.heap.size, 1, none⟩ = some (.int .i64 b) := fun g => (g.cell Y0).trans (by subst hW0; simp [go_sem])
      have H0_1 : ∀ g : Grown W0, g.w.frozen? ⟨w.heap.size, 1, none⟩ = false := fun g => (g.frozen Y0).trans (by subst hW0; simp [go_sem])
      clear Y0
      have Y1 : w.heap.size + 1 < W0.heap.size := by subst hW0; simp <;> omega
      have S1 : ∀ g : Grown W0, w.heap.size + 1 < g.w.heap.size := fun g => Nat.lt_of_lt_of_le Y1 g.h.size
      have F1_0 : ∀ g : Grown W0, g.w.cell? ⟨w.heap.size + 1, 0, none⟩ = some (.int .i64 c) := fun g => (g.cell Y1).trans (by subst hW0; simp [go_sem])
      have H1_0 : ∀ g : Grown W0, g.w.frozen? ⟨w.heap.size + 1, 0, none⟩ = false := fun g => (g.frozen Y1).trans (by subst hW0; simp [go_sem])
      have F1_1 : ∀ g : Grown W0, g.w.cell? ⟨w.heap.size + 1, 1, none⟩ = some (.int .i64 d) := fun g => (g.cell Y1).trans (by subst hW0; simp [go_sem])
      have H1_1 : ∀ g : Grown W0, g.w.frozen? ⟨w.heap.size + 1, 1, none⟩ = false := fun g => (g.frozen Y1).trans (by subst hW0; simp [go_sem])
      clear Y1
      have Y2 : w.heap.size + 1 + 1 < W0.heap.size := by subst hW0; simp <;> omega
      have S2 : ∀ g : Grown W0, w.heap.size + 1 + 1 < g.w.heap.size := fun g => Nat.lt_of_lt_of_le Y2 g.h.size
      have F2_0 : ∀ g : Grown W0, g.w.cell? ⟨w.heap.size + 1 + 1, 0, none⟩ = some (.int .i64 0) := fun g => (g.cell Y2).trans (by subst hW0; simp [go_sem])
      have H2_0 : ∀ g : Grown W0, g.w.frozen? ⟨w.heap.size + 1 + 1, 0, none⟩ = false := fun g => (g.frozen Y2).trans (by subst hW0; simp [go_sem])
      have F2_1 : ∀ g : Grown W0, g.w.cell? ⟨w.heap.size + 1 + 1, 1, none⟩ = some (.int .i64 0) := fun g => (g.cell Y2).trans (by subst hW0; simp [go_sem])
      have H2_1 : ∀ g : Grown W0, g.w.frozen? ⟨w.heap.size + 1 + 1, 1, none⟩ = false := fun g => (g.frozen Y2).trans (by subst hW0; simp [go_sem])
      clear Y2
      clear hW0
      obtain ⟨g0, hg0⟩ : ∃ g : Grown W0, W0 = g.w := ⟨⟨W0, Below.refl _ _⟩, rfl⟩
      rw [hg0]
      clear hg0
      refine (r2ent_no a b _ h1'.out).mono ?_
      rintro e1 w1 ⟨rfl, hB1⟩
      obtain ⟨g1, rfl⟩ := grow g0 hB1
      clear hB1
      go_wp2_with (fail)
      refine (r2ent_no c d _ h2'.out).mono ?_
      rintro e2 w2 ⟨rfl, hB2⟩
      obtain ⟨g2, rfl⟩ := grow g1 hB2
      clear hB2
      go_wp2_with (fail)
      refine region_pred (lk [(28, fun u _ => u = .pointer (some ⟨w.heap.size, 0, none⟩)), (29, fun u _ => u = .int .i64 a), (30, fun u _ => u = .pointer (some ⟨w.heap.size, 1, none⟩)), (31, fun u _ => u = .int .i64 b), (32, fun u w' => ∃ X, u = .slice (some ⟨X, 0, none⟩) 2 2 ∧ g2.w.heap.size ≤ X ∧ w'.heap[X]? = some (.cells #[.int .i64 a, .int .i64 b] 2 (0, 0))), (33, fun u _ => u = .pointer (some ⟨w.heap.size + 1, 0, none⟩)), (34, fun u _ => u = .int .i64 c), (35, fun u _ => u = .pointer (some ⟨w.heap.size + 1, 1, none⟩)), (36, fun u _ => u = .int .i64 d), (37, fun u w' => ∃ X, u = .slice (some ⟨X, 0, none⟩) 2 2 ∧ g2.w.heap.size ≤ X ∧ w'.heap[X]? = some (.cells #[.int .i64 c, .int .i64 d] 2 (0, 0))), (5, fun u w' => ∃ X, u = .slice (some ⟨X, 0, none⟩) 2 2 ∧ g2.w.heap.size ≤ X ∧ w'.heap[X]? = some (.cells #[.int .i64 a, .int .i64 b] 2 (0, 0))), (6, fun u w' => ∃ X, u = .slice (some ⟨X, 0, none⟩) 2 2 ∧ g2.w.heap.size ≤ X ∧ w'.heap[X]? = some (.cells #[.int .i64 c, .int .i64 d] 2 (0, 0)))]) (by kernel_rfl) (by kernel_rfl) (lk_steady _ ⟨steady_eq _, steady_eq _, steady_eq _, steady_eq _, steady_row, steady_eq _, steady_eq _, steady_eq _, steady_eq _, steady_row, steady_row, steady_row, trivial⟩) ?_ ?_
      · refine ⟨?_, ?_, ?_, ?_, ?_, ?_, ?_, ?_, ?_, ?_, ?_, ?_, trivial⟩
        · refine ob_plain [2] rfl rfl fun aa g h => ?_
          have e5 := getD_of (seen_out (v := .pointer (some ⟨w.heap.size, 0, none⟩)) rfl rfl h.1)
          simp [uponP, meets, lk, go_sem, e5]
          exact Below.refl _ _
        · refine ob_plain [28] rfl rfl fun aa g h => ?_
          obtain ⟨_, r5, rfl⟩ := seen_in rfl h.1
          have e5 := getD_of r5
          have hc := F0_0 (upg g2 g)
          dsimp only [upg] at hc
          simp [uponP, meets, lk, go_sem, e5, r5, hc]
          exact Below.refl _ _
        · refine ob_plain [2] rfl rfl fun aa g h => ?_
          have e5 := getD_of (seen_out (v := .pointer (some ⟨w.heap.size, 0, none⟩)) rfl rfl h.1)
          simp [uponP, meets, lk, go_sem, e5]
          exact Below.refl _ _
        · refine ob_plain [30] rfl rfl fun aa g h => ?_
          obtain ⟨_, r5, rfl⟩ := seen_in rfl h.1
          have e5 := getD_of r5
          have hc := F0_1 (upg g2 g)
          dsimp only [upg] at hc
          simp [uponP, meets, lk, go_sem, e5, r5, hc]
          exact Below.refl _ _
        · refine ob_plain [29, 31] rfl rfl fun aa g h => ?_
          obtain ⟨_, r5, rfl⟩ := seen_in rfl h.1
          obtain ⟨_, r6, rfl⟩ := seen_in rfl h.2.1
          have e5 := getD_of r5
          have e6 := getD_of r6
          simp [uponP, meets, lk, go_sem, e5, r5, e6, r6]
          exact ⟨(Below.refl _ _).alloc (Nat.le_refl _) _, g.h.size, Option.some.inj ((Array.getElem?_eq_getElem _).symm.trans (World.alloc_heap_new _ _))⟩
        · refine ob_plain [3] rfl rfl fun aa g h => ?_
          have e5 := getD_of (seen_out (v := .pointer (some ⟨w.heap.size + 1, 0, none⟩)) rfl rfl h.1)
          simp [uponP, meets, lk, go_sem, e5]
          exact Below.refl _ _
        · refine ob_plain [33] rfl rfl fun aa g h => ?_
          obtain ⟨_, r5, rfl⟩ := seen_in rfl h.1
          have e5 := getD_of r5
          have hc := F1_0 (upg g2 g)
          dsimp only [upg] at hc
          simp [uponP, meets, lk, go_sem, e5, r5, hc]
          exact Below.refl _ _
        · refine ob_plain [3] rfl rfl fun aa g h => ?_
          have e5 := getD_of (seen_out (v := .pointer (some ⟨w.heap.size + 1, 0, none⟩)) rfl rfl h.1)
          simp [uponP, meets, lk, go_sem, e5]
          exact Below.refl _ _
        · refine ob_plain [35] rfl rfl fun aa g h => ?_
          obtain ⟨_, r5, rfl⟩ := seen_in rfl h.1
          have e5 := getD_of r5
          have hc := F1_1 (upg g2 g)
          dsimp only [upg] at hc
          simp [uponP, meets, lk, go_sem, e5, r5, hc]
          exact Below.refl _ _
        · refine ob_plain [34, 36] rfl rfl fun aa g h => ?_
          obtain ⟨_, r5, rfl⟩ := seen_in rfl h.1
          obtain ⟨_, r6, rfl⟩ := seen_in rfl h.2.1
          have e5 := getD_of r5
          have e6 := getD_of r6
          simp [uponP, meets, lk, go_sem, e5, r5, e6, r6]
          exact ⟨(Below.refl _ _).alloc (Nat.le_refl _) _, g.h.size, Option.some.inj ((Array.getElem?_eq_getElem _).symm.trans (World.alloc_heap_new _ _))⟩
        · refine ob_plain [32] rfl rfl fun aa g h => ?_
          obtain ⟨_, r5, ⟨X, rfl, hX1, hX2⟩⟩ := seen_in rfl h.1
          have e5 := getD_of r5
          simp [uponP, meets, lk, go_sem, e5, r5]
          exact ⟨Below.refl _ _, hX1, hX2⟩
        · refine ob_plain [37] rfl rfl fun aa g h => ?_
          obtain ⟨_, r5, ⟨X, rfl, hX1, hX2⟩⟩ := seen_in rfl h.1
          have e5 := getD_of r5
          simp [uponP, meets, lk, go_sem, e5, r5]
          exact ⟨Below.refl _ _, hX1, hX2⟩
      · intro W1 hL1
        rintro _ rfl _ rfl _ rfl _ rfl _ ⟨X', rfl, p1, p2⟩ _ rfl _ rfl _ rfl _ rfl _ ⟨Y', rfl, p3, p4⟩ _ ⟨X, rfl, hX0, hX⟩ _ ⟨Y, rfl, hY0, hY⟩
        clear p1 p2 p3 p4
        refine finP_nil ?_
        simp only [Act.put, List.setIfInBounds_toArray, List.set_cons_succ, List.set_cons_zero, finP]
        have hT1 : Below w.heap.size w W1 := below_then (below_then hT0 g2.h) hL1
        have s0 := S0 g2
        have Y0 : w.heap.size < W1.heap.size := Nat.lt_of_lt_of_le s0 hL1.size
        have c0_0 := F0_0 g2
        have d0_0 := H0_0 g2
        have c0_1 := F0_1 g2
        have d0_1 := H0_1 g2
        clear S0 F0_0 H0_0 F0_1 H0_1
        have S0 : ∀ g : Grown W1, w.heap.size < g.w.heap.size := fun g => Nat.lt_of_lt_of_le Y0 g.h.size
        have F0_0 : ∀ g : Grown W1, g.w.cell? ⟨w.heap.size, 0, none⟩ = some (.int .i64 a) := fun g => (g.cell Y0).trans ((Below.cell hL1 (p := ⟨w.heap.size, 0, none⟩) s0).trans c0_0)
        have H0_0 : ∀ g : Grown W1, g.w.frozen? ⟨w.heap.size, 0, none⟩ = false := fun g => (g.frozen Y0).trans ((Below.frozen hL1 (p := ⟨w.heap.size, 0, none⟩) s0).trans d0_0)
        have F0_1 : ∀ g : Grown W1, g.w.cell? ⟨w.heap.size, 1, none⟩ = some (.int .i64 b) := fun g => (g.cell Y0).trans ((Below.cell hL1 (p := ⟨w.heap.size, 1, none⟩) s0).trans c0_1)
        have H0_1 : ∀ g : Grown W1, g.w.frozen? ⟨w.heap.size, 1, none⟩ = false := fun g => (g.frozen Y0).trans ((Below.frozen hL1 (p := ⟨w.heap.size, 1, none⟩) s0).trans d0_1)
        clear Y0 s0 c0_0 d0_0 c0_1 d0_1
        have s1 := S1 g2
        have Y1 : w.heap.size + 1 < W1.heap.size := Nat.lt_of_lt_of_le s1 hL1.size
        have c1_0 := F1_0 g2
        have d1_0 := H1_0 g2
        have c1_1 := F1_1 g2
        have d1_1 := H1_1 g2
        clear S1 F1_0 H1_0 F1_1 H1_1
        have S1 : ∀ g : Grown W1, w.heap.size + 1 < g.w.heap.size := fun g => Nat.lt_of_lt_of_le Y1 g.h.size
        have F1_0 : ∀ g : Grown W1, g.w.cell? ⟨w.heap.size + 1, 0, none⟩ = some (.int .i64 c) := fun g => (g.cell Y1).trans ((Below.cell hL1 (p := ⟨w.heap.size + 1, 0, none⟩) s1).trans c1_0)
        have H1_0 : ∀ g : Grown W1, g.w.frozen? ⟨w.heap.size + 1, 0, none⟩ = false := fun g => (g.frozen Y1).trans ((Below.frozen hL1 (p := ⟨w.heap.size + 1, 0, none⟩) s1).trans d1_0)
        have F1_1 : ∀ g : Grown W1, g.w.cell? ⟨w.heap.size + 1, 1, none⟩ = some (.int .i64 d) := fun g => (g.cell Y1).trans ((Below.cell hL1 (p := ⟨w.heap.size + 1, 1, none⟩) s1).trans c1_1)
        have H1_1 : ∀ g : Grown W1, g.w.frozen? ⟨w.heap.size + 1, 1, none⟩ = false := fun g => (g.frozen Y1).trans ((Below.frozen hL1 (p := ⟨w.heap.size + 1, 1, none⟩) s1).trans d1_1)
        clear Y1 s1 c1_0 d1_0 c1_1 d1_1
        have s2 := S2 g2
        have Y2 : w.heap.size + 1 + 1 < W1.heap.size := Nat.lt_of_lt_of_le s2 hL1.size
        have c2_0 := F2_0 g2
        have d2_0 := H2_0 g2
        have c2_1 := F2_1 g2
        have d2_1 := H2_1 g2
        clear S2 F2_0 H2_0 F2_1 H2_1
        have S2 : ∀ g : Grown W1, w.heap.size + 1 + 1 < g.w.heap.size := fun g => Nat.lt_of_lt_of_le Y2 g.h.size
        have F2_0 : ∀ g : Grown W1, g.w.cell? ⟨w.heap.size + 1 + 1, 0, none⟩ = some (.int .i64 0) := fun g => (g.cell Y2).trans ((Below.cell hL1 (p := ⟨w.heap.size + 1 + 1, 0, none⟩) s2).trans c2_0)
        have H2_0 : ∀ g : Grown W1, g.w.frozen? ⟨w.heap.size + 1 + 1, 0, none⟩ = false := fun g => (g.frozen Y2).trans ((Below.frozen hL1 (p := ⟨w.heap.size + 1 + 1, 0, none⟩) s2).trans d2_0)
        have F2_1 : ∀ g : Grown W1, g.w.cell? ⟨w.heap.size + 1 + 1, 1, none⟩ = some (.int .i64 0) := fun g => (g.cell Y2).trans ((Below.cell hL1 (p := ⟨w.heap.size + 1 + 1, 1, none⟩) s2).trans c2_1)
        have H2_1 : ∀ g : Grown W1, g.w.frozen? ⟨w.heap.size + 1 + 1, 1, none⟩ = false := fun g => (g.frozen Y2).trans ((Below.frozen hL1 (p := ⟨w.heap.size + 1 + 1, 1, none⟩) s2).trans d2_1)
        clear Y2 s2 c2_0 d2_0 c2_1 d2_1
        have Y3 : X < W1.heap.size := (Array.getElem?_eq_some_iff.1 hX).1
        have S3 : ∀ g : Grown W1, X < g.w.heap.size := fun g => Nat.lt_of_lt_of_le Y3 g.h.size
        have F3_0 : ∀ g : Grown W1, g.w.cell? ⟨X, 0, none⟩ = some (.int .i64 a) := fun g => (g.cell Y3).trans (by simp [World.cell?, hX])
        have F3_1 : ∀ g : Grown W1, g.w.cell? ⟨X, 1, none⟩ = some (.int .i64 b) := fun g => (g.cell Y3).trans (by simp [World.cell?, hX])
        clear Y3
        have Y4 : Y < W1.heap.size := (Array.getElem?_eq_some_iff.1 hY).1
        have S4 : ∀ g : Grown W1, Y < g.w.heap.size := fun g => Nat.lt_of_lt_of_le Y4 g.h.size
        have F4_0 : ∀ g : Grown W1, g.w.cell? ⟨Y, 0, none⟩ = some (.int .i64 c) := fun g => (g.cell Y4).trans (by simp [World.cell?, hY])
        have F4_1 : ∀ g : Grown W1, g.w.cell? ⟨Y, 1, none⟩ = some (.int .i64 d) := fun g => (g.cell Y4).trans (by simp [World.cell?, hY])
        clear Y4
        clear hX hY hX0 hY0 hT0 hL1
        obtain ⟨h1, hg1⟩ : ∃ g : Grown W1, W1 = g.w := ⟨⟨W1, Below.refl _ _⟩, rfl⟩
        rw [hg1]
        clear hg1 g2
        go_wp2_with (fail)
        refine region_quiet' h1 (by kernel_rfl) (by kernel_rfl) ?_
        repeat (go_big_quiet_step (first | exact qs (k00.out _) | exact qs (k01.out _) | exact qs (k10.out _) | exact qs (k11.out _) | exact qs (j00.out _) | exact qs (j01.out _) | exact qs (j10.out _) | exact qs (j11.out _)))
        refine wpQuiet_nil ?_
        rintro _ ⟨g3, rfl⟩
        go_wp2_with (fail)
        go_loopw [7, 8, 9] (fun l h i wr => ∃ (lo hi : Int) (g : Grown W1), l = .int .i64 lo ∧ h = .int .i64 hi ∧ wr = g.w ∧ ((i = .int .i64 0 ∧ Hid (lo = q00 ∧ hi = z00)) ∨ (i = .int .i64 1 ∧ Hid (lo = min q00 q01 ∧ hi = max z00 z01)) ∨ (i = .int .i64 2 ∧ Hid (lo = min (min q00 q01) (min q10 q11) ∧ hi = max (max z00 z01) (max z10 z11))))) (fun l h i _ => (2 - intOf i).toNat)
        case atStart => exact ⟨q00, z00, g3, rfl, rfl, rfl, .inl ⟨rfl, ⟨rfl, rfl⟩⟩⟩
        case round =>
          obtain ⟨lo, hi, gA, rfl, rfl, rfl, (⟨rfl, hI⟩ | ⟨rfl, hI⟩ | ⟨rfl, hI⟩)⟩ := hrel
          · go_wp2_with (fail)
            go_loopw [7, 8, 10] (fun l h k wr => ∃ (lo hi : Int) (g : Grown W1), l = .int .i64 lo ∧ h = .int .i64 hi ∧ wr = g.w ∧ ((k = .int .i64 0 ∧ Hid (lo = q00 ∧ hi = z00)) ∨ (k = .int .i64 1 ∧ Hid (lo = q00 ∧ hi = z00)) ∨ (k = .int .i64 2 ∧ Hid (lo = min q00 q01 ∧ hi = max z00 z01)))) (fun l h k _ => (2 - intOf k).toNat)
            case atStart => exact ⟨lo, hi, gA, rfl, rfl, rfl, .inl ⟨rfl, hI⟩⟩
            case round =>
              clear hI
              obtain ⟨lo, hi, gA, rfl, rfl, rfl, (⟨rfl, hI⟩ | ⟨rfl, hI⟩ | ⟨rfl, hI⟩)⟩ := hrel
              · go_wp2_with (fail)
                refine region_quiet' gA (by kernel_rfl) (by kernel_rfl) ?_
                repeat (go_big_quiet_step (first | exact qs (k00.out _) | exact qs (k01.out _) | exact qs (k10.out _) | exact qs (k11.out _) | exact qs (j00.out _) | exact qs (j01.out _) | exact qs (j10.out _) | exact qs (j11.out _)))
                refine wpQuiet_nil ?_
                rintro _ ⟨g101, rfl⟩
                go_wp2_with (fail)
                refine region_quiet' g101 (by kernel_rfl) (by kernel_rfl) ?_
                repeat (go_big_quiet_step (first | exact qs (k00.out _) | exact qs (k01.out _) | exact qs (k10.out _) | exact qs (k11.out _) | exact qs (j00.out _) | exact qs (j01.out _) | exact qs (j10.out _) | exact qs (j11.out _)))
                refine wpQuiet_nil ?_
                rintro _ ⟨g102, rfl⟩
                go_wp2_with (fail)
                go_roundw
                case rel => exact ⟨_, _, _, rfl, rfl, rfl, .inr (.inl ⟨rfl, by have := hI.out; have := q00b.out; exact ⟨by omega, by omega⟩⟩)⟩
                case measure => simp [intOf]
              · go_wp2_with (fail)
                refine region_quiet' gA (by kernel_rfl) (by kernel_rfl) ?_
                repeat (go_big_quiet_step (first | exact qs (k00.out _) | exact qs (k01.out _) | exact qs (k10.out _) | exact qs (k11.out _) | exact qs (j00.out _) | exact qs (j01.out _) | exact qs (j10.out _) | exact qs (j11.out _)))
                refine wpQuiet_nil ?_
                rintro _ ⟨g102, rfl⟩
                go_wp2_with (fail)
                refine region_quiet' g102 (by kernel_rfl) (by kernel_rfl) ?_
                repeat (go_big_quiet_step (first | exact qs (k00.out _) | exact qs (k01.out _) | exact qs (k10.out _) | exact qs (k11.out _) | exact qs (j00.out _) | exact qs (j01.out _) | exact qs (j10.out _) | exact qs (j11.out _)))
                refine wpQuiet_nil ?_
                rintro _ ⟨g103, rfl⟩
                go_wp2_with (fail)
                go_roundw
                case rel => exact ⟨_, _, _, rfl, rfl, rfl, .inr (.inr ⟨rfl, by have := hI.out; have := q01b.out; exact ⟨by omega, by omega⟩⟩)⟩
                case measure => simp [intOf]
              · go_wp2_with (fail)
                go_roundw
                case rel => exact ⟨_, _, gA, rfl, rfl, rfl, .inr (.inl ⟨rfl, hI⟩)⟩
                case measure => simp [intOf]
          · go_wp2_with (fail)
            go_loopw [7, 8, 10] (fun l h k wr => ∃ (lo hi : Int) (g : Grown W1), l = .int .i64 lo ∧ h = .int .i64 hi ∧ wr = g.w ∧ ((k = .int .i64 0 ∧ Hid (lo = min q00 q01 ∧ hi = max z00 z01)) ∨ (k = .int .i64 1 ∧ Hid (lo = min (min q00 q01) q10 ∧ hi = max (max z00 z01) z10)) ∨ (k = .int .i64 2 ∧ Hid (lo = min (min q00 q01) (min q10 q11) ∧ hi = max (max z00 z01) (max z10 z11))))) (fun l h k _ => (2 - intOf k).toNat)
            case atStart => exact ⟨lo, hi, gA, rfl, rfl, rfl, .inl ⟨rfl, hI⟩⟩
            case round =>
              clear hI
              obtain ⟨lo, hi, gA, rfl, rfl, rfl, (⟨rfl, hI⟩ | ⟨rfl, hI⟩ | ⟨rfl, hI⟩)⟩ := hrel
              · go_wp2_with (fail)
                refine region_quiet' gA (by kernel_rfl) (by kernel_rfl) ?_
                repeat (go_big_quiet_step (first | exact qs (k00.out _) | exact qs (k01.out _) | exact qs (k10.out _) | exact qs (k11.out _) | exact qs (j00.out _) | exact qs (j01.out _) | exact qs (j10.out _) | exact qs (j11.out _)))
                refine wpQuiet_nil ?_
                rintro _ ⟨g111, rfl⟩
                go_wp2_with (fail)
                refine region_quiet' g111 (by kernel_rfl) (by kernel_rfl) ?_
                repeat (go_big_quiet_step (first | exact qs (k00.out _) | exact qs (k01.out _) | exact qs (k10.out _) | exact qs (k11.out _) | exact qs (j00.out _) | exact qs (j01.out _) | exact qs (j10.out _) | exact qs (j11.out _)))
                refine wpQuiet_nil ?_
                rintro _ ⟨g112, rfl⟩
                go_wp2_with (fail)
                go_roundw
                case rel => exact ⟨_, _, _, rfl, rfl, rfl, .inr (.inl ⟨rfl, by have := hI.out; have := q10b.out; exact ⟨by omega, by omega⟩⟩)⟩
                case measure => simp [intOf]
              · go_wp2_with (fail)
                refine region_quiet' gA (by kernel_rfl) (by kernel_rfl) ?_
                repeat (go_big_quiet_step (first | exact qs (k00.out _) | exact qs (k01.out _) | exact qs (k10.out _) | exact qs (k11.out _) | exact qs (j00.out _) | exact qs (j01.out _) | exact qs (j10.out _) | exact qs (j11.out _)))
                refine wpQuiet_nil ?_
                rintro _ ⟨g112, rfl⟩
                go_wp2_with (fail)
                refine region_quiet' g112 (by kernel_rfl) (by kernel_rfl) ?_
                repeat (go_big_quiet_step (first | exact qs (k00.out _) | exact qs (k01.out _) | exact qs (k10.out _) | exact qs (k11.out _) | exact qs (j00.out _) | exact qs (j01.out _) | exact qs (j10.out _) | exact qs (j11.out _)))
                refine wpQuiet_nil ?_
                rintro _ ⟨g113, rfl⟩
                go_wp2_with (fail)
                go_roundw
                case rel => exact ⟨_, _, _, rfl, rfl, rfl, .inr (.inr ⟨rfl, by have := hI.out; have := q11b.out; exact ⟨by omega, by omega⟩⟩)⟩
                case measure => simp [intOf]
              · go_wp2_with (fail)
                go_roundw
                case rel => exact ⟨_, _, gA, rfl, rfl, rfl, .inr (.inr ⟨rfl, hI⟩)⟩
                case measure => simp [intOf]
          · have hlo : lo = l := hI.out.1.trans hm1.out
            have hhi : hi = h := hI.out.2.trans hm2.out
            subst hlo
            subst hhi
            go_wp2_with (fail)
            refine (c3 _).mono ?_
            rintro e201 w201 ⟨rfl, hB201⟩
            obtain ⟨g201, rfl⟩ := grow gA hB201
            clear hB201
            go_wp2_with (fail)
            have hB : Below w.heap.size w g201.w := below_then hT1 g201.h
            refine bodyPost_ret (v := .agg #[.int .i64 x, .int .i64 y]) (by simp [results, Tryz.results63, go_sem, F2_0, F2_1]) rfl ⟨rfl, ?_⟩
            go_grown
end Go.Proofs.YtbppfohcicepcaaGreat
namespace Go.Proofs.YtbppfohcicepcaaGreat
open Go.ChangeShapes Go.WideShapes Go.ChangeAt Go.RowKit
set_option linter.unusedVariables false
set_option maxHeartbeats 1000000 in
theorem r2sub (a b c d : Int) (w : World) (ha1 : -2147483648 ≤ a) (ha2 : a ≤ 2147483648) (hb1 : -2147483648 ≤ b) (hb2 : b ≤ 2147483648) (hc1 : -2147483648 ≤ c) (hc2 : c ≤ 2147483648) (hd1 : -2147483648 ≤ d) (hd2 : d ≤ 2147483648) :
    Calls Tryz.prog 37 #[.agg #[.int .i64 a, .int .i64 b], .agg #[.int .i64 c, .int .i64 d]] w fun e w' => e = .returned (.agg #[.int .i64 (addLo a b (-d) (-c)), .int .i64 (addHi a b (-d) (-c))]) ∧ Below w.heap.size w w' := by
  have c1 := fun w => r2neg c d w hc1 hc2 hd1 hd2
  have c2 := fun w => r2add a b (-d) (-c) w ha1 ha2 hb1 hb2 (by omega) (by omega) (by omega) (by omega)
  generalize addLo a b (-d) (-c) = p at *
  generalize addHi a b (-d) (-c) = q at *
  go_enter Tryz.func37, Tryz.ntmps37
  go_wp2_with (fail)
  go_region_with (first
    | (go_at_call 38; refine (c1 _).mono ?_; rintro e w' ⟨rfl, hB⟩; obtain ⟨kc, kf⟩ := bcell hB; have hz := hB.size; simp only [World.size_alloc, World.size_drew] at hz; have k0 : w.heap.size < w'.heap.size := by omega
       have k1 : w.heap.size + 1 < w'.heap.size := by omega
       have k2 : w.heap.size + 1 + 1 < w'.heap.size := by omega)
    | (go_at_call 36; refine (c2 _).mono ?_; rintro e w'' ⟨rfl, hB2⟩; obtain ⟨kc2, kf2⟩ := bcell hB2))
  all_goals go_wp2_with (fail)
  all_goals
    have q0 := kc2 (w.heap.size + 1 + 1) 0 k2
    have q1 := kc2 (w.heap.size + 1 + 1) 1 k2
    have q2 := kc (w.heap.size + 1 + 1) 0 (by simp)
    have q3 := kc (w.heap.size + 1 + 1) 1 (by simp)
    rw [World.cell?_drew, World.cell?_alloc_at _ _ _ _ (by simp)] at q2 q3
    refine bodyPost_ret (v := .agg #[.int .i64 p, .int .i64 q]) (by simp [results, Tryz.results37, go_sem, q0, q1, q2, q3]) rfl ⟨rfl, ?_⟩
    go_grown
    refine Below.trans (Below.trans ?_ (hB.mono ?_)) (hB2.mono (by omega))
    · go_grown
    · simp only [World.size_alloc, World.size_drew]; omega
end Go.Proofs.YtbppfohcicepcaaGreat
