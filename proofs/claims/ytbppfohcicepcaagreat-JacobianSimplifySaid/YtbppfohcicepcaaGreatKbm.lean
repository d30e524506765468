/-
  Iw10 IvMath U5 U6 U7 R2
-/
import Derived.Test.YtbppfohcicepcaaGreatKba
import Derived.Test.YtbppfohcicepcaaGreatKbb
import Derived.Test.YtbppfohcicepcaaGreatKbe
import Derived.Test.YtbppfohcicepcaaGreatKbh
import Derived.Test.YtbppfohcicepcaaGreatKbi
import Derived.Test.YtbppfohcicepcaaGreatKbk
import Derived.Test.YtbppfohcicepcaaGreatKbl
import Derived.Laws.EntriesVeiled
import Derived.Maps.AppendAt
namespace Go.Proofs.YtbppfohcicepcaaGreat
open Go.ChangeShapes Go.WideShapes Go.ChangeAt Go.RowKit
set_option linter.unusedVariables false
set_option linter.unusedSimpArgs false
set_option maxRecDepth 100000
open Go.BigFrame
attribute [local go_sem ↓] run_max_two run_min_two run_max_three
/-- The squares of an interval: the least and the greatest. -/
def sq1 (a b : Int) : Int := if a ≤ 0 ∧ 0 ≤ b then 0 else min (a * a) (b * b)
def sq2 (a b : Int) : Int := max (a * a) (b * b)
def near (a b : Int) : Int := max a (max (-b) 0)
theorem sq_near {a b : Int} (h : a ≤ b) : near a b * near a b = sq1 a b ∧ max b (-a) * max b (-a) = sq2 a b := by
  have hb : 0 ≤ b → 0 ≤ a → a * a ≤ b * b := fun h1 h2 => sq_le h2 h
  have ha : b ≤ 0 → b * b ≤ a * a := fun h1 => by
    have := sq_le (a := -b) (b := -a) (by omega) (by omega)
    rwa [Int.neg_mul_neg, Int.neg_mul_neg] at this
  have hm : 0 ≤ b → -a ≤ b → a ≤ 0 → a * a ≤ b * b := fun h1 h2 h3 => by
    have := sq_le (a := -a) (b := b) (by omega) h2
    rwa [Int.neg_mul_neg] at this
  have hn : 0 ≤ b → b ≤ -a → b * b ≤ a * a := fun h1 h2 => by
    have := sq_le (a := b) (b := -a) h1 h2
    rwa [Int.neg_mul_neg] at this
  have na : (-a) * (-a) = a * a := Int.neg_mul_neg a a
  have nb : (-b) * (-b) = b * b := Int.neg_mul_neg b b
  unfold near sq1 sq2
  refine ⟨?_, ?_⟩
  · by_cases h1 : 0 < a
    · rw [show max a (max (-b) 0) = a by omega, if_neg (by omega)]
      have := hb (by omega) (by omega)
      omega
    · by_cases h2 : b < 0
      · rw [show max a (max (-b) 0) = -b by omega, if_neg (by omega), nb]
        have := ha (by omega)
        omega
      · rw [show max a (max (-b) 0) = 0 by omega, if_pos (by omega)]; rfl
  · by_cases h1 : -a ≤ b
    · rw [show max b (-a) = b by omega]
      by_cases h2 : a ≤ 0
      · have := hm (by omega) h1 h2
        omega
      · have := hb (by omega) (by omega)
        omega
    · rw [show max b (-a) = -a by omega, na]
      by_cases h2 : 0 ≤ b
      · have := hn h2 (by omega)
        omega
      · have := ha (by omega)
        omega
theorem sq12 (a b : Int) : sq1 a b ≤ sq2 a b := by
  have h1 : 0 ≤ a * a := by
    by_cases h : 0 ≤ a
    · exact Int.mul_nonneg h h
    · have := Int.mul_nonneg (show 0 ≤ -a by omega) (show 0 ≤ -a by omega)
      rwa [Int.neg_mul_neg] at this
  unfold sq1 sq2
  split <;> omega
def sqLo (a b : Int) : Int := if Ent a b then -2147483648 else mkLo (dn (sq1 a b) 65536) (up (sq2 a b) 65536)
def sqHi (a b : Int) : Int := if Ent a b then 2147483648 else mkHi (dn (sq1 a b) 65536) (up (sq2 a b) 65536)

set_option maxHeartbeats 1000000 in
theorem iv_magn (a b : Int) (w : World) (ha1 : -2147483648 ≤ a) (hb2 : b ≤ 2147483648) (hab : a ≤ b) :
    Calls Tryz.prog 116 #[.agg #[.int .i64 a, .int .i64 b]] w fun e w' => e = .returned (.tuple #[.int .i64 (near a b), .int .i64 (max b (-a))]) ∧ Below w.heap.size w w' := by
  have c1 := fun w => iv_mag a b w ⟨by omega, by omega, by omega, by omega⟩
  generalize max b (-a) = m at *
  unfold near
  go_enter Tryz.func116, Tryz.ntmps116
  go_wp2_with (fail)
  generalize hW0 : World.alloc w _ = W0
  have hT0 : Below w.heap.size w W0 := by subst hW0; exact ((Below.refl w.heap.size w).alloc (by go_size) _)
  have S0 : ∀ g : Grown W0, w.heap.size < g.w.heap.size := fun g => Nat.lt_of_lt_of_le (by subst hW0; simp <;> omega) g.h.size
  have Y0 : w.heap.size < W0.heap.size := by subst hW0; simp <;> omega
  have F00 : ∀ g : Grown W0, g.w.cell? ⟨w.heap.size, 0, none⟩ = some (.int .i64 a) := fun g => (g.cell Y0).trans (by subst hW0; simp [go_sem])
  have H00 : ∀ g : Grown W0, g.w.frozen? ⟨w.heap.size, 0, none⟩ = false := fun g => (g.frozen Y0).trans (by subst hW0; simp [go_sem])
  have F01 : ∀ g : Grown W0, g.w.cell? ⟨w.heap.size, 1, none⟩ = some (.int .i64 b) := fun g => (g.cell Y0).trans (by subst hW0; simp [go_sem])
  have H01 : ∀ g : Grown W0, g.w.frozen? ⟨w.heap.size, 1, none⟩ = false := fun g => (g.frozen Y0).trans (by subst hW0; simp [go_sem])
  clear Y0
  clear hW0
  obtain ⟨g0, hg0⟩ : ∃ g : Grown W0, W0 = g.w := ⟨⟨W0, Below.refl _ _⟩, rfl⟩
  rw [hg0]
  clear hg0
  refine region_quiet' g0 (by kernel_rfl) (by kernel_rfl) ?_
  repeat (go_big_quiet_step ((go_at_call 132; exact qc (c1 _))))
  refine wpQuiet_nil ?_
  rintro _ ⟨g1, rfl⟩
  go_wp2_with (fail)
  have hB : Below w.heap.size w g1.w := below_then hT0 g1.h
  go_ret2
  refine ⟨rfl, ?_⟩
  go_grown

set_option maxHeartbeats 4000000 in
theorem iv_square (a b : Int) (w : World) (hv : VI a b) :
    Calls Tryz.prog 84 #[.agg #[.int .i64 a, .int .i64 b]] w fun e w' => e = .returned (.agg #[.int .i64 (sqLo a b), .int .i64 (sqHi a b)]) ∧ Below w.heap.size w w' := by
  unfold sqLo sqHi
  by_cases h1 : Ent a b
  · rw [if_pos h1, if_pos h1]
    obtain ⟨rfl, rfl⟩ := h1
    clear hv
    go_enter Tryz.func84, Tryz.ntmps84
    go_wp2_with (fail)
    generalize hW0 : World.alloc (World.alloc w _) _ = W0
    have hT0 : Below w.heap.size w W0 := by subst hW0; exact (((Below.refl w.heap.size w).alloc (by go_size) _).alloc (by go_size) _)
    have S0 : ∀ g : Grown W0, w.heap.size < g.w.heap.size := fun g => Nat.lt_of_lt_of_le (by subst hW0; simp <;> omega) g.h.size
    have Y0 : w.heap.size < W0.heap.size := by subst hW0; simp <;> omega
    have F00 : ∀ g : Grown W0, g.w.cell? ⟨w.heap.size, 0, none⟩ = some (.int .i64 (-2147483648)) := fun g => (g.cell Y0).trans (by subst hW0; simp [go_sem])
    have H00 : ∀ g : Grown W0, g.w.frozen? ⟨w.heap.size, 0, none⟩ = false := fun g => (g.frozen Y0).trans (by subst hW0; simp [go_sem])
    have F01 : ∀ g : Grown W0, g.w.cell? ⟨w.heap.size, 1, none⟩ = some (.int .i64 2147483648) := fun g => (g.cell Y0).trans (by subst hW0; simp [go_sem])
    have H01 : ∀ g : Grown W0, g.w.frozen? ⟨w.heap.size, 1, none⟩ = false := fun g => (g.frozen Y0).trans (by subst hW0; simp [go_sem])
    clear Y0
    have S1 : ∀ g : Grown W0, w.heap.size + 1 < g.w.heap.size := fun g => Nat.lt_of_lt_of_le (by subst hW0; simp <;> omega) g.h.size
    have Y1 : w.heap.size + 1 < W0.heap.size := by subst hW0; simp <;> omega
    have F10 : ∀ g : Grown W0, g.w.cell? ⟨w.heap.size + 1, 0, none⟩ = some (.int .i64 0) := fun g => (g.cell Y1).trans (by subst hW0; simp [go_sem])
    have H10 : ∀ g : Grown W0, g.w.frozen? ⟨w.heap.size + 1, 0, none⟩ = false := fun g => (g.frozen Y1).trans (by subst hW0; simp [go_sem])
    have F11 : ∀ g : Grown W0, g.w.cell? ⟨w.heap.size + 1, 1, none⟩ = some (.int .i64 0) := fun g => (g.cell Y1).trans (by subst hW0; simp [go_sem])
    have H11 : ∀ g : Grown W0, g.w.frozen? ⟨w.heap.size + 1, 1, none⟩ = false := fun g => (g.frozen Y1).trans (by subst hW0; simp [go_sem])
    clear Y1
    clear hW0
    obtain ⟨g0, hg0⟩ : ∃ g : Grown W0, W0 = g.w := ⟨⟨W0, Below.refl _ _⟩, rfl⟩
    rw [hg0]
    clear hg0
    refine (iv_ent_yes _).mono ?_
    rintro e1 w1 ⟨rfl, hB1⟩
    obtain ⟨g1, rfl⟩ := grow g0 hB1
    clear hB1
    go_wp2_with (fail)
    refine (iv_entire _).mono ?_
    rintro e2 w2 ⟨rfl, hB2⟩
    obtain ⟨g2, rfl⟩ := grow g1 hB2
    clear hB2
    go_wp2_with (fail)
    have hB : Below w.heap.size w g2.w := below_then hT0 g2.h
    refine bodyPost_ret (v := .agg #[.int .i64 (-2147483648), .int .i64 2147483648]) (by simp [results, Tryz.results84, go_sem, F10, F11]) rfl ⟨rfl, ?_⟩
    go_grown
  · rw [if_neg h1, if_neg h1]
    have h1' := Lib.hid h1
    obtain ⟨ha1, ha2, hb1, hb2, hab⟩ := hv.bd
    obtain ⟨k1, k2⟩ := sq_near hab
    have c1 := fun w => iv_magn a b w ha1 hb2 hab
    have c2 := fun w => mul_any (near a b) (near a b) w (by unfold near; omega) (by unfold near; omega) (by unfold near; omega) (by unfold near; omega)
    have c3 := fun w => mul_any (max b (-a)) (max b (-a)) w (by omega) (by omega) (by omega) (by omega)
    rw [k1] at c2
    rw [k2] at c3
    have c4 := fun w => iv_new (dn (sq1 a b) 65536) (up (sq2 a b) 65536) w (Int.le_trans (dn_mono (by decide) (sq12 a b)) (up_dn _ (by decide)).1)
    clear k1 k2 h1 hv
    generalize mkLo _ _ = x at *
    generalize mkHi _ _ = y at *
    generalize dn (sq1 a b) 65536 = m1 at *
    generalize up (sq1 a b) 65536 = m2 at *
    generalize dn (sq2 a b) 65536 = m3 at *
    generalize up (sq2 a b) 65536 = m4 at *
    generalize near a b = m5 at *
    generalize max b (-a) = m6 at *
    go_enter Tryz.func84, Tryz.ntmps84
    go_wp2_with (fail)
    generalize hW0 : World.alloc (World.alloc w _) _ = W0
    have hT0 : Below w.heap.size w W0 := by subst hW0; exact (((Below.refl w.heap.size w).alloc (by go_size) _).alloc (by go_size) _)
    have S0 : ∀ g : Grown W0, w.heap.size < g.w.heap.size := fun g => Nat.lt_of_lt_of_le (by subst hW0; simp <;> omega) g.h.size
    have Y0 : w.heap.size < W0.heap.size := by subst hW0; simp <;> omega
    have F00 : ∀ g : Grown W0, g.w.cell? ⟨w.heap.size, 0, none⟩ = some (.int .i64 a) := fun g => (g.cell Y0).trans (by subst hW0; simp [go_sem])
    have H00 : ∀ g : Grown W0, g.w.frozen? ⟨w.heap.size, 0, none⟩ = false := fun g => (g.frozen Y0).trans (by subst hW0; simp [go_sem])
    have F01 : ∀ g : Grown W0, g.w.cell? ⟨w.heap.size, 1, none⟩ = some (.int .i64 b) := fun g => (g.cell Y0).trans (by subst hW0; simp [go_sem])
    have H01 : ∀ g : Grown W0, g.w.frozen? ⟨w.heap.size, 1, none⟩ = false := fun g => (g.frozen Y0).trans (by subst hW0; simp [go_sem])
    clear Y0
    have S1 : ∀ g : Grown W0, w.heap.size + 1 < g.w.heap.size := fun g => Nat.lt_of_lt_of_le (by subst hW0; simp <;> omega) g.h.size
    have Y1 : w.heap.size + 1 < W0.heap.size := by subst hW0; simp <;> omega
    have F10 : ∀ g : Grown W0, g.w.cell? ⟨w.heap.size + 1, 0, none⟩ = some (.int .i64 0) := fun g => (g.cell Y1).trans (by subst hW0; simp [go_sem])
    have H10 : ∀ g : Grown W0, g.w.frozen? ⟨w.heap.size + 1, 0, none⟩ = false := fun g => (g.frozen Y1).trans (by subst hW0; simp [go_sem])
    have F11 : ∀ g : Grown W0, g.w.cell? ⟨w.heap.size + 1, 1, none⟩ = some (.int .i64 0) := fun g => (g.cell Y1).trans (by subst hW0; simp [go_sem])
    have H11 : ∀ g : Grown W0, g.w.frozen? ⟨w.heap.size + 1, 1, none⟩ = false := fun g => (g.frozen Y1).trans (by subst hW0; simp [go_sem])
    clear Y1
    clear hW0
    obtain ⟨g0, hg0⟩ : ∃ g : Grown W0, W0 = g.w := ⟨⟨W0, Below.refl _ _⟩, rfl⟩
    rw [hg0]
    clear hg0
    refine (iv_ent_no a b _ h1'.out).mono ?_
    rintro e1 w1 ⟨rfl, hB1⟩
    obtain ⟨g1, rfl⟩ := grow g0 hB1
    clear hB1
    go_wp2_with (fail)
    refine (c1 _).mono ?_
    rintro e2 w2 ⟨rfl, hB2⟩
    obtain ⟨g2, rfl⟩ := grow g1 hB2
    clear hB2
    go_wp2_with (fail)
    refine (c2 _).mono ?_
    rintro e3 w3 ⟨rfl, hB3⟩
    obtain ⟨g3, rfl⟩ := grow g2 hB3
    clear hB3
    go_wp2_with (fail)
    refine (c3 _).mono ?_
    rintro e4 w4 ⟨rfl, hB4⟩
    obtain ⟨g4, rfl⟩ := grow g3 hB4
    clear hB4
    go_wp2_with (fail)
    refine (c4 _).mono ?_
    rintro e5 w5 ⟨rfl, hB5⟩
    obtain ⟨g5, rfl⟩ := grow g4 hB5
    clear hB5
    go_wp2_with (fail)
    have hB : Below w.heap.size w g5.w := below_then hT0 g5.h
    refine bodyPost_ret (v := .agg #[.int .i64 x, .int .i64 y]) (by simp [results, Tryz.results84, go_sem, F10, F11]) rfl ⟨rfl, ?_⟩
    go_grown

def rt1 (a : Int) : Int := isq (max a 0 * 65536)
def rt2 (b : Int) : Int := usq (b * 65536)
theorem rt_le {a b : Int} (h : a ≤ b) (hb : 0 ≤ b) : rt1 a ≤ rt2 b := by
  have h1 := isq_mono (n := max a 0 * 65536) (m := b * 65536) (by omega) (by omega)
  unfold rt1 rt2 usq
  split <;> omega

set_option maxHeartbeats 1000000 in
theorem iv_sqrt_pos (a b : Int) (w : World) (h1 : ¬ Ent a b) (hab : a ≤ b) (hb : 0 ≤ b) (hb2 : b ≤ 2147483648) :
    Calls Tryz.prog 117 #[.agg #[.int .i64 a, .int .i64 b]] w fun e w' => e = .returned (.tuple #[.agg #[.int .i64 (mkLo (rt1 a) (rt2 b)), .int .i64 (mkHi (rt1 a) (rt2 b))], .bool true]) ∧ Below w.heap.size w w' := by
  have h1' := Lib.hid h1
  clear h1
  have c1 := fun w => sqrt_any (max a 0) w (by omega) (by omega)
  have c2 := fun w => sqrt_any b w hb hb2
  have c3 := fun w => iv_new (rt1 a) (rt2 b) w (rt_le hab hb)
  unfold rt1 rt2 at *
  generalize mkLo _ _ = x at *
  generalize mkHi _ _ = y at *
  generalize isq (max a 0 * 65536) = m1 at *
  generalize usq (max a 0 * 65536) = m2 at *
  generalize isq (b * 65536) = m3 at *
  generalize usq (b * 65536) = m4 at *
  go_enter Tryz.func117, Tryz.ntmps117
  go_wp2_with (fail)
  generalize hW0 : World.alloc (World.alloc w _) _ = W0
  have hT0 : Below w.heap.size w W0 := by subst hW0; exact (((Below.refl w.heap.size w).alloc (by go_size) _).alloc (by go_size) _)
  have S0 : ∀ g : Grown W0, w.heap.size < g.w.heap.size := fun g => Nat.lt_of_lt_of_le (by subst hW0; simp <;> omega) g.h.size
  have Y0 : w.heap.size < W0.heap.size := by subst hW0; simp <;> omega
  have F00 : ∀ g : Grown W0, g.w.cell? ⟨w.heap.size, 0, none⟩ = some (.int .i64 a) := fun g => (g.cell Y0).trans (by subst hW0; simp [go_sem])
  have H00 : ∀ g : Grown W0, g.w.frozen? ⟨w.heap.size, 0, none⟩ = false := fun g => (g.frozen Y0).trans (by subst hW0; simp [go_sem])
  have F01 : ∀ g : Grown W0, g.w.cell? ⟨w.heap.size, 1, none⟩ = some (.int .i64 b) := fun g => (g.cell Y0).trans (by subst hW0; simp [go_sem])
  have H01 : ∀ g : Grown W0, g.w.frozen? ⟨w.heap.size, 1, none⟩ = false := fun g => (g.frozen Y0).trans (by subst hW0; simp [go_sem])
  clear Y0
  have S1 : ∀ g : Grown W0, w.heap.size + 1 < g.w.heap.size := fun g => Nat.lt_of_lt_of_le (by subst hW0; simp <;> omega) g.h.size
  have Y1 : w.heap.size + 1 < W0.heap.size := by subst hW0; simp <;> omega
  have F10 : ∀ g : Grown W0, g.w.cell? ⟨w.heap.size + 1, 0, none⟩ = some (.int .i64 0) := fun g => (g.cell Y1).trans (by subst hW0; simp [go_sem])
  have H10 : ∀ g : Grown W0, g.w.frozen? ⟨w.heap.size + 1, 0, none⟩ = false := fun g => (g.frozen Y1).trans (by subst hW0; simp [go_sem])
  have F11 : ∀ g : Grown W0, g.w.cell? ⟨w.heap.size + 1, 1, none⟩ = some (.int .i64 0) := fun g => (g.cell Y1).trans (by subst hW0; simp [go_sem])
  have H11 : ∀ g : Grown W0, g.w.frozen? ⟨w.heap.size + 1, 1, none⟩ = false := fun g => (g.frozen Y1).trans (by subst hW0; simp [go_sem])
  clear Y1
  clear hW0
  obtain ⟨g0, hg0⟩ : ∃ g : Grown W0, W0 = g.w := ⟨⟨W0, Below.refl _ _⟩, rfl⟩
  rw [hg0]
  clear hg0
  refine (iv_ent_no a b _ h1'.out).mono ?_
  rintro e1 w1 ⟨rfl, hB1⟩
  obtain ⟨g1, rfl⟩ := grow g0 hB1
  clear hB1
  go_wp2_with (fail)
  refine (c1 _).mono ?_
  rintro e2 w2 ⟨rfl, rfl⟩
  go_wp2_with (fail)
  refine (c2 _).mono ?_
  rintro e3 w3 ⟨rfl, rfl⟩
  go_wp2_with (fail)
  refine (c3 _).mono ?_
  rintro e4 w4 ⟨rfl, hB4⟩
  obtain ⟨g4, rfl⟩ := grow g1 hB4
  clear hB4
  go_wp2_with (fail)
  have hB : Below w.heap.size w g4.w := below_then hT0 g4.h
  refine bodyPost_ret (v := .tuple #[.agg #[.int .i64 x, .int .i64 y], .bool true]) (by simp [results, Tryz.results117, go_sem, F10, F11]) rfl ⟨rfl, ?_⟩
  go_grown

end Go.Proofs.YtbppfohcicepcaaGreat
namespace Go.Proofs.YtbppfohcicepcaaGreat
set_option linter.unusedVariables false
set_option linter.unusedSimpArgs false
set_option maxRecDepth 100000
/-- Nested ends, rounded or made entire. -/
theorem mk_sub {x y x' y' : Int} (h1 : x' ≤ x) (h2 : x ≤ y) (h3 : y ≤ y') : mkLo x' y' ≤ mkLo x y ∧ mkHi x y ≤ mkHi x' y' := by
  unfold mkLo mkHi Num
  by_cases h : ((-2147483648 < x' ∧ x' < 2147483648) ∧ (-2147483648 < y' ∧ y' < 2147483648))
  · rw [if_pos h, if_pos (by omega), if_pos (by omega), if_pos h]; omega
  · rw [if_neg h, if_neg h]
    split <;> omega
theorem mk_vi {x y : Int} (h : x ≤ y) : VI (mkLo x y) (mkHi x y) := by
  unfold mkLo mkHi VI Ent
  by_cases hc : Num x ∧ Num y
  · rw [if_pos hc, if_pos hc]; exact .inr ⟨hc.1, hc.2, h⟩
  · rw [if_neg hc, if_neg hc]; exact .inl ⟨rfl, rfl⟩
theorem VI.wide {a b : Int} (h : VI a b) : -2147483648 ≤ a ∧ b ≤ 2147483648 := by have := h.bd; omega

theorem mn4_comm (a b c d : Int) : mn4 c d a b = mn4 a b c d ∧ mx4 c d a b = mx4 a b c d := by
  unfold mn4 mx4
  rw [Int.mul_comm c a, Int.mul_comm c b, Int.mul_comm d a, Int.mul_comm d b]
  omega
theorem mul_comm2 (a b c d : Int) : mulLo c d a b = mulLo a b c d ∧ mulHi c d a b = mulHi a b c d := by
  unfold mulLo mulHi
  rw [(mn4_comm a b c d).1, (mn4_comm a b c d).2]
  by_cases h : Ent a b ∨ Ent c d
  · rw [if_pos h, if_pos h.symm, if_pos h, if_pos h.symm]; exact ⟨rfl, rfl⟩
  · rw [if_neg h, if_neg (fun k => h k.symm), if_neg h, if_neg (fun k => h k.symm)]; exact ⟨rfl, rfl⟩
theorem add_comm2 (a b c d : Int) : addLo c d a b = addLo a b c d ∧ addHi c d a b = addHi a b c d := by
  unfold addLo addHi
  rw [Int.add_comm c a, Int.add_comm d b]
  by_cases h : Ent a b ∨ Ent c d
  · rw [if_pos h, if_pos h.symm, if_pos h, if_pos h.symm]; exact ⟨rfl, rfl⟩
  · rw [if_neg h, if_neg (fun k => h k.symm), if_neg h, if_neg (fun k => h k.symm)]; exact ⟨rfl, rfl⟩
theorem mk_self {a b : Int} (h : VI a b) (he : ¬ Ent a b) : mkLo a b = a ∧ mkHi a b = b := by
  have := h.resolve_left he
  unfold mkLo mkHi
  rw [if_pos ⟨this.1, this.2.1⟩, if_pos ⟨this.1, this.2.1⟩]; exact ⟨rfl, rfl⟩
theorem mul_one2 {a b : Int} (h : VI a b) : mulLo a b 65536 65536 = a ∧ mulHi a b 65536 65536 = b := by
  have hab := h.bd
  unfold mulLo mulHi
  by_cases he : Ent a b
  · rw [if_pos (.inl he), if_pos (.inl he)]; exact ⟨he.1.symm, he.2.symm⟩
  · have hn : ¬ (Ent a b ∨ Ent 65536 65536) := fun k => k.elim he (by unfold Ent; omega)
    rw [if_neg hn, if_neg hn]
    have e1 : mn4 a b 65536 65536 = a * 65536 := by unfold mn4; omega
    have e2 : mx4 a b 65536 65536 = b * 65536 := by unfold mx4; omega
    rw [e1, e2, dn_mul_self a (by decide), up_mul_self b (by decide)]
    exact mk_self h he
theorem add_zero2 {a b : Int} (h : VI a b) : addLo a b 0 0 = a ∧ addHi a b 0 0 = b := by
  unfold addLo addHi
  by_cases he : Ent a b
  · rw [if_pos (.inl he), if_pos (.inl he)]; exact ⟨he.1.symm, he.2.symm⟩
  · have hn : ¬ (Ent a b ∨ Ent 0 0) := fun k => k.elim he (by unfold Ent; omega)
    rw [if_neg hn, if_neg hn, Int.add_zero, Int.add_zero]
    exact mk_self h he
theorem sq_nonneg (x : Int) : 0 ≤ x * x := by
  by_cases h : 0 ≤ x
  · exact Int.mul_nonneg h h
  · have := Int.mul_nonneg (show 0 ≤ -x by omega) (show 0 ≤ -x by omega)
    rwa [Int.neg_mul_neg] at this
theorem mul_vi (a b c d : Int) : VI (mulLo a b c d) (mulHi a b c d) := by
  unfold mulLo mulHi
  by_cases h : Ent a b ∨ Ent c d
  · rw [if_pos h, if_pos h]; exact .inl ⟨rfl, rfl⟩
  · rw [if_neg h, if_neg h]; exact mk_vi (dn_up_le (mn_mx a b c d))
theorem div_vi {a b c d : Int} (hcd : c ≤ d) : VI (divLo a b c d) (divHi a b c d) := by
  unfold divLo divHi
  by_cases h : Ent a b ∨ (c ≤ 0 ∧ 0 ≤ d)
  · rw [if_pos h, if_pos h]; exact .inl ⟨rfl, rfl⟩
  · rw [if_neg h, if_neg h]; exact mk_vi (dv_le (by intro hc; exact h (.inr (by omega))))
theorem add_vi {a b c d : Int} (h1 : a ≤ b) (h2 : c ≤ d) : VI (addLo a b c d) (addHi a b c d) := by
  unfold addLo addHi
  by_cases h : Ent a b ∨ Ent c d
  · rw [if_pos h, if_pos h]; exact .inl ⟨rfl, rfl⟩
  · rw [if_neg h, if_neg h]; exact mk_vi (by omega)
theorem sq_vi (a b : Int) : VI (sqLo a b) (sqHi a b) := by
  unfold sqLo sqHi
  by_cases h : Ent a b
  · rw [if_pos h, if_pos h]; exact .inl ⟨rfl, rfl⟩
  · rw [if_neg h, if_neg h]; exact mk_vi (Int.le_trans (dn_mono (by decide) (sq12 a b)) (up_dn _ (by decide)).1)
end Go.Proofs.YtbppfohcicepcaaGreat
namespace Go.Proofs.YtbppfohcicepcaaGreat
open Go.ChangeShapes Go.WideShapes Go.ChangeAt Go.RowKit
set_option linter.unusedVariables false
set_option linter.unusedSimpArgs false
set_option maxRecDepth 100000
attribute [local irreducible] Calls
/-- Square roots; of what may have none nothing is known. -/
def rtI (p : Int × Int) : Int × Int := if p.1 < 0 then (-2147483648, 2147483648) else (mkLo (rt1 p.1) (rt2 p.2), mkHi (rt1 p.1) (rt2 p.2))
end Go.Proofs.YtbppfohcicepcaaGreat
namespace Go.Proofs.YtbppfohcicepcaaGreat
open Go.ChangeShapes Go.WideShapes Go.ChangeAt Go.RowKit
set_option linter.unusedVariables false
set_option linter.unusedSimpArgs false
set_option maxRecDepth 100000
attribute [local irreducible] Calls
def encB (p : Int × Int) : List Value := [.int .i64 p.1, .int .i64 p.2]
theorem encB_len (p : Int × Int) : (encB p).length = 2 := rfl
/-- A slice of intervals. -/
abbrev Vx := Rx encB 2
theorem vx_rd {w : World} {p : Option Addr} {n c i : Nat} {l : List (Int × Int)} {x y : Int} (h : Vx w (.slice p n c) l) (hx : l[i]? = some (x, y)) : ∃ b o, p = some ⟨b, o, none⟩ ∧ b < w.heap.size ∧ ∀ g : Grown w, g.w.cell? ⟨b, o + i * 2, none⟩ = some (.int .i64 x) ∧ g.w.cell? ⟨b, o + i * 2 + 1, none⟩ = some (.int .i64 y) := by
  obtain ⟨b, o, rfl, h1, rd⟩ := h.rd hx
  exact ⟨b, o, rfl, h1, fun g => ⟨rd g 0 _ rfl, rd g 1 _ rfl⟩⟩
theorem info_ivB : (Tryz.prog.info? 26).map (fun i => (i.zero, i.size, i.bytes)) = some (some (.agg #[.int .i64 0, .int .i64 0]), 2, 16) := by kernel_rfl
/-- An operation on two intervals. -/
def opI (op : Int) (p q : Int × Int) : Int × Int :=
  if op = 4 then (-p.2, -p.1) else if op = 5 then (sqLo p.1 p.2, sqHi p.1 p.2) else if op = 6 then rtI p
  else if op = 7 then (addLo p.1 p.2 q.1 q.2, addHi p.1 p.2 q.1 q.2) else if op = 8 then (addLo p.1 p.2 (-q.2) (-q.1), addHi p.1 p.2 (-q.2) (-q.1))
  else if op = 9 then (mulLo p.1 p.2 q.1 q.2, mulHi p.1 p.2 q.1 q.2) else (divLo p.1 p.2 q.1 q.2, divHi p.1 p.2 q.1 q.2)
theorem rtI_vi {p : Int × Int} (h : VI p.1 p.2) : VI (rtI p).1 (rtI p).2 := by
  unfold rtI
  by_cases h1 : p.1 < 0
  · rw [if_pos h1]; exact .inl ⟨rfl, rfl⟩
  · have hb := h.bd
    rw [if_neg h1]
    dsimp only
    exact mk_vi (x := rt1 p.1) (y := rt2 p.2) (rt_le hb.2.2.2.2 (by omega))
theorem opI_vi (op : Int) {p q : Int × Int} (hp : VI p.1 p.2) (hq : VI q.1 q.2) : VI (opI op p q).1 (opI op p q).2 := by
  unfold opI
  by_cases h4 : op = 4
  · rw [if_pos h4]; exact hp.neg
  rw [if_neg h4]
  by_cases h5 : op = 5
  · rw [if_pos h5]; exact sq_vi _ _
  rw [if_neg h5]
  by_cases h6 : op = 6
  · rw [if_pos h6]; exact rtI_vi hp
  rw [if_neg h6]
  by_cases h7 : op = 7
  · rw [if_pos h7]; exact add_vi hp.bd.2.2.2.2 hq.bd.2.2.2.2
  rw [if_neg h7]
  by_cases h8 : op = 8
  · rw [if_pos h8]; exact add_vi hp.bd.2.2.2.2 hq.neg.bd.2.2.2.2
  rw [if_neg h8]
  by_cases h9 : op = 9
  · rw [if_pos h9]; exact mul_vi _ _ _ _
  · rw [if_neg h9]; exact div_vi hq.bd.2.2.2.2
end Go.Proofs.YtbppfohcicepcaaGreat
namespace Go.Proofs.YtbppfohcicepcaaGreat
open Go.ChangeShapes Go.WideShapes Go.ChangeAt Go.RowKit
set_option linter.unusedVariables false
set_option linter.unusedSimpArgs false
set_option maxRecDepth 100000
attribute [local irreducible] Calls
theorem own_slice {B n sz : Nat} {w : World} {v : Value} {t : TypeId} {xs : List Value} (h : w.ownsRow B t sz v n xs) : ∃ p c, v = .slice p n c := by
  rcases id h.2 with ⟨rfl, h0⟩ | ⟨g, cap, cur, rfl, _⟩
  · subst h0
    exact ⟨none, 0, rfl⟩
  · exact ⟨_, _, rfl⟩
theorem new_b (w : World) (x : Int × Int) : ∀ j u, (encB x)[j]? = some u → (w.alloc (.cells #[.int .i64 x.1, .int .i64 x.2] 26)).cell? ((⟨w.heap.size, 0, none⟩ : Addr).add j) = some u := by
  intro j u hj
  have hk : j < 2 := by have := (List.getElem?_eq_some_iff.1 hj).1; simpa [encB] using this
  unfold encB at hj
  match j, hk, hj with
  | 0, _, hj => cases hj; simp [Addr.add, go_sem]
  | 1, _, hj => cases hj; simp [Addr.add, go_sem]
theorem one_b (x : Int × Int) : ∀ u ∈ encB x, u.oneCell' = true := by
  intro u hu
  simp only [encB, List.mem_cons, List.not_mem_nil, or_false] at hu
  rcases hu with rfl | rfl <;> rfl
end Go.Proofs.YtbppfohcicepcaaGreat
namespace Go.Proofs.YtbppfohcicepcaaGreat
open Go.ChangeShapes Go.WideShapes Go.ChangeAt Go.RowKit
set_option linter.unusedVariables false
set_option linter.unusedSimpArgs false
set_option maxRecDepth 100000
attribute [local irreducible] Calls
end Go.Proofs.YtbppfohcicepcaaGreat
namespace Go.Proofs.YtbppfohcicepcaaGreat
open Go.ChangeShapes Go.WideShapes Go.ChangeAt Go.RowKit Go.Maps
set_option linter.unusedVariables false
set_option linter.unusedSimpArgs false
set_option maxRecDepth 100000
attribute [local irreducible] Calls
/-- The node of an instruction. -/
def ndI (x : Is) : Nd := ⟨x.op, if x.op = 2 then x.a else 0, x.lo, x.hi⟩
theorem one_n (x : Nd) : ∀ u ∈ encN x, u.oneCell' = true := by
  intro u hu
  simp only [encN, List.mem_cons, List.not_mem_nil, or_false] at hu
  rcases hu with rfl | rfl | rfl | rfl <;> rfl
end Go.Proofs.YtbppfohcicepcaaGreat
namespace Go.Proofs.YtbppfohcicepcaaGreat
open Go.ChangeShapes Go.WideShapes Go.ChangeAt Go.RowKit Go.Maps
set_option linter.unusedVariables false
set_option linter.unusedSimpArgs false
set_option maxRecDepth 100000
attribute [local irreducible] Calls
/-- A number of nodes, or 201. -/
def cap (n : Int) : Int := if 201 < n then 201 else n
/-- All but the variable of the expression stays. -/
structure Oth (eb : Nat) (W W' : World) : Prop where
  os : W'.os = W.os
  tape : W'.tape = W.tape
  output : W'.output = W.output
  size : W.heap.size ≤ W'.heap.size
  blk : ∀ k, k < W.heap.size → k ≠ eb → W'.heap[k]? = W.heap[k]?
section
variable {eb B : Nat} {W W' W'' : World}
theorem Oth.set (eb : Nat) (W : World) (v : Value) : Oth eb W (W.setCell ⟨eb, 0, none⟩ v) :=
  have h := grownBy_setN W ⟨eb, 0, none⟩ v
  ⟨h.os, h.tape, h.output, h.size, fun k hk hn => h.block k hk (fun e => hn (Option.some.inj e))⟩
theorem Oth.ext {n c : Nat} {v : Value} (h : Ext eb eb (.slice none n c) v W W') : Oth eb W W' := ⟨h.os, h.tape, h.output, h.size, fun k hk hn => h.blk k hk hn hn (by simp [Value.ownBlock])⟩
theorem Oth.trans (h : Oth eb W W') (k : Oth eb W' W'') : Oth eb W W'' := ⟨k.os.trans h.os, k.tape.trans h.tape, k.output.trans h.output, Nat.le_trans h.size k.size, fun j hj hn => (k.blk j (Nat.lt_of_lt_of_le hj h.size) hn).trans (h.blk j hj hn)⟩
theorem Oth.below (h : Oth eb W W') {b : Nat} (hb : b ≤ eb) (hw : b ≤ W.heap.size) : Below b W W' := ⟨h.os, h.tape, h.output, h.size, fun k hk => h.blk k (by omega) (by omega)⟩
theorem ownl_push {r r' v : Value} {l : List (List Nd)} {x : List Nd} {us : List Value} (ho : OwnL B W r l us) (hn : NxO W v x) (hr : W'.ownsRow B 23 1 r' (l.length + 1) (us ++ [v])) (hg : W.grownBy W' r.ownBlock) : OwnL B W' r' (l ++ [x]) (us ++ [v]) := by
  refine ⟨by rw [List.length_append]; exact hr, fun i u y h1 h2 => ?_⟩
  refine nxo_push ?_ ho.row hg
  have hul := ho.row.1
  by_cases hi : i < l.length
  · rw [List.getElem?_append_left (by omega)] at h1
    rw [List.getElem?_append_left hi] at h2
    exact ho.el i u y h1 h2
  · have hi2 := (List.getElem?_eq_some_iff.1 h2).1
    simp only [List.length_append, List.length_singleton] at hi2
    obtain rfl : i = l.length := by omega
    rw [List.getElem?_append_right (by omega)] at h1 h2
    rw [show l.length - us.length = 0 by omega] at h1
    rw [Nat.sub_self] at h2
    simp only [List.getElem?_cons_zero, Option.some.injEq] at h1 h2
    subst h1 h2
    exact hn
end
end Go.Proofs.YtbppfohcicepcaaGreat
namespace Go.Proofs.YtbppfohcicepcaaGreat
open Go.ChangeShapes Go.WideShapes Go.ChangeAt Go.RowKit Go.Maps
set_option linter.unusedVariables false
set_option linter.unusedSimpArgs false
set_option maxRecDepth 100000
attribute [local irreducible] Calls
theorem row_app {B B' n n' sz sz' : Nat} {W W' : World} {v r : Value} {t t' : TypeId} {xs ys : List Value} (ht : t' ≠ t) (hr : W.ownsRow B t sz v n xs) (ho : W.ownsRow B' t' sz' r n' ys) (hg : W.grownBy W' r.ownBlock) : W'.ownsRow B t sz v n xs := by
  refine ⟨hr.1, hr.2.imp id ?_⟩
  rintro ⟨g, cap, cur, e, hgb, hh, rest⟩
  refine ⟨g, cap, cur, e, hgb, (hg.block g (Array.getElem?_eq_some_iff.1 hh).1 (fun e2 => ?_)).trans hh, rest⟩
  rcases id ho.2 with ⟨e1, _⟩ | ⟨g', cap', cur', e1, _, hh', _⟩
  · rw [e1] at e2; simp [Value.ownBlock] at e2
  · rw [e1] at e2
    simp only [Value.ownBlock, Option.some.injEq] at e2
    rw [e2, hh'] at hh
    simp only [Option.some.injEq, Obj.cells.injEq] at hh
    exact ht hh.2.1
end Go.Proofs.YtbppfohcicepcaaGreat
namespace Go.Proofs.YtbppfohcicepcaaGreat
open Go.ChangeShapes Go.WideShapes Go.ChangeAt Go.RowKit
set_option linter.unusedVariables false
set_option linter.unusedSimpArgs false
set_option maxRecDepth 100000
open Go.BigFrame
attribute [local go_sem ↓] run_max_two run_min_two run_max_three
set_option maxHeartbeats 1000000 in
theorem r2point (x : Int) (w : World) :
    Calls Tryz.prog 33 #[.int .i64 x] w fun e w' => e = .returned (.agg #[.int .i64 (mkLo x x), .int .i64 (mkHi x x)]) ∧ Below w.heap.size w w' := by
  have c := fun w => r2new x x w
  generalize mkLo x x = p at *
  generalize mkHi x x = q at *
  go_enter Tryz.func33, Tryz.ntmps33
  go_wp2_with (fail)
  generalize hW0 : World.alloc w _ = W0
  have hT0 : Below w.heap.size w W0 := by subst hW0; exact ((Below.refl w.heap.size w).alloc (by go_size) _)
  have S0 : ∀ g : Grown W0, w.heap.size < g.w.heap.size := fun g => Nat.lt_of_lt_of_le (by subst hW0; simp <;> omega) g.h.size
  have Y0 : w.heap.size < W0.heap.size := by subst hW0; simp <;> omega
  have F00 : ∀ g : Grown W0, g.w.cell? ⟨w.heap.size, 0, none⟩ = some (.int .i64 0) := fun g => (g.cell Y0).trans (by subst hW0; simp [go_sem])
  have H00 : ∀ g : Grown W0, g.w.frozen? ⟨w.heap.size, 0, none⟩ = false := fun g => (g.frozen Y0).trans (by subst hW0; simp [go_sem])
  have F01 : ∀ g : Grown W0, g.w.cell? ⟨w.heap.size, 1, none⟩ = some (.int .i64 0) := fun g => (g.cell Y0).trans (by subst hW0; simp [go_sem])
  have H01 : ∀ g : Grown W0, g.w.frozen? ⟨w.heap.size, 1, none⟩ = false := fun g => (g.frozen Y0).trans (by subst hW0; simp [go_sem])
  clear Y0
  clear hW0
  obtain ⟨g0, hg0⟩ : ∃ g : Grown W0, W0 = g.w := ⟨⟨W0, Below.refl _ _⟩, rfl⟩
  rw [hg0]
  clear hg0
  refine (c _).mono ?_
  rintro e1 w1 ⟨rfl, hB1⟩
  obtain ⟨g1, rfl⟩ := grow g0 hB1
  clear hB1
  go_wp2_with (fail)
  have hB : Below w.heap.size w g1.w := below_then hT0 g1.h
  refine bodyPost_ret (v := .agg #[.int .i64 p, .int .i64 q]) (by simp [results, Tryz.results33, go_sem, F00, F01]) rfl ⟨rfl, ?_⟩
  go_grown

theorem dn_within {n d B : Int} (hd : 0 < d) (h1 : -B ≤ n) (h2 : n ≤ B) (hB : 0 ≤ B) : -B ≤ dn n d ∧ dn n d ≤ B := by
  have q1 := dn_mul n hd
  constructor
  · refine dn_le hd ?_
    have := Int.mul_le_mul_of_nonpos_left (a := -B) (by omega) (show 1 ≤ d by omega); omega
  · by_cases hh : dn n d ≤ 0
    · omega
    · have := Int.mul_le_mul_of_nonneg_left (show 1 ≤ d by omega) (show 0 ≤ dn n d by omega); omega

end Go.Proofs.YtbppfohcicepcaaGreat
