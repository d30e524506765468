/-
  Contracts of package interval: signs, measures, tests.
-/
import Derived.Test.YtdnndmpdlelliaaIw2
namespace Go.Proofs.Ytdnndmpdlelliaa
open Go.ChangeShapes Go.WideShapes Go.ChangeAt Go.RowKit
set_option linter.unusedVariables false
set_option linter.unusedSimpArgs false
set_option maxRecDepth 100000

theorem iv_ent_yes (w : World) : Calls Try.prog 40 #[.agg #[.int .i64 (-2147483648), .int .i64 2147483648]] w fun e w' => e = .returned (.bool true) ∧ Below w.heap.size w w' :=
  iv_isent _ _ true w (by simp)
theorem iv_ent_no (a b : Int) (w : World) (h : ¬ Ent a b) : Calls Try.prog 40 #[.agg #[.int .i64 a, .int .i64 b]] w fun e w' => e = .returned (.bool false) ∧ Below w.heap.size w w' :=
  iv_isent _ _ false w (by
    by_cases h1 : a = -2147483648
    · have h2 : ¬ b = 2147483648 := fun h2 => h ⟨h1, h2⟩
      simp [h2]
    · simp [h1])
theorem load_int {w0 : World} {b o : Nat} {x : Int} (hb : b < w0.heap.size) (h0 : w0.cell? ⟨b, o, none⟩ = some (.int .i64 x)) :
    ∀ g : Grown w0, (Instr.loadAt 2 (.pointer (some ⟨b, o, none⟩))).run Try.prog g.w = .ok (.int .i64 x) g.w := fun g => by
  have h0' := (g.cell (o := o) hb).trans h0
  simp [go_sem, h0']
theorem VI.bd {a b : Int} (h : VI a b) : -2147483648 ≤ a ∧ a ≤ 2147483648 ∧ -2147483648 ≤ b ∧ b ≤ 2147483648 ∧ a ≤ b := by
  rcases h with ⟨rfl, rfl⟩ | ⟨⟨h1, h2⟩, ⟨h3, h4⟩, h5⟩
  · decide
  · omega
theorem mk_hull {a b c d : Int} (h : VI a b) (k : VI c d) : mkLo (min a c) (max b d) = min a c ∧ mkHi (min a c) (max b d) = max b d := by
  unfold mkLo mkHi Num
  rcases h with ⟨rfl, rfl⟩ | ⟨⟨h1, h2⟩, ⟨h3, h4⟩, h5⟩
  all_goals rcases k with ⟨rfl, rfl⟩ | ⟨⟨k1, k2⟩, ⟨k3, k4⟩, k5⟩
  all_goals (split <;> omega)

set_option maxHeartbeats 1000000 in
theorem iv_neg (a b : Int) (w : World) (hb : -2147483648 ≤ a ∧ a ≤ 2147483648 ∧ -2147483648 ≤ b ∧ b ≤ 2147483648) :
    Calls Try.prog 52 #[.agg #[.int .i64 a, .int .i64 b]] w fun e w' => e = .returned (.agg #[.int .i64 (-b), .int .i64 (-a)]) ∧ Below w.heap.size w w' := by
  obtain ⟨ha1, ha2, hb1, hb2⟩ := hb
  go_enter Try.func52, Try.ntmps52
  go_wp2_with (fail)
  refine bodyPost_ret (v := .agg #[.int .i64 (-b), .int .i64 (-a)]) (by simp [results, Try.results52, go_sem]) rfl ⟨rfl, ?_⟩
  go_grown

set_option maxHeartbeats 1000000 in
theorem iv_width (a b : Int) (w : World) (hb : -2147483648 ≤ a ∧ a ≤ 2147483648 ∧ -2147483648 ≤ b ∧ b ≤ 2147483648) :
    Calls Try.prog 34 #[.agg #[.int .i64 a, .int .i64 b]] w fun e w' => e = .returned (.int .i64 (b - a)) ∧ Below w.heap.size w w' := by
  obtain ⟨ha1, ha2, hb1, hb2⟩ := hb
  go_enter Try.func34, Try.ntmps34
  go_wp2_with (fail)
  go_ret
  refine ⟨rfl, ?_⟩
  go_grown

set_option maxHeartbeats 1000000 in
theorem iv_mid (a b : Int) (w : World) (hb : -2147483648 ≤ a ∧ a ≤ 2147483648 ∧ -2147483648 ≤ b ∧ b ≤ 2147483648) :
    Calls Try.prog 32 #[.agg #[.int .i64 a, .int .i64 b]] w fun e w' => e = .returned (.int .i64 ((a + b) / 2)) ∧ Below w.heap.size w w' := by
  obtain ⟨ha1, ha2, hb1, hb2⟩ := hb
  go_enter Try.func32, Try.ntmps32
  go_wp2_with (fail)
  go_ret
  refine ⟨?_, ?_⟩
  · first | rfl | (simp; done) | (congr 2 <;> omega)
  go_grown

set_option maxHeartbeats 1000000 in
theorem iv_mag (a b : Int) (w : World) (hb : -2147483648 ≤ a ∧ a ≤ 2147483648 ∧ -2147483648 ≤ b ∧ b ≤ 2147483648) :
    Calls Try.prog 36 #[.agg #[.int .i64 a, .int .i64 b]] w fun e w' => e = .returned (.int .i64 (max b (-a))) ∧ Below w.heap.size w w' := by
  obtain ⟨ha1, ha2, hb1, hb2⟩ := hb
  rcases Int.lt_trichotomy b (-a) with h | h | h
  · have e : max b (-a) = (-a) := by omega
    rw [e]; clear e
    go_enter Try.func36, Try.ntmps36
    go_wp2_with (fail)
    go_ret
    refine ⟨rfl, ?_⟩
    go_grown
  · have e : max b (-a) = (-a) := by omega
    rw [e]; clear e
    go_enter Try.func36, Try.ntmps36
    go_wp2_with (fail)
    go_ret
    refine ⟨rfl, ?_⟩
    go_grown
  · have e : max b (-a) = b := by omega
    rw [e]; clear e
    go_enter Try.func36, Try.ntmps36
    go_wp2_with (fail)
    go_ret
    refine ⟨rfl, ?_⟩
    go_grown

/-- The sign of an interval. -/
def sg (a b : Int) : Int := if 0 < a then 1 else if b < 0 then -1 else 0

set_option maxHeartbeats 1000000 in
theorem iv_sign (a b : Int) (w : World) :
    Calls Try.prog 38 #[.agg #[.int .i64 a, .int .i64 b]] w fun e w' => e = .returned (.int .i64 (sg a b)) ∧ Below w.heap.size w w' := by
  unfold sg
  by_cases h1 : 0 < a
  · rw [if_pos h1]
    go_enter Try.func38, Try.ntmps38
    go_wp2_with (fail)
    go_ret
    refine ⟨rfl, ?_⟩
    go_grown
  rw [if_neg h1]
  by_cases h2 : b < 0
  · rw [if_pos h2]
    go_enter Try.func38, Try.ntmps38
    go_wp2_with (fail)
    go_ret
    refine ⟨rfl, ?_⟩
    go_grown
  · rw [if_neg h2]
    go_enter Try.func38, Try.ntmps38
    go_wp2_with (fail)
    go_ret
    refine ⟨rfl, ?_⟩
    go_grown

set_option maxHeartbeats 1000000 in
theorem iv_subset (a b c d : Int) (r : Bool) (w : World) (h : (decide (c ≤ a) && decide (b ≤ d)) = r) :
    Calls Try.prog 30 #[.agg #[.int .i64 a, .int .i64 b], .agg #[.int .i64 c, .int .i64 d]] w fun e w' => e = .returned (.bool r) ∧ Below w.heap.size w w' := by
  by_cases h1 : c ≤ a
  · have h2 : decide (b ≤ d) = r := by rw [← h]; simp [h1]
    clear h
    go_enter Try.func30, Try.ntmps30
    go_wp2_with (fail)
    go_ret
    refine ⟨by first | rfl | (simp [h2]; done), ?_⟩
    go_grown
  · have h2 : r = false := by rw [← h]; simp [h1]
    subst h2
    clear h
    have h1' : a < c := by omega
    clear h1
    go_enter Try.func30, Try.ntmps30
    go_wp2_with (fail)
    go_ret
    refine ⟨rfl, ?_⟩
    go_grown

set_option maxHeartbeats 1000000 in
theorem iv_contains (a b x : Int) (r : Bool) (w : World) (h : (decide (Ent a b) || (decide (a ≤ x) && decide (x ≤ b))) = r) :
    Calls Try.prog 17 #[.agg #[.int .i64 a, .int .i64 b], .int .i64 x] w fun e w' => e = .returned (.bool r) ∧ Below w.heap.size w w' := by
  by_cases h0 : Ent a b
  · have hr : r = true := by rw [← h]; simp [h0]
    subst hr
    obtain ⟨rfl, rfl⟩ := h0
    clear h
    go_enter Try.func17, Try.ntmps17
    go_wp2_with (fail)
    refine (iv_ent_yes _).mono ?_
    rintro e1 w1 ⟨rfl, hB1⟩
    obtain ⟨kc1, kf1⟩ := bcell hB1
    have hz1 := hB1.size
    simp only [World.size_alloc] at hz1
    have hs1_0 : w.heap.size < w1.heap.size := by omega
    have c1_0_0 : w1.cell? ⟨w.heap.size, 0, none⟩ = some (.int .i64 (-2147483648)) := (kc1 _ _ (by simp <;> omega)).trans (by simp [go_sem])
    have c1_0_1 : w1.cell? ⟨w.heap.size, 1, none⟩ = some (.int .i64 2147483648) := (kc1 _ _ (by simp <;> omega)).trans (by simp [go_sem])
    have f1_0_0 : w1.frozen? ⟨w.heap.size, 0, none⟩ = false := (kf1 _ _ (by simp <;> omega)).trans (by simp [go_sem])
    have f1_0_1 : w1.frozen? ⟨w.heap.size, 1, none⟩ = false := (kf1 _ _ (by simp <;> omega)).trans (by simp [go_sem])
    have hT1 : Below w.heap.size w w1 := below_then ((Below.refl w.heap.size w).alloc (by go_size) _) hB1
    clear kc1 kf1 hB1 hz1
    go_wp2_with (fail)
    go_ret
    refine ⟨rfl, ?_⟩
    go_grown
  · have h0' := Lib.hid h0
    by_cases h1 : a ≤ x
    · have hr : decide (x ≤ b) = r := by rw [← h]; simp [h0, h1]
      clear h h0
      go_enter Try.func17, Try.ntmps17
      go_wp2_with (fail)
      refine (iv_ent_no a b _ h0'.out).mono ?_
      rintro e1 w1 ⟨rfl, hB1⟩
      obtain ⟨kc1, kf1⟩ := bcell hB1
      have hz1 := hB1.size
      simp only [World.size_alloc] at hz1
      have hs1_0 : w.heap.size < w1.heap.size := by omega
      have c1_0_0 : w1.cell? ⟨w.heap.size, 0, none⟩ = some (.int .i64 a) := (kc1 _ _ (by simp <;> omega)).trans (by simp [go_sem])
      have c1_0_1 : w1.cell? ⟨w.heap.size, 1, none⟩ = some (.int .i64 b) := (kc1 _ _ (by simp <;> omega)).trans (by simp [go_sem])
      have f1_0_0 : w1.frozen? ⟨w.heap.size, 0, none⟩ = false := (kf1 _ _ (by simp <;> omega)).trans (by simp [go_sem])
      have f1_0_1 : w1.frozen? ⟨w.heap.size, 1, none⟩ = false := (kf1 _ _ (by simp <;> omega)).trans (by simp [go_sem])
      have hT1 : Below w.heap.size w w1 := below_then ((Below.refl w.heap.size w).alloc (by go_size) _) hB1
      clear kc1 kf1 hB1 hz1
      go_wp2_with (fail)
      go_ret
      refine ⟨by first | rfl | (simp [hr]; done), ?_⟩
      go_grown
    · have hr : r = false := by rw [← h]; simp [h0, h1]
      subst hr
      have h1' : x < a := by omega
      clear h h0 h1
      go_enter Try.func17, Try.ntmps17
      go_wp2_with (fail)
      refine (iv_ent_no a b _ h0'.out).mono ?_
      rintro e1 w1 ⟨rfl, hB1⟩
      obtain ⟨kc1, kf1⟩ := bcell hB1
      have hz1 := hB1.size
      simp only [World.size_alloc] at hz1
      have hs1_0 : w.heap.size < w1.heap.size := by omega
      have c1_0_0 : w1.cell? ⟨w.heap.size, 0, none⟩ = some (.int .i64 a) := (kc1 _ _ (by simp <;> omega)).trans (by simp [go_sem])
      have c1_0_1 : w1.cell? ⟨w.heap.size, 1, none⟩ = some (.int .i64 b) := (kc1 _ _ (by simp <;> omega)).trans (by simp [go_sem])
      have f1_0_0 : w1.frozen? ⟨w.heap.size, 0, none⟩ = false := (kf1 _ _ (by simp <;> omega)).trans (by simp [go_sem])
      have f1_0_1 : w1.frozen? ⟨w.heap.size, 1, none⟩ = false := (kf1 _ _ (by simp <;> omega)).trans (by simp [go_sem])
      have hT1 : Below w.heap.size w w1 := below_then ((Below.refl w.heap.size w).alloc (by go_size) _) hB1
      clear kc1 kf1 hB1 hz1
      go_wp2_with (fail)
      go_ret
      refine ⟨rfl, ?_⟩
      go_grown

set_option maxHeartbeats 1000000 in
theorem iv_valid (a b : Int) (r : Bool) (w : World) (h : decide (VI a b) = r) :
    Calls Try.prog 15 #[.agg #[.int .i64 a, .int .i64 b]] w fun e w' => e = .returned (.bool r) ∧ Below w.heap.size w w' := by
  by_cases h0 : Bd a b
  · have hr : r = true := by rw [← h]; unfold VI; unfold Bd at h0; simp [h0]
    subst hr
    clear h
    have h0' := Lib.hid h0
    clear h0
    go_enter Try.func15, Try.ntmps15
    go_wp2_with (fail)
    refine (iv_bounded a b true _ (by simp [h0'.out])).mono ?_
    rintro e1 w1 ⟨rfl, hB1⟩
    obtain ⟨kc1, kf1⟩ := bcell hB1
    have hz1 := hB1.size
    simp only [World.size_alloc] at hz1
    have hs1_0 : w.heap.size < w1.heap.size := by omega
    have c1_0_0 : w1.cell? ⟨w.heap.size, 0, none⟩ = some (.int .i64 a) := (kc1 _ _ (by simp <;> omega)).trans (by simp [go_sem])
    have c1_0_1 : w1.cell? ⟨w.heap.size, 1, none⟩ = some (.int .i64 b) := (kc1 _ _ (by simp <;> omega)).trans (by simp [go_sem])
    have f1_0_0 : w1.frozen? ⟨w.heap.size, 0, none⟩ = false := (kf1 _ _ (by simp <;> omega)).trans (by simp [go_sem])
    have f1_0_1 : w1.frozen? ⟨w.heap.size, 1, none⟩ = false := (kf1 _ _ (by simp <;> omega)).trans (by simp [go_sem])
    have hT1 : Below w.heap.size w w1 := below_then ((Below.refl w.heap.size w).alloc (by go_size) _) hB1
    clear kc1 kf1 hB1 hz1
    go_wp2_with (fail)
    go_ret
    refine ⟨rfl, ?_⟩
    go_grown
  · have h0' := Lib.hid h0
    by_cases h1 : Ent a b
    · have hr : r = true := by rw [← h]; unfold VI; simp [h1]
      subst hr
      obtain ⟨rfl, rfl⟩ := h1
      clear h h0
      go_enter Try.func15, Try.ntmps15
      go_wp2_with (fail)
      refine (iv_bounded _ _ false _ (by simp [h0'.out])).mono ?_
      rintro e1 w1 ⟨rfl, hB1⟩
      obtain ⟨kc1, kf1⟩ := bcell hB1
      have hz1 := hB1.size
      simp only [World.size_alloc] at hz1
      have hs1_0 : w.heap.size < w1.heap.size := by omega
      have c1_0_0 : w1.cell? ⟨w.heap.size, 0, none⟩ = some (.int .i64 (-2147483648)) := (kc1 _ _ (by simp <;> omega)).trans (by simp [go_sem])
      have c1_0_1 : w1.cell? ⟨w.heap.size, 1, none⟩ = some (.int .i64 2147483648) := (kc1 _ _ (by simp <;> omega)).trans (by simp [go_sem])
      have f1_0_0 : w1.frozen? ⟨w.heap.size, 0, none⟩ = false := (kf1 _ _ (by simp <;> omega)).trans (by simp [go_sem])
      have f1_0_1 : w1.frozen? ⟨w.heap.size, 1, none⟩ = false := (kf1 _ _ (by simp <;> omega)).trans (by simp [go_sem])
      have hT1 : Below w.heap.size w w1 := below_then ((Below.refl w.heap.size w).alloc (by go_size) _) hB1
      clear kc1 kf1 hB1 hz1
      go_wp2_with (fail)
      refine (iv_ent_yes _).mono ?_
      rintro e2 w2 ⟨rfl, hB2⟩
      obtain ⟨kc2, kf2⟩ := bcell hB2
      have hz2 := hB2.size
      have hs2_0 : w.heap.size < w2.heap.size := by omega
      have c2_0_0 : w2.cell? ⟨w.heap.size, 0, none⟩ = some (.int .i64 (-2147483648)) := (kc2 _ _ hs1_0).trans c1_0_0
      have c2_0_1 : w2.cell? ⟨w.heap.size, 1, none⟩ = some (.int .i64 2147483648) := (kc2 _ _ hs1_0).trans c1_0_1
      have f2_0_0 : w2.frozen? ⟨w.heap.size, 0, none⟩ = false := (kf2 _ _ hs1_0).trans f1_0_0
      have f2_0_1 : w2.frozen? ⟨w.heap.size, 1, none⟩ = false := (kf2 _ _ hs1_0).trans f1_0_1
      have hT2 : Below w.heap.size w w2 := below_then hT1 hB2
      clear kc2 kf2 hB2 hz2
      clear c1_0_0 f1_0_0 c1_0_1 f1_0_1 hT1 hs1_0
      go_wp2_with (fail)
      go_ret
      refine ⟨rfl, ?_⟩
      go_grown
    · have hr : r = false := by rw [← h]; unfold VI; unfold Bd at h0; simp [h0, h1]
      subst hr
      have h1' := Lib.hid h1
      clear h h0 h1
      go_enter Try.func15, Try.ntmps15
      go_wp2_with (fail)
      refine (iv_bounded a b false _ (by simp [h0'.out])).mono ?_
      rintro e1 w1 ⟨rfl, hB1⟩
      obtain ⟨kc1, kf1⟩ := bcell hB1
      have hz1 := hB1.size
      simp only [World.size_alloc] at hz1
      have hs1_0 : w.heap.size < w1.heap.size := by omega
      have c1_0_0 : w1.cell? ⟨w.heap.size, 0, none⟩ = some (.int .i64 a) := (kc1 _ _ (by simp <;> omega)).trans (by simp [go_sem])
      have c1_0_1 : w1.cell? ⟨w.heap.size, 1, none⟩ = some (.int .i64 b) := (kc1 _ _ (by simp <;> omega)).trans (by simp [go_sem])
      have f1_0_0 : w1.frozen? ⟨w.heap.size, 0, none⟩ = false := (kf1 _ _ (by simp <;> omega)).trans (by simp [go_sem])
      have f1_0_1 : w1.frozen? ⟨w.heap.size, 1, none⟩ = false := (kf1 _ _ (by simp <;> omega)).trans (by simp [go_sem])
      have hT1 : Below w.heap.size w w1 := below_then ((Below.refl w.heap.size w).alloc (by go_size) _) hB1
      clear kc1 kf1 hB1 hz1
      go_wp2_with (fail)
      refine (iv_ent_no a b _ h1'.out).mono ?_
      rintro e2 w2 ⟨rfl, hB2⟩
      obtain ⟨kc2, kf2⟩ := bcell hB2
      have hz2 := hB2.size
      have hs2_0 : w.heap.size < w2.heap.size := by omega
      have c2_0_0 : w2.cell? ⟨w.heap.size, 0, none⟩ = some (.int .i64 a) := (kc2 _ _ hs1_0).trans c1_0_0
      have c2_0_1 : w2.cell? ⟨w.heap.size, 1, none⟩ = some (.int .i64 b) := (kc2 _ _ hs1_0).trans c1_0_1
      have f2_0_0 : w2.frozen? ⟨w.heap.size, 0, none⟩ = false := (kf2 _ _ hs1_0).trans f1_0_0
      have f2_0_1 : w2.frozen? ⟨w.heap.size, 1, none⟩ = false := (kf2 _ _ hs1_0).trans f1_0_1
      have hT2 : Below w.heap.size w w2 := below_then hT1 hB2
      clear kc2 kf2 hB2 hz2
      clear c1_0_0 f1_0_0 c1_0_1 f1_0_1 hT1 hs1_0
      go_wp2_with (fail)
      go_ret
      refine ⟨rfl, ?_⟩
      go_grown
end Go.Proofs.Ytdnndmpdlelliaa
