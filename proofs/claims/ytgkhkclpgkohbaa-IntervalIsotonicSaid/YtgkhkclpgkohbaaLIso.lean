/-
  The law of isotony.
-/
import Derived.Test.YtgkhkclpgkohbaaLIso1
import Derived.Test.YtgkhkclpgkohbaaIsoMath
import Derived.Test.YtgkhkclpgkohbaaWiden
import Derived.Test.YtgkhkclpgkohbaaIw6
import Derived.Test.YtgkhkclpgkohbaaIw10
import Derived.Test.YtgkhkclpgkohbaaIw4a
import Derived.Test.YtgkhkclpgkohbaaOpnd
namespace Go.Proofs.Ytgkhkclpgkohbaa
open Go.ChangeShapes Go.WideShapes Go.ChangeAt Go.RowKit
set_option linter.unusedVariables false
set_option linter.unusedSimpArgs false

theorem sqrt_one {i j : Int} (hi : VI i j) : ∃ q1 q2 wide, ∀ w, Calls Try.prog 18 #[.agg #[.int .i64 i, .int .i64 j]] w fun e w' => e = .returned (.tuple #[.agg #[.int .i64 q1, .int .i64 q2], .bool wide]) ∧ Below w.heap.size w w' := by
  have hb := hi.bd
  by_cases he : Ent i j
  · obtain ⟨rfl, rfl⟩ := he; exact ⟨_, _, _, fun w => iv_sqrt_ent w⟩
  · by_cases hn : j < 0
    · exact ⟨_, _, _, fun w => iv_sqrt_neg i j w he hn⟩
    · exact ⟨_, _, _, fun w => iv_sqrt_pos i j w he hb.2.2.2.2 (by omega) hb.2.2.2.1⟩
theorem sqrt_pair {a b i j : Int} (hv : VI a b) (hi : VI i j) (h : Sb a b i j) : ∃ p1 p2 is q1 q2 wide, (∀ w, Calls Try.prog 18 #[.agg #[.int .i64 a, .int .i64 b]] w fun e w' => e = .returned (.tuple #[.agg #[.int .i64 p1, .int .i64 p2], .bool is]) ∧ Below w.heap.size w w') ∧ (∀ w, Calls Try.prog 18 #[.agg #[.int .i64 i, .int .i64 j]] w fun e w' => e = .returned (.tuple #[.agg #[.int .i64 q1, .int .i64 q2], .bool wide]) ∧ Below w.heap.size w w') ∧ (is = true → wide = true) ∧ (is = true → Sb p1 p2 q1 q2) := by
  have hb := hv.bd
  have hj := hi.bd
  by_cases he : Ent a b
  · have he' := ent_up hv hi h he
    obtain ⟨rfl, rfl⟩ := he
    obtain ⟨rfl, rfl⟩ := he'
    exact ⟨_, _, true, _, _, true, fun w => iv_sqrt_ent w, fun w => iv_sqrt_ent w, fun _ => rfl, fun _ => ⟨Int.le_refl _, Int.le_refl _⟩⟩
  · by_cases hn : b < 0
    · obtain ⟨q1, q2, wide, c⟩ := sqrt_one hi
      exact ⟨_, _, false, q1, q2, wide, fun w => iv_sqrt_neg a b w he hn, c, fun e => (by cases e), fun e => (by cases e)⟩
    · have hs := rt_iso hb.2.2.2.2 (show 0 ≤ b by omega) h
      by_cases hE : Ent i j
      · obtain ⟨rfl, rfl⟩ := hE
        refine ⟨_, _, true, _, _, true, fun w => iv_sqrt_pos a b w he hb.2.2.2.2 (by omega) hb.2.2.2.1, fun w => iv_sqrt_ent w, fun _ => rfl, fun _ => ?_⟩
        exact (mk_vi (rt_le hb.2.2.2.2 (show 0 ≤ b by omega))).wide
      · refine ⟨_, _, true, _, _, true, fun w => iv_sqrt_pos a b w he hb.2.2.2.2 (by omega) hb.2.2.2.1, fun w => iv_sqrt_pos i j w hE hj.2.2.2.2 (by unfold Sb at h; omega) hj.2.2.2.1, fun _ => rfl, fun _ => hs⟩
theorem meet_one {i j k l : Int} (hi : VI i j) (hk : VI k l) : ∃ q1 q2 still, ∀ w, Calls Try.prog 20 #[.agg #[.int .i64 i, .int .i64 j], .agg #[.int .i64 k, .int .i64 l]] w fun e w' => e = .returned (.tuple #[.agg #[.int .i64 q1, .int .i64 q2], .bool still]) ∧ Below w.heap.size w w' := by
  by_cases hm : max i k ≤ min j l
  · exact ⟨_, _, _, fun w => iv_meet_yes i j k l w hi hk hm⟩
  · exact ⟨_, _, _, fun w => iv_meet_no i j k l w (by omega)⟩
theorem meet_pair {a b c d i j k l : Int} (hv : VI a b) (hw : VI c d) (hi : VI i j) (hk : VI k l) (h : Sb a b i j) (g : Sb c d k l) : ∃ p1 p2 met q1 q2 still, (∀ w, Calls Try.prog 20 #[.agg #[.int .i64 a, .int .i64 b], .agg #[.int .i64 c, .int .i64 d]] w fun e w' => e = .returned (.tuple #[.agg #[.int .i64 p1, .int .i64 p2], .bool met]) ∧ Below w.heap.size w w') ∧ (∀ w, Calls Try.prog 20 #[.agg #[.int .i64 i, .int .i64 j], .agg #[.int .i64 k, .int .i64 l]] w fun e w' => e = .returned (.tuple #[.agg #[.int .i64 q1, .int .i64 q2], .bool still]) ∧ Below w.heap.size w w') ∧ (met = true → still = true) ∧ (met = true → Sb p1 p2 q1 q2) := by
  by_cases hm : max a c ≤ min b d
  · refine ⟨_, _, true, _, _, true, fun w => iv_meet_yes a b c d w hv hw hm, fun w => iv_meet_yes i j k l w hi hk (by unfold Sb at h g; omega), fun _ => rfl, fun _ => ?_⟩
    unfold Sb at *; omega
  · obtain ⟨q1, q2, still, c'⟩ := meet_one hi hk
    exact ⟨_, _, false, q1, q2, still, fun w => iv_meet_no a b c d w (by omega), c', fun e => (by cases e), fun e => (by cases e)⟩
theorem iso (x0 x1 x2 x3 x4 x5 : Int) (hx : ∀ p ∈ [(IntKind.i64, x0), (IntKind.i64, x1), (IntKind.i64, x2), (IntKind.i64, x3), (IntKind.i32, x4), (IntKind.u16, x5)], p.1.has p.2) (y0 y1 : Int) (hy : ∀ x ∈ [y0, y1], IntKind.has .u32 x) (z0 z1 : Int) (hz : ∀ x ∈ [z0, z1], IntKind.has .u32 x) (w : World) :
    Calls Try.prog 6 #[.agg #[.int .i64 x0, .int .i64 x1, .int .i64 x2, .int .i64 x3, .int .i32 x4, .int .u16 x5], .agg #[.int .u32 y0, .int .u32 y1], .agg #[.int .u32 z0, .int .u32 z1]] w fun e w' => e = .returned (.bool true) ∧ Below w.heap.size w w' := by
  obtain ⟨⟨a, b, hv, c1⟩, ⟨c, d, hw, c2⟩, n, m, n1, n2, m1, m2, c3⟩ := operands hx
  have e1 : IntKind.u32.min = 0 := by rfl
  have e2 : IntKind.u32.max = 4294967295 := by rfl
  have b1 := hy y0 (by simp)
  have b2 := hy y1 (by simp)
  have b3 := hz z0 (by simp)
  have b4 := hz z1 (by simp)
  simp only [IntKind.has, e1, e2] at b1 b2 b3 b4
  obtain ⟨i, j, hi, h, cw1⟩ := widen_any a b y0 z0 hv (by omega) (by omega) (by omega) (by omega)
  obtain ⟨k, l, hk, g, cw2⟩ := widen_any c d y1 z1 hw (by omega) (by omega) (by omega) (by omega)
  obtain ⟨_, _, _, _, _, _, cq1, cq2, yq, zq⟩ := sqrt_pair hv hi h
  obtain ⟨_, _, _, _, _, _, cm1, cm2, ym, zm⟩ := meet_pair hv hw hi hk h g
  exact iso_walk x0 x1 x2 x3 x4 x5 y0 y1 z0 z1 a b c d i j k l n m _ _ _ _ _ _ _ _ _ _ _ _ _ _ _ _ _ _ _ _ _ _ _ _ _ _ _ _ _ _ _ _ _ _ _ _ _ _ _ _ w yq ym
        c1
    c2
    cw1
    cw2
    c3
    (fun w => iv_subset _ _ _ _ true w (by have := h; unfold Sb at this; simp [this.1, this.2]))
    (fun w => iv_add a b c d w hv hw)
    (fun w => iv_add i j k l w hi hk)
    (fun w => iv_subset _ _ _ _ true w (by have := add_iso hv hw hi hk h g; unfold Sb at this; simp [this.1, this.2]))
    (fun w => iv_sub a b c d w hv hw)
    (fun w => iv_sub i j k l w hi hk)
    (fun w => iv_subset _ _ _ _ true w (by have := add_iso hv hw.neg hi hk.neg h (neg_iso g); unfold Sb at this; simp [this.1, this.2]))
    (fun w => iv_mul a b c d w hv hw)
    (fun w => iv_mul i j k l w hi hk)
    (fun w => iv_subset _ _ _ _ true w (by have := mul_iso hv hw hi hk h g; unfold Sb at this; simp [this.1, this.2]))
    (fun w => iv_square a b w hv)
    (fun w => iv_square i j w hi)
    (fun w => iv_subset _ _ _ _ true w (by have := sq_iso hv hi h; unfold Sb at this; simp [this.1, this.2]))
    (fun w => iv_div a b c d w hv hw)
    (fun w => iv_div i j k l w hi hk)
    (fun w => iv_subset _ _ _ _ true w (by have := div_iso hv hw hi hk h g; unfold Sb at this; simp [this.1, this.2]))
    (fun w => iv_mulratio a b n m w hv (by omega) (by omega) m1 (by omega))
    (fun w => iv_mulratio i j n m w hi (by omega) (by omega) m1 (by omega))
    (fun w => iv_subset _ _ _ _ true w (by have := mr_iso (n := n) hv hi h (show 0 < m by omega); unfold Sb at this; simp [this.1, this.2]))
    (fun w => iv_hull a b c d w hv hw)
    (fun w => iv_hull i j k l w hi hk)
    (fun w => iv_subset _ _ _ _ true w (by have := hull_iso h g; unfold Sb at this; simp [this.1, this.2]))
    cq1
    cq2
    cm1
    cm2
    (fun e w => iv_subset _ _ _ _ true w (by have := zq e; unfold Sb at this; simp [this.1, this.2]))
    (fun e w => iv_subset _ _ _ _ true w (by have := zm e; unfold Sb at this; simp [this.1, this.2]))
end Go.Proofs.Ytgkhkclpgkohbaa
