/-
  The law of the reference.
-/
import Derived.Test.YtdnndmpdlelliaaLMat1
import Derived.Test.YtdnndmpdlelliaaIv4
import Derived.Test.YtdnndmpdlelliaaR7
import Derived.Test.YtdnndmpdlelliaaR5
import Derived.Test.YtdnndmpdlelliaaR3
import Derived.Test.YtdnndmpdlelliaaIvMath
import Derived.Test.YtdnndmpdlelliaaOpnd
import Derived.Test.YtdnndmpdlelliaaIw6
import Derived.Test.YtdnndmpdlelliaaIw4a
import Derived.Test.YtdnndmpdlelliaaIw10
namespace Go.Proofs.Ytdnndmpdlelliaa
open Go.ChangeShapes Go.WideShapes Go.ChangeAt Go.RowKit
set_option linter.unusedVariables false
set_option linter.unusedSimpArgs false
set_option maxRecDepth 100000

theorem r2subset (a b c d : Int) (w : World) : Calls Try.prog 31 #[.agg #[.int .i64 a, .int .i64 b], .agg #[.int .i64 c, .int .i64 d]] w fun e w' => e = .returned (.bool (decide (c ≤ a) && decide (b ≤ d))) ∧ Below w.heap.size w w' := by
  by_cases h1 : c ≤ a
  · by_cases h2 : b ≤ d
    · simpa [h1, h2] using r2subset_0 a b c d w h1 (by simpa using h2)
    · simpa [h1, h2] using r2subset_1 a b c d w h1 (by simpa using h2)
  · simpa [h1] using r2subset_2 a b c d w (by omega)
theorem r2isent (a b : Int) (w : World) : Calls Try.prog 41 #[.agg #[.int .i64 a, .int .i64 b]] w fun e w' => e = .returned (.bool ((a == -2147483648) && (b == 2147483648))) ∧ Below w.heap.size w w' := by
  by_cases h : Ent a b
  · obtain ⟨rfl, rfl⟩ := h
    exact r2ent_yes w
  · have : ((a == -2147483648) && (b == 2147483648)) = false := by
      unfold Ent at h
      rw [Bool.eq_false_iff]
      intro e
      simp at e
      exact h e
    rw [this]
    exact r2ent_no a b w h
theorem sqrt_two {a b : Int} (hv : VI a b) : ∃ p1 p2 is, (∀ w, Calls Try.prog 21 #[.agg #[.int .i64 a, .int .i64 b]] w fun e w' => e = .returned (.tuple #[.agg #[.int .i64 p1, .int .i64 p2], .bool is]) ∧ Below w.heap.size w w') ∧ (∀ w, Calls Try.prog 22 #[.agg #[.int .i64 a, .int .i64 b]] w fun e w' => e = .returned (.tuple #[.agg #[.int .i64 p1, .int .i64 p2], .bool is]) ∧ Below w.heap.size w w') := by
  have hb := hv.bd
  by_cases he : Ent a b
  · obtain ⟨rfl, rfl⟩ := he; exact ⟨_, _, _, fun w => iv_sqrt_ent w, fun w => r2sqrt_ent w⟩
  · by_cases hn : b < 0
    · exact ⟨_, _, _, fun w => iv_sqrt_neg a b w he hn, fun w => r2sqrt_neg a b w he hn⟩
    · exact ⟨_, _, _, fun w => iv_sqrt_pos a b w he hb.2.2.2.2 (by omega) hb.2.2.2.1, fun w => r2sqrt_pos a b w he hb.2.2.2.2 (by omega) hb.2.2.2.1⟩
theorem meet_two {a b c d : Int} (hv : VI a b) (hw : VI c d) : ∃ p1 p2 met, (∀ w, Calls Try.prog 23 #[.agg #[.int .i64 a, .int .i64 b], .agg #[.int .i64 c, .int .i64 d]] w fun e w' => e = .returned (.tuple #[.agg #[.int .i64 p1, .int .i64 p2], .bool met]) ∧ Below w.heap.size w w') ∧ (∀ w, Calls Try.prog 24 #[.agg #[.int .i64 a, .int .i64 b], .agg #[.int .i64 c, .int .i64 d]] w fun e w' => e = .returned (.tuple #[.agg #[.int .i64 p1, .int .i64 p2], .bool met]) ∧ Below w.heap.size w w') := by
  by_cases hm : max a c ≤ min b d
  · exact ⟨_, _, _, fun w => iv_meet_yes a b c d w hv hw hm, fun w => r2meet_yes a b c d w hm⟩
  · exact ⟨_, _, _, fun w => iv_meet_no a b c d w (by omega), fun w => r2meet_no a b c d w (by omega)⟩
set_option maxHeartbeats 1000000 in
theorem mat (x0 x1 x2 x3 x4 x5 : Int) (hx : ∀ p ∈ [(IntKind.i64, x0), (IntKind.i64, x1), (IntKind.i64, x2), (IntKind.i64, x3), (IntKind.i32, x4), (IntKind.u16, x5)], p.1.has p.2) (y : Int) (hy : (Lit.int .i64 y).wf = true) (w : World) :
    Calls Try.prog 3 #[.agg #[.int .i64 x0, .int .i64 x1, .int .i64 x2, .int .i64 x3, .int .i32 x4, .int .u16 x5], .int .i64 y] w fun e w' => e = .returned (.bool true) ∧ Below w.heap.size w w' := by
  obtain ⟨⟨a, b, hv, c1⟩, ⟨c, d, hw, c2⟩, n, m, n1, n2, m1, m2, c3⟩ := operands hx
  obtain ⟨ha1, ha2, hb1, hb2, hab⟩ := hv.bd
  obtain ⟨hc1, hc2, hd1, hd2, hcd⟩ := hw.bd
  obtain ⟨p1, p2, is, q1, q2⟩ := sqrt_two hv
  obtain ⟨s1, s2, met, k1, k2⟩ := meet_two hv hw
  exact mat_walk x0 x1 x2 x3 x4 x5 y a b c d n m _ _ _ _ _ _ _ _ _ _ _ _ _ _ _ _ _ _ _ _ _ _ _ _ _ _ _ _ _ _ _ _ _ _ w hd1 hd2
    c1
    c2
    c3
    (fun w => iv_valid x0 x1 _ w rfl)
    (fun w => r2valid x0 x1 _ w rfl)
    (fun w => iv_contains x0 x1 y _ w rfl)
    (fun w => r2contains x0 x1 y _ w rfl)
    q1
    q2
    k1
    k2
    (fun w => iv_mulratio a b n m w hv (by omega) (by omega) m1 (by omega))
    (fun w => r2mulratio a b n m w hv (by omega) (by omega) m1 (by omega))
    (fun w => iv_hull a b c d w hv hw)
    (fun w => r2hull a b c d w)
    (fun w => iv_subset a b c d _ w rfl)
    (fun w => r2subset a b c d w)
    (fun w => iv_mid a b w ⟨ha1, ha2, hb1, hb2⟩)
    (fun w => r2mid a b w ha1 ha2 hb1 hb2)
    (fun w => iv_width a b w ⟨ha1, ha2, hb1, hb2⟩)
    (fun w => r2width a b w ha1 ha2 hb1 hb2)
    (fun w => iv_mag a b w ⟨ha1, ha2, hb1, hb2⟩)
    (fun w => r2mag a b w ⟨ha1, ha2, hb1, hb2⟩ hab)
    (fun w => iv_sign a b w)
    (fun w => r2sign a b w)
    (fun w => iv_isent a b _ w rfl)
    (fun w => r2isent a b w)
    (fun w => iv_entire w)
    (fun w => r2entire w)
    (fun w => iv_point a w)
    (fun w => r2point a w)
    (fun w => iv_new a (d + 4294967296) w (by omega))
    (fun w => r2new a (d + 4294967296) w)
    (fun w => iv_add a b c d w hv hw)
    (fun w => r2add a b c d w ha1 ha2 hb1 hb2 hc1 hc2 hd1 hd2)
    (fun w => iv_sub a b c d w hv hw)
    (fun w => r2sub a b c d w ha1 ha2 hb1 hb2 hc1 hc2 hd1 hd2)
    (fun w => iv_neg a b w ⟨ha1, ha2, hb1, hb2⟩)
    (fun w => r2neg a b w ha1 ha2 hb1 hb2)
    (fun w => iv_mul a b c d w hv hw)
    (fun w => r2mul a b c d w hv hw)
    (fun w => iv_square a b w hv)
    (fun w => r2square a b w hv)
    (fun w => iv_div a b c d w hv hw)
    (fun w => r2div a b c d w hv hw)
end Go.Proofs.Ytdnndmpdlelliaa
