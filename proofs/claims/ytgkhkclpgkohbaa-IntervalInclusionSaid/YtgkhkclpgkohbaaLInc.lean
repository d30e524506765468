/-
  The law of inclusion.
-/
import Derived.Test.YtgkhkclpgkohbaaLInc1
import Derived.Test.YtgkhkclpgkohbaaCont
import Derived.Test.YtgkhkclpgkohbaaOpnd
import Derived.Test.YtgkhkclpgkohbaaIw4a
namespace Go.Proofs.Ytgkhkclpgkohbaa
open Go.ChangeShapes Go.WideShapes Go.ChangeAt Go.RowKit
set_option linter.unusedVariables false
set_option linter.unusedSimpArgs false

theorem dn_one (z : Int) : dn z 1 = z ∧ up z 1 = z := by
  have h1 := dn_mul_self z (show (0 : Int) < 1 by decide)
  have h2 := up_mul_self z (show (0 : Int) < 1 by decide)
  rw [Int.mul_one] at h1 h2
  exact ⟨h1, h2⟩
theorem sqrt_some {i j : Int} (hi : VI i j) : ∃ q1 q2 wide, ∀ w, Calls Try.prog 18 #[.agg #[.int .i64 i, .int .i64 j]] w fun e w' => e = .returned (.tuple #[.agg #[.int .i64 q1, .int .i64 q2], .bool wide]) ∧ Below w.heap.size w w' := by
  have hb := hi.bd
  by_cases he : Ent i j
  · obtain ⟨rfl, rfl⟩ := he; exact ⟨_, _, _, fun w => iv_sqrt_ent w⟩
  · by_cases hn : j < 0
    · exact ⟨_, _, _, fun w => iv_sqrt_neg i j w he hn⟩
    · exact ⟨_, _, _, fun w => iv_sqrt_pos i j w he hb.2.2.2.2 (by omega) hb.2.2.2.1⟩
theorem usq_spec {x : Int} (h : 0 ≤ x) : x ≤ usq x * usq x := by
  have hx := isq_spec h
  unfold usq
  by_cases h1 : isq x * isq x = x
  · rw [if_pos h1]; omega
  · rw [if_neg h1]; omega
/-- The root of an interval that holds p: its ends' squares enclose p. -/
theorem sqrt_in {a b p : Int} (hv : VI a b) (he : ¬ Ent a b) (h1 : a ≤ p) (h2 : p ≤ b) (hp : 0 ≤ p) :
    ∃ r1 r2, r1 * r1 ≤ p * 65536 ∧ p * 65536 ≤ r2 * r2 ∧ 0 ≤ r1 * r1 ∧ r2 * r2 ≤ 4611686018427387904 ∧ ∀ w, Calls Try.prog 18 #[.agg #[.int .i64 a, .int .i64 b]] w fun e w' => e = .returned (.tuple #[.agg #[.int .i64 r1, .int .i64 r2], .bool true]) ∧ Below w.heap.size w w' := by
  have hb := hv.bd
  have x1 := isq_spec (n := max a 0 * 65536) (by omega)
  have x2 := isq_lt (n := max a 0 * 65536) (q := 16777216) (by omega) (by omega) (by omega)
  have y1 := isq_spec (n := b * 65536) (by omega)
  have y2 := isq_lt (n := b * 65536) (q := 16777216) (by omega) (by omega) (by omega)
  have u1 := usq_spec (x := b * 65536) (by omega)
  have u2 : 0 ≤ usq (b * 65536) ∧ usq (b * 65536) ≤ 16777216 := by unfold usq; split <;> omega
  have hle := rt_le hb.2.2.2.2 (show 0 ≤ b by omega)
  have hr := fun w => iv_sqrt_pos a b w he hb.2.2.2.2 (by omega) hb.2.2.2.1
  have hc : Num (rt1 a) ∧ Num (rt2 b) := by unfold Num rt1 rt2; omega
  rw [show mkLo (rt1 a) (rt2 b) = rt1 a by unfold mkLo; rw [if_pos hc], show mkHi (rt1 a) (rt2 b) = rt2 b by unfold mkHi; rw [if_pos hc]] at hr
  refine ⟨rt1 a, rt2 b, ?_, ?_, ?_, ?_, hr⟩
  · unfold rt1; omega
  · unfold rt2; omega
  · exact sq_nonneg _
  · have := sq_le u2.1 u2.2
    unfold rt2; omega
theorem inc (x0 x1 x2 x3 x4 x5 : Int) (hx : ∀ p ∈ [(IntKind.i64, x0), (IntKind.i64, x1), (IntKind.i64, x2), (IntKind.i64, x3), (IntKind.i32, x4), (IntKind.u16, x5)], p.1.has p.2) (i : Int) (hi : (Lit.int .u32 i).wf = true) (k : Int) (hk : (Lit.int .u32 k).wf = true) (w : World) :
    Calls Try.prog 4 #[.agg #[.int .i64 x0, .int .i64 x1, .int .i64 x2, .int .i64 x3, .int .i32 x4, .int .u16 x5], .int .u32 i, .int .u32 k] w fun e w' => e = .returned (.bool true) ∧ Below w.heap.size w w' := by
  obtain ⟨⟨a, b, hv, c1⟩, ⟨c, d, hw, c2⟩, n, m, n1, n2, m1, m2, c3⟩ := operands hx
  have hi' := wf_u32 hi
  have hk' := wf_u32 hk
  by_cases he : Ent a b
  · exact inc_ent1 x0 x1 x2 x3 x4 x5 i k a b c d w c1 c2 (fun w => by rw [he.1, he.2]; exact r2ent_yes w)
      (fun w => is2 (iv_add a b c d w hv hw) (by unfold addLo; rw [if_pos (.inl he)]) (by unfold addHi; rw [if_pos (.inl he)]))
      (fun w => is2 (iv_mul c d a b w hw hv) (by unfold mulLo; rw [if_pos (.inr he)]) (by unfold mulHi; rw [if_pos (.inr he)]))
      (fun w => is2 (iv_div a b c d w hv hw) (by unfold divLo; rw [if_pos (.inl he)]) (by unfold divHi; rw [if_pos (.inl he)])) (fun w => r2ent_yes w)
  by_cases hf : Ent c d
  · have h0 : c ≤ 0 ∧ 0 ≤ d := by have := hf.1; have := hf.2; omega
    exact inc_ent2 x0 x1 x2 x3 x4 x5 i k a b c d w c1 c2 (fun w => r2ent_no a b w he) (fun w => by rw [hf.1, hf.2]; exact r2ent_yes w)
      (fun w => is2 (iv_add a b c d w hv hw) (by unfold addLo; rw [if_pos (.inr hf)]) (by unfold addHi; rw [if_pos (.inr hf)]))
      (fun w => is2 (iv_mul c d a b w hw hv) (by unfold mulLo; rw [if_pos (.inl hf)]) (by unfold mulHi; rw [if_pos (.inl hf)]))
      (fun w => is2 (iv_div a b c d w hv hw) (by unfold divLo; rw [if_pos (.inr h0)]) (by unfold divHi; rw [if_pos (.inr h0)])) (fun w => r2ent_yes w)
  obtain ⟨na, nb, hab⟩ := hv.resolve_left he
  obtain ⟨nc, nd, hcd⟩ := hw.resolve_left hf
  unfold Num at na nb nc nd
  have cp := fun w => r2pick a b i w (by omega) (by omega) hab hi'.1 hi'.2
  have cq := fun w => r2pick c d k w (by omega) (by omega) hcd hk'.1 hk'.2
  have i1 : 0 ≤ i % (b - a + 1) := Int.emod_nonneg _ (by omega)
  have i2 : i % (b - a + 1) < b - a + 1 := Int.emod_lt_of_pos _ (by omega)
  have k1 : 0 ≤ k % (d - c + 1) := Int.emod_nonneg _ (by omega)
  have k2 : k % (d - c + 1) < d - c + 1 := Int.emod_lt_of_pos _ (by omega)
  obtain ⟨p, hp⟩ : ∃ p, a + i % (b - a + 1) = p := ⟨_, rfl⟩
  obtain ⟨q, hq⟩ : ∃ q, c + k % (d - c + 1) = q := ⟨_, rfl⟩
  rw [hp] at cp
  rw [hq] at cq
  have p1 : a ≤ p := by omega
  have p2 : p ≤ b := by omega
  have q1 : c ≤ q := by omega
  have q2 : q ≤ d := by omega
  clear hp hq i1 i2 k1 k2 hi hk hi' hk'
  have b1 := mul_bound p q 2147483648 2147483648 (by omega) (by omega) (by omega) (by omega)
  have b2 := mul_bound p p 2147483648 2147483648 (by omega) (by omega) (by omega) (by omega)
  have b3 := mul_bound p n 2147483648 1073741824 (by omega) (by omega) (by omega) (by omega)
  have nE : ¬ (Ent a b ∨ Ent c d) := fun h => h.elim he hf
  have nE' : ¬ (Ent a b ∨ Ent (-d) (-c)) := fun h => h.elim he (fun h => hf ((ent_neg c d).1 h))
  have ka : ∀ w, Calls Try.prog 58 #[.agg #[.int .i64 (addLo a b c d), .int .i64 (addHi a b c d)], .int .i64 (p + q), .int .i64 1] w fun e w' => e = .returned (.bool true) ∧ Below w.heap.size w w' := fun w => by
    unfold addLo addHi; rw [if_neg nE, if_neg nE]
    exact contains_mk (by rw [(dn_one _).1]; omega) (by rw [(dn_one _).2]; omega) (by omega) (by omega) (by decide) w
  have kb : ∀ w, Calls Try.prog 58 #[.agg #[.int .i64 (addLo a b (-d) (-c)), .int .i64 (addHi a b (-d) (-c))], .int .i64 (p - q), .int .i64 1] w fun e w' => e = .returned (.bool true) ∧ Below w.heap.size w w' := fun w => by
    unfold addLo addHi; rw [if_neg nE', if_neg nE']
    exact contains_mk (by rw [(dn_one _).1]; omega) (by rw [(dn_one _).2]; omega) (by omega) (by omega) (by decide) w
  have kn : ∀ w, Calls Try.prog 58 #[.agg #[.int .i64 (-b), .int .i64 (-a)], .int .i64 (-p), .int .i64 1] w fun e w' => e = .returned (.bool true) ∧ Below w.heap.size w w' := fun w =>
    contains_yes (-b) (-a) (-p) 1 w (fun h => he ((ent_neg a b).1 h)) (by rw [(dn_one _).1]; omega) (by rw [(dn_one _).2]; omega) (by omega) (by omega) (by decide)
  have hpq := prod_in p1 p2 q1 q2
  have km : ∀ w, Calls Try.prog 58 #[.agg #[.int .i64 (mulLo a b c d), .int .i64 (mulHi a b c d)], .int .i64 (p * q), .int .i64 65536] w fun e w' => e = .returned (.bool true) ∧ Below w.heap.size w w' := fun w => by
    unfold mulLo mulHi; rw [if_neg nE, if_neg nE]
    exact contains_mk (dn_mono (by decide) hpq.1) (up_mono (by decide) hpq.2) (by omega) (by omega) (by decide) w
  have hpp : sq1 a b ≤ p * p ∧ p * p ≤ sq2 a b := by
    refine ⟨?_, sq_le_abs p1 p2⟩
    have := sq_nonneg p
    unfold sq1
    by_cases h0 : a ≤ 0 ∧ 0 ≤ b
    · rw [if_pos h0]; exact this
    · rw [if_neg h0]
      by_cases h1 : 0 < a
      · have := sq_le (a := a) (b := p) (by omega) p1; omega
      · have := sq_le (a := -b) (b := -p) (by omega) (by omega)
        rw [Int.neg_mul_neg, Int.neg_mul_neg] at this; omega
  have ks : ∀ w, Calls Try.prog 58 #[.agg #[.int .i64 (sqLo a b), .int .i64 (sqHi a b)], .int .i64 (p * p), .int .i64 65536] w fun e w' => e = .returned (.bool true) ∧ Below w.heap.size w w' := fun w => by
    unfold sqLo sqHi; rw [if_neg he, if_neg he]
    exact contains_mk (dn_mono (by decide) hpp.1) (up_mono (by decide) hpp.2) (by omega) (by omega) (by decide) w
  have hpn : min (a * n) (b * n) ≤ p * n ∧ p * n ≤ max (a * n) (b * n) := by
    have h1 : 0 ≤ n → a * n ≤ p * n ∧ p * n ≤ b * n := fun hn => ⟨Int.mul_le_mul_of_nonneg_right p1 hn, Int.mul_le_mul_of_nonneg_right p2 hn⟩
    have h2 : n ≤ 0 → p * n ≤ a * n ∧ b * n ≤ p * n := fun hn => ⟨Int.mul_le_mul_of_nonpos_right p1 hn, Int.mul_le_mul_of_nonpos_right p2 hn⟩
    rcases Int.le_total 0 n with h | h
    · have := h1 h; omega
    · have := h2 h; omega
  have kr : ∀ w, Calls Try.prog 58 #[.agg #[.int .i64 (mrLo a b n m), .int .i64 (mrHi a b n m)], .int .i64 (p * n), .int .i64 m] w fun e w' => e = .returned (.bool true) ∧ Below w.heap.size w w' := fun w => by
    unfold mrLo mrHi; rw [if_neg he, if_neg he]
    exact contains_mk (x := mr1 a b n m) (y := mr2 a b n m) (dn_mono (by omega) hpn.1) (up_mono (by omega) hpn.2) (by omega) (by omega) (by omega) w
  have kd : ¬ q = 0 → ∀ num den, 0 < den → dn num den = dn (p * 65536) q → up num den = up (p * 65536) q → -4611686018427387904 ≤ num → num ≤ 4611686018427387904 → ∀ w, Calls Try.prog 58 #[.agg #[.int .i64 (divLo a b c d), .int .i64 (divHi a b c d)], .int .i64 num, .int .i64 den] w fun e w' => e = .returned (.bool true) ∧ Below w.heap.size w w' := fun hq num den hden e1 e2 l1 l2 w => by
    unfold divLo divHi
    by_cases h0 : c ≤ 0 ∧ 0 ≤ d
    · rw [if_pos (.inr h0), if_pos (.inr h0)]; exact contains_ent num den w
    · rw [if_neg (fun h => h.elim he h0), if_neg (fun h => h.elim he h0)]
      have hs : 0 < c ∨ d < 0 := by omega
      have := quo_in (x := p) (y := q) (i := a) (j := b) (k := c) (l := d) p1 p2 q1 q2 hs
      exact contains_mk (by rw [e1]; exact this.1) (by rw [e2]; exact this.2) l1 l2 hden w
  obtain ⟨o1, o2, is, ksq⟩ := sqrt_some hv
  by_cases q0 : 0 < q
  · have kdd := kd (by omega) (p * 65536) q q0 rfl rfl (by omega) (by omega)
    by_cases p0 : p < 0
    · exact inc_pos_lt x0 x1 x2 x3 x4 x5 i k a b c d p q n m _ _ _ _ _ _ _ _ _ _ _ _ _ _ w (by omega) (by omega) (by omega) (by omega) (by omega) (by omega) (by omega) (by omega) (by omega) (by omega) q0 p0 is c1 c2 (fun w => r2ent_no a b w he) (fun w => r2ent_no c d w hf) cp cq c3 (fun w => iv_add a b c d w hv hw) ka (fun w => iv_sub a b c d w hv hw) kb (fun w => iv_neg a b w ⟨by omega, by omega, by omega, by omega⟩) kn (fun w => iv_mul a b c d w hv hw) km (fun w => iv_square a b w hv) ks (fun w => iv_mulratio a b n m w hv (by omega) (by omega) m1 (by omega)) kr (fun w => iv_div a b c d w hv hw) kdd ksq
    · obtain ⟨r1, r2, t1, t2, t3, t4, kse⟩ := sqrt_in hv he p1 p2 (by omega)
      exact inc_pos_ge x0 x1 x2 x3 x4 x5 i k a b c d p q n m _ _ _ _ _ _ _ _ _ _ _ _ _ _ w (by omega) (by omega) (by omega) (by omega) (by omega) (by omega) (by omega) (by omega) (by omega) (by omega) q0 (by omega) t1 t2 t3 t4 c1 c2 (fun w => r2ent_no a b w he) (fun w => r2ent_no c d w hf) cp cq c3 (fun w => iv_add a b c d w hv hw) ka (fun w => iv_sub a b c d w hv hw) kb (fun w => iv_neg a b w ⟨by omega, by omega, by omega, by omega⟩) kn (fun w => iv_mul a b c d w hv hw) km (fun w => iv_square a b w hv) ks (fun w => iv_mulratio a b n m w hv (by omega) (by omega) m1 (by omega)) kr (fun w => iv_div a b c d w hv hw) kdd kse
  by_cases q00 : q < 0
  · have kdd := kd (by omega) (-p * 65536) (-q) (by omega) (by rw [Int.neg_mul, dn_flip]) (by rw [Int.neg_mul, up_flip]) (by omega) (by omega)
    by_cases p0 : p < 0
    · exact inc_neg_lt x0 x1 x2 x3 x4 x5 i k a b c d p q n m _ _ _ _ _ _ _ _ _ _ _ _ _ _ w (by omega) (by omega) (by omega) (by omega) (by omega) (by omega) (by omega) (by omega) (by omega) (by omega) q00 p0 is c1 c2 (fun w => r2ent_no a b w he) (fun w => r2ent_no c d w hf) cp cq c3 (fun w => iv_add a b c d w hv hw) ka (fun w => iv_sub a b c d w hv hw) kb (fun w => iv_neg a b w ⟨by omega, by omega, by omega, by omega⟩) kn (fun w => iv_mul a b c d w hv hw) km (fun w => iv_square a b w hv) ks (fun w => iv_mulratio a b n m w hv (by omega) (by omega) m1 (by omega)) kr (fun w => iv_div a b c d w hv hw) kdd ksq
    · obtain ⟨r1, r2, t1, t2, t3, t4, kse⟩ := sqrt_in hv he p1 p2 (by omega)
      exact inc_neg_ge x0 x1 x2 x3 x4 x5 i k a b c d p q n m _ _ _ _ _ _ _ _ _ _ _ _ _ _ w (by omega) (by omega) (by omega) (by omega) (by omega) (by omega) (by omega) (by omega) (by omega) (by omega) q00 (by omega) t1 t2 t3 t4 c1 c2 (fun w => r2ent_no a b w he) (fun w => r2ent_no c d w hf) cp cq c3 (fun w => iv_add a b c d w hv hw) ka (fun w => iv_sub a b c d w hv hw) kb (fun w => iv_neg a b w ⟨by omega, by omega, by omega, by omega⟩) kn (fun w => iv_mul a b c d w hv hw) km (fun w => iv_square a b w hv) ks (fun w => iv_mulratio a b n m w hv (by omega) (by omega) m1 (by omega)) kr (fun w => iv_div a b c d w hv hw) kdd kse
  obtain rfl : q = 0 := by omega
  rw [Int.add_zero] at ka
  rw [Int.sub_zero] at kb
  rw [Int.mul_zero] at km
  by_cases p0 : p < 0
  · exact inc_zero_lt x0 x1 x2 x3 x4 x5 i k a b c d p n m _ _ _ _ _ _ _ _ _ _ 0 0 _ _ w (by omega) (by omega) (by omega) (by omega) (by omega) (by omega) p0 is c1 c2 (fun w => r2ent_no a b w he) (fun w => r2ent_no c d w hf) cp cq c3 (fun w => iv_add a b c d w hv hw) ka (fun w => iv_sub a b c d w hv hw) kb (fun w => iv_neg a b w ⟨by omega, by omega, by omega, by omega⟩) kn (fun w => iv_mul a b c d w hv hw) km (fun w => iv_square a b w hv) ks (fun w => iv_mulratio a b n m w hv (by omega) (by omega) m1 (by omega)) kr ksq
  · obtain ⟨r1, r2, t1, t2, t3, t4, kse⟩ := sqrt_in hv he p1 p2 (by omega)
    exact inc_zero_ge x0 x1 x2 x3 x4 x5 i k a b c d p n m _ _ _ _ _ _ _ _ _ _ 0 0 _ _ w (by omega) (by omega) (by omega) (by omega) (by omega) (by omega) (by omega) t1 t2 t3 t4 c1 c2 (fun w => r2ent_no a b w he) (fun w => r2ent_no c d w hf) cp cq c3 (fun w => iv_add a b c d w hv hw) ka (fun w => iv_sub a b c d w hv hw) kb (fun w => iv_neg a b w ⟨by omega, by omega, by omega, by omega⟩) kn (fun w => iv_mul a b c d w hv hw) km (fun w => iv_square a b w hv) ks (fun w => iv_mulratio a b n m w hv (by omega) (by omega) m1 (by omega)) kr kse
end Go.Proofs.Ytgkhkclpgkohbaa
