/-
  Mathematics of the subdistributive law.
-/
import Derived.Test.YtecmgiihacigaaaIvMath
namespace Go.Proofs.Ytecmgiihacigaaa
set_option linter.unusedVariables false
set_option linter.unusedSimpArgs false
set_option maxRecDepth 100000

theorem dn_add (x y : Int) {d : Int} (h : 0 < d) : dn x d + dn y d ≤ dn (x + y) d := dn_le h (by have := (dn_mul x h).1; have := (dn_mul y h).1; rw [Int.add_mul]; omega)
theorem up_add (x y : Int) {d : Int} (h : 0 < d) : up (x + y) d ≤ up x d + up y d := by
  have := dn_add (-x) (-y) h
  rw [dn_neg, dn_neg, show -x + -y = -(x + y) by omega, dn_neg] at this
  omega
theorem mk_not_ent {x y : Int} (h : ¬ Ent (mkLo x y) (mkHi x y)) : Num x ∧ Num y ∧ mkLo x y = x ∧ mkHi x y = y := by
  unfold mkLo mkHi at *
  by_cases hc : Num x ∧ Num y
  · rw [if_pos hc, if_pos hc]; exact ⟨hc.1, hc.2, rfl, rfl⟩
  · rw [if_neg hc, if_neg hc] at h; exact absurd ⟨rfl, rfl⟩ h
theorem mn4_add (a b c d e f : Int) : mn4 a b c d + mn4 a b e f ≤ mn4 a b (c + e) (d + f) ∧ mx4 a b (c + e) (d + f) ≤ mx4 a b c d + mx4 a b e f := by
  unfold mn4 mx4
  rw [Int.mul_add, Int.mul_add, Int.mul_add, Int.mul_add]
  omega
/-- What a sum that is not entire tells. -/
theorem add_not_ent {c d e f : Int} (h : ¬ Ent (addLo c d e f) (addHi c d e f)) : ¬ Ent c d ∧ ¬ Ent e f ∧ Num (c + e) ∧ Num (d + f) ∧ addLo c d e f = c + e ∧ addHi c d e f = d + f := by
  unfold addLo addHi at *
  by_cases hc : Ent c d ∨ Ent e f
  · rw [if_pos hc, if_pos hc] at h; exact absurd ⟨rfl, rfl⟩ h
  · rw [if_neg hc, if_neg hc] at h ⊢
    obtain ⟨h1, h2, h3, h4⟩ := mk_not_ent h
    exact ⟨fun k => hc (.inl k), fun k => hc (.inr k), h1, h2, h3, h4⟩
theorem mul_not_ent {a b c d : Int} (h : ¬ Ent (mulLo a b c d) (mulHi a b c d)) : mulLo a b c d = dn (mn4 a b c d) 65536 ∧ mulHi a b c d = up (mx4 a b c d) 65536 := by
  unfold mulLo mulHi at *
  by_cases hc : Ent a b ∨ Ent c d
  · rw [if_pos hc, if_pos hc] at h; exact absurd ⟨rfl, rfl⟩ h
  · rw [if_neg hc, if_neg hc] at h ⊢
    obtain ⟨h1, h2, h3, h4⟩ := mk_not_ent h
    exact ⟨h3, h4⟩
theorem sub_dist {a b c d e f : Int} (hs : ¬ Ent (addLo c d e f) (addHi c d e f)) :
    addLo (mulLo a b c d) (mulHi a b c d) (mulLo a b e f) (mulHi a b e f) ≤ mulLo a b (c + e) (d + f) ∧ mulHi a b (c + e) (d + f) ≤ addHi (mulLo a b c d) (mulHi a b c d) (mulLo a b e f) (mulHi a b e f) := by
  obtain ⟨k1, k2, n1, n2, _, _⟩ := add_not_ent hs
  have hw := (mul_vi a b (c + e) (d + f)).wide
  by_cases hp : Ent (mulLo a b c d) (mulHi a b c d) ∨ Ent (mulLo a b e f) (mulHi a b e f)
  · unfold addLo addHi
    rw [if_pos hp, if_pos hp]; exact hw
  · obtain ⟨p1, p2⟩ := mul_not_ent (fun k => hp (.inl k))
    obtain ⟨q1, q2⟩ := mul_not_ent (fun k => hp (.inr k))
    have hm := mn4_add a b c d e f
    have ha : ¬ Ent a b := fun k => hp (.inl (by unfold mulLo mulHi; rw [if_pos (.inl k), if_pos (.inl k)]; exact ⟨rfl, rfl⟩))
    have hn : ¬ (Ent a b ∨ Ent (c + e) (d + f)) := fun k => k.elim ha (fun k => by unfold Ent Num at *; omega)
    have r1 : mulLo a b (c + e) (d + f) = mkLo (dn (mn4 a b (c + e) (d + f)) 65536) (up (mx4 a b (c + e) (d + f)) 65536) := by unfold mulLo; rw [if_neg hn]
    have r2 : mulHi a b (c + e) (d + f) = mkHi (dn (mn4 a b (c + e) (d + f)) 65536) (up (mx4 a b (c + e) (d + f)) 65536) := by unfold mulHi; rw [if_neg hn]
    rw [r1, r2]
    unfold addLo addHi
    rw [if_neg hp, if_neg hp, p1, p2, q1, q2]
    exact mk_sub (Int.le_trans (dn_add _ _ (by decide)) (dn_mono (by decide) hm.1)) (dn_up_le (mn_mx _ _ _ _)) (Int.le_trans (up_mono (by decide) hm.2) (up_add _ _ (by decide)))
theorem mul_div_back {a b c d : Int} (hv : VI a b) (hw : VI c d) (ha : ¬ Ent a b) :
    divLo (mulLo a b c d) (mulHi a b c d) c d ≤ a ∧ b ≤ divHi (mulLo a b c d) (mulHi a b c d) c d := by
  have hab := hv.bd
  have hcd := hw.bd
  unfold divLo divHi
  by_cases h : Ent (mulLo a b c d) (mulHi a b c d) ∨ (c ≤ 0 ∧ 0 ≤ d)
  · rw [if_pos h, if_pos h]; omega
  · rw [if_neg h, if_neg h]
    obtain ⟨p1, p2⟩ := mul_not_ent (fun k => h (.inl k))
    rw [p1, p2]
    generalize hP : dn (mn4 a b c d) 65536 = P
    generalize hQ : up (mx4 a b c d) 65536 = Q
    have h1 := (dn_mul (mn4 a b c d) (show (0 : Int) < 65536 by decide)).1
    have h2 := (up_mul (mx4 a b c d) (show (0 : Int) < 65536 by decide)).1
    rw [hP] at h1
    rw [hQ] at h2
    have m1 : mn4 a b c d ≤ a * c ∧ mn4 a b c d ≤ b * c ∧ a * c ≤ mx4 a b c d ∧ b * c ≤ mx4 a b c d := by unfold mn4 mx4; omega
    obtain ⟨s1, s2⟩ := mk_self hv ha
    have key : dv1 P Q c d ≤ a ∧ b ≤ dv2 P Q c d := by
      unfold dv1 dv2
      by_cases hc : 0 < c
      · have g1 : dn (P * 65536) c ≤ a := by
          have := dn_mono (n := P * 65536) (m := a * c) hc (by omega)
          rwa [dn_mul_self a hc] at this
        have g2 : b ≤ up (Q * 65536) c := by
          have := up_mono (n := b * c) (m := Q * 65536) hc (by omega)
          rwa [up_mul_self b hc] at this
        omega
      · have hc' : 0 < -c := by omega
        have g1 : dn (Q * 65536) c ≤ a := by
          rw [← dn_flip]
          have := dn_mono (n := -(Q * 65536)) (m := a * -c) hc' (by rw [Int.mul_neg]; omega)
          rwa [dn_mul_self a hc'] at this
        have g2 : b ≤ up (P * 65536) c := by
          rw [← up_flip]
          have := up_mono (n := b * -c) (m := -(P * 65536)) hc' (by rw [Int.mul_neg]; omega)
          rwa [up_mul_self b hc'] at this
        omega
    have := mk_sub key.1 hab.2.2.2.2 key.2
    rw [s1, s2] at this
    exact this
theorem sum_back {c d e f : Int} (hw : VI c d) (hz : VI e f) (hs : ¬ Ent (addLo c d e f) (addHi c d e f)) :
    addLo (c + e) (d + f) (-f) (-e) ≤ c ∧ d ≤ addHi (c + e) (d + f) (-f) (-e) := by
  obtain ⟨k1, k2, n1, n2, _, _⟩ := add_not_ent hs
  have hcd := hw.bd
  have hef := hz.bd
  have hn : ¬ (Ent (c + e) (d + f) ∨ Ent (-f) (-e)) := fun k => k.elim (fun k => by unfold Ent Num at *; omega) (fun k => k2 ((ent_neg e f).1 k))
  unfold addLo addHi
  rw [if_neg hn, if_neg hn]
  obtain ⟨s1, s2⟩ := mk_self hw k1
  have := mk_sub (x := c) (y := d) (x' := c + e + -f) (y' := d + f + -e) (by omega) (by omega) (by omega)
  rw [s1, s2] at this
  exact this
end Go.Proofs.Ytecmgiihacigaaa
