/-
  Contracts of package interval: Div.
-/
import Derived.Test.YthakeeinhgfbbaaGreatIw8
namespace Go.Proofs.YthakeeinhgfbbaaGreat
open Go.ChangeShapes Go.WideShapes Go.ChangeAt Go.RowKit
set_option linter.unusedVariables false
set_option linter.unusedSimpArgs false
set_option maxRecDepth 100000

open Go.BigFrame
theorem dn_anti {x c d : Int} (hc : 0 < c) (hcd : c ≤ d) : (0 ≤ x → dn x d ≤ dn x c) ∧ (x ≤ 0 → dn x c ≤ dn x d) := by
  have hd : 0 < d := by omega
  refine ⟨fun h => dn_le hc ?_, fun h => dn_le hd ?_⟩
  · have h0 : 0 ≤ dn x d := dn_le hd (by omega)
    exact Int.le_trans (Int.mul_le_mul_of_nonneg_left hcd h0) (dn_mul x hd).1
  · have h0 : dn x c ≤ 0 := by
      have := dn_mono hc h
      rw [show dn 0 c = 0 from dn_is hc (by omega) (by omega)] at this
      exact this
    exact Int.le_trans (Int.mul_le_mul_of_nonpos_left h0 hcd) (dn_mul x hc).1
/-- Quotients by two divisors of one sign. -/
theorem dn_anti2 {x c d : Int} (hs : 0 < c ∨ d < 0) (hcd : c ≤ d) : (0 ≤ x → dn x d ≤ dn x c) ∧ (x ≤ 0 → dn x c ≤ dn x d) := by
  rcases hs with h | h
  · exact dn_anti h hcd
  · rw [← dn_flip x c, ← dn_flip x d]
    have := dn_anti (x := -x) (c := -d) (d := -c) (by omega) (by omega)
    exact ⟨fun hx => this.2 (by omega), fun hx => this.1 (by omega)⟩
theorem up_anti2 {x c d : Int} (hs : 0 < c ∨ d < 0) (hcd : c ≤ d) : (0 ≤ x → up x d ≤ up x c) ∧ (x ≤ 0 → up x c ≤ up x d) := by
  have := dn_anti2 (x := -x) hs hcd
  rw [dn_neg, dn_neg] at this
  exact ⟨fun hx => by have := this.2 (by omega); omega, fun hx => by have := this.1 (by omega); omega⟩
theorem dn_num {x y c : Int} (h : x ≤ y) : (0 < c → dn x c ≤ dn y c) ∧ (c < 0 → dn y c ≤ dn x c) :=
  ⟨fun hc => dn_mono hc h, fun hc => by rw [← dn_flip x c, ← dn_flip y c]; exact dn_mono (by omega) (by omega)⟩
theorem up_num {x y c : Int} (h : x ≤ y) : (0 < c → up x c ≤ up y c) ∧ (c < 0 → up y c ≤ up x c) :=
  ⟨fun hc => up_mono hc h, fun hc => by rw [← up_flip x c, ← up_flip y c]; exact up_mono (by omega) (by omega)⟩
/-- The least quotient rounded down, the greatest rounded up. -/
def dv1 (a b c d : Int) : Int := min (min (dn (a * 65536) c) (dn (a * 65536) d)) (min (dn (b * 65536) c) (dn (b * 65536) d))
def dv2 (a b c d : Int) : Int := max (max (up (a * 65536) c) (up (a * 65536) d)) (max (up (b * 65536) c) (up (b * 65536) d))
theorem dn_le_up {x c : Int} (hc : ¬ c = 0) : dn x c ≤ up x c := by
  by_cases h : 0 < c
  · exact (up_dn x h).1
  · rw [← dn_flip x c, ← up_flip x c]; exact (up_dn (-x) (by omega)).1
theorem dv_le {a b c d : Int} (hc : ¬ c = 0) : dv1 a b c d ≤ dv2 a b c d := by
  unfold dv1 dv2
  have := dn_le_up (x := a * 65536) hc
  omega

set_option maxHeartbeats 1000000 in
theorem div_corners (a b c d : Int) (ha1 : -2147483648 ≤ a) (hb2 : b ≤ 2147483648) (hab : a ≤ b) (hc1 : -2147483648 ≤ c) (hd2 : d ≤ 2147483648) (hcd : c ≤ d) (hs : 0 < c ∨ d < 0) : ∃ i j f g p q r s, Corn a b c d d c i j f g p q r s ∧ dn (p * 65536) q = dv1 a b c d ∧ up (r * 65536) s = dv2 a b c d := by
  obtain ⟨p1, p2⟩ := dn_anti2 (x := a * 65536) hs hcd
  obtain ⟨p3, p4⟩ := dn_anti2 (x := b * 65536) hs hcd
  obtain ⟨p5, p6⟩ := up_anti2 (x := a * 65536) hs hcd
  obtain ⟨p7, p8⟩ := up_anti2 (x := b * 65536) hs hcd
  obtain ⟨q1, q2⟩ := dn_num (x := a * 65536) (y := b * 65536) (c := c) (by omega)
  obtain ⟨q3, q4⟩ := dn_num (x := a * 65536) (y := b * 65536) (c := d) (by omega)
  obtain ⟨q5, q6⟩ := up_num (x := a * 65536) (y := b * 65536) (c := c) (by omega)
  obtain ⟨q7, q8⟩ := up_num (x := a * 65536) (y := b * 65536) (c := d) (by omega)
  unfold dv1 dv2
  rcases (by omega : b < 0 ∨ (a ≤ 0 ∧ 0 ≤ b) ∨ 0 < a) with h1 | h1 | h1
  · rcases hs with h2 | h2
    · exact ⟨(-1), 1, 123, 124, a, c, b, d, ⟨(fun w => by have := iv_sign a b w; rw [show sg a b = (-1) from by unfold sg; rw [if_neg (by omega), if_pos (by omega)]] at this; exact this), (fun w => by have := iv_sign c d w; rw [show sg c d = 1 from by unfold sg; rw [if_pos (by omega)]] at this; exact this), corners_02, cn_lh a b d c, cn_hl a b d c, fun _ _ => by simp [go_sem], fun _ _ => by simp [go_sem], by simp, by simp, by simp, by simp⟩, by omega, by omega⟩
    · exact ⟨(-1), (-1), 122, 126, b, c, a, d, ⟨(fun w => by have := iv_sign a b w; rw [show sg a b = (-1) from by unfold sg; rw [if_neg (by omega), if_pos (by omega)]] at this; exact this), (fun w => by have := iv_sign c d w; rw [show sg c d = (-1) from by unfold sg; rw [if_neg (by omega), if_pos (by omega)]] at this; exact this), corners_00, cn_hh a b d c, cn_ll a b d c, fun _ _ => by simp [go_sem], fun _ _ => by simp [go_sem], by simp, by simp, by simp, by simp⟩, by omega, by omega⟩
  · rcases hs with h2 | h2
    · exact ⟨0, 1, 123, 122, a, c, b, c, ⟨(fun w => by have := iv_sign a b w; rw [show sg a b = 0 from by unfold sg; rw [if_neg (by omega), if_neg (by omega)]] at this; exact this), (fun w => by have := iv_sign c d w; rw [show sg c d = 1 from by unfold sg; rw [if_pos (by omega)]] at this; exact this), corners_12, cn_lh a b d c, cn_hh a b d c, fun _ _ => by simp [go_sem], fun _ _ => by simp [go_sem], by simp, by simp, by simp, by simp⟩, by omega, by omega⟩
    · exact ⟨0, (-1), 124, 126, b, d, a, d, ⟨(fun w => by have := iv_sign a b w; rw [show sg a b = 0 from by unfold sg; rw [if_neg (by omega), if_neg (by omega)]] at this; exact this), (fun w => by have := iv_sign c d w; rw [show sg c d = (-1) from by unfold sg; rw [if_neg (by omega), if_pos (by omega)]] at this; exact this), corners_10, cn_hl a b d c, cn_ll a b d c, fun _ _ => by simp [go_sem], fun _ _ => by simp [go_sem], by simp, by simp, by simp, by simp⟩, by omega, by omega⟩
  · rcases hs with h2 | h2
    · exact ⟨1, 1, 126, 122, a, d, b, c, ⟨(fun w => by have := iv_sign a b w; rw [show sg a b = 1 from by unfold sg; rw [if_pos (by omega)]] at this; exact this), (fun w => by have := iv_sign c d w; rw [show sg c d = 1 from by unfold sg; rw [if_pos (by omega)]] at this; exact this), corners_22, cn_ll a b d c, cn_hh a b d c, fun _ _ => by simp [go_sem], fun _ _ => by simp [go_sem], by simp, by simp, by simp, by simp⟩, by omega, by omega⟩
    · exact ⟨1, (-1), 124, 123, b, d, a, c, ⟨(fun w => by have := iv_sign a b w; rw [show sg a b = 1 from by unfold sg; rw [if_pos (by omega)]] at this; exact this), (fun w => by have := iv_sign c d w; rw [show sg c d = (-1) from by unfold sg; rw [if_neg (by omega), if_pos (by omega)]] at this; exact this), corners_20, cn_hl a b d c, cn_lh a b d c, fun _ _ => by simp [go_sem], fun _ _ => by simp [go_sem], by simp, by simp, by simp, by simp⟩, by omega, by omega⟩

/-- The quotient of two intervals. -/
def divLo (a b c d : Int) : Int := if Ent a b ∨ (c ≤ 0 ∧ 0 ≤ d) then -2147483648 else mkLo (dv1 a b c d) (dv2 a b c d)
def divHi (a b c d : Int) : Int := if Ent a b ∨ (c ≤ 0 ∧ 0 ≤ d) then 2147483648 else mkHi (dv1 a b c d) (dv2 a b c d)

end Go.Proofs.YthakeeinhgfbbaaGreat
