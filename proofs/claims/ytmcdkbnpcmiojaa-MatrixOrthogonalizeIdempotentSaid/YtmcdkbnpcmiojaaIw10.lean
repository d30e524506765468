/-
  Contracts of package interval: Square.
-/
import Derived.Test.YtmcdkbnpcmiojaaIw8
import Derived.Test.YtmcdkbnpcmiojaaKit
namespace Go.Proofs.Ytmcdkbnpcmiojaa
open Go.ChangeShapes Go.WideShapes Go.ChangeAt Go.RowKit
set_option linter.unusedVariables false
set_option linter.unusedSimpArgs false
set_option maxRecDepth 100000

open Go.BigFrame
attribute [local go_sem ↓] run_max_two run_min_two run_max_three
/-- The squares of an interval: the least and the greatest. -/
def sq1 (a b : Int) : Int := if a ≤ 0 ∧ 0 ≤ b then 0 else min (a * a) (b * b)
def sq2 (a b : Int) : Int := max (a * a) (b * b)
def near (a b : Int) : Int := max a (max (-b) 0)
theorem sq_near {a b : Int} (h : a ≤ b) : near a b * near a b = sq1 a b ∧ max b (-a) * max b (-a) = sq2 a b := by
  have hb : 0 ≤ b → 0 ≤ a → a * a ≤ b * b := fun h1 h2 => sq_le h2 h
  have ha : b ≤ 0 → b * b ≤ a * a := fun h1 => by
    have := sq_le (a := -b) (b := -a) (by omega) (by omega)
    rwa [Int.neg_mul_neg, Int.neg_mul_neg] at this
  have hm : 0 ≤ b → -a ≤ b → a ≤ 0 → a * a ≤ b * b := fun h1 h2 h3 => by
    have := sq_le (a := -a) (b := b) (by omega) h2
    rwa [Int.neg_mul_neg] at this
  have hn : 0 ≤ b → b ≤ -a → b * b ≤ a * a := fun h1 h2 => by
    have := sq_le (a := b) (b := -a) h1 h2
    rwa [Int.neg_mul_neg] at this
  have na : (-a) * (-a) = a * a := Int.neg_mul_neg a a
  have nb : (-b) * (-b) = b * b := Int.neg_mul_neg b b
  unfold near sq1 sq2
  refine ⟨?_, ?_⟩
  · by_cases h1 : 0 < a
    · rw [show max a (max (-b) 0) = a by omega, if_neg (by omega)]
      have := hb (by omega) (by omega)
      omega
    · by_cases h2 : b < 0
      · rw [show max a (max (-b) 0) = -b by omega, if_neg (by omega), nb]
        have := ha (by omega)
        omega
      · rw [show max a (max (-b) 0) = 0 by omega, if_pos (by omega)]; rfl
  · by_cases h1 : -a ≤ b
    · rw [show max b (-a) = b by omega]
      by_cases h2 : a ≤ 0
      · have := hm (by omega) h1 h2
        omega
      · have := hb (by omega) (by omega)
        omega
    · rw [show max b (-a) = -a by omega, na]
      by_cases h2 : 0 ≤ b
      · have := hn h2 (by omega)
        omega
      · have := ha (by omega)
        omega
theorem sq12 (a b : Int) : sq1 a b ≤ sq2 a b := by
  have h1 : 0 ≤ a * a := by
    by_cases h : 0 ≤ a
    · exact Int.mul_nonneg h h
    · have := Int.mul_nonneg (show 0 ≤ -a by omega) (show 0 ≤ -a by omega)
      rwa [Int.neg_mul_neg] at this
  unfold sq1 sq2
  split <;> omega
def sqLo (a b : Int) : Int := if Ent a b then -2147483648 else mkLo (dn (sq1 a b) 65536) (up (sq2 a b) 65536)
def sqHi (a b : Int) : Int := if Ent a b then 2147483648 else mkHi (dn (sq1 a b) 65536) (up (sq2 a b) 65536)



def mr1 (a b n d : Int) : Int := dn (min (a * n) (b * n)) d
def mr2 (a b n d : Int) : Int := up (max (a * n) (b * n)) d
def mrLo (a b n d : Int) : Int := if Ent a b then -2147483648 else mkLo (mr1 a b n d) (mr2 a b n d)
def mrHi (a b n d : Int) : Int := if Ent a b then 2147483648 else mkHi (mr1 a b n d) (mr2 a b n d)
theorem mr_le {a b n d : Int} (hd : 0 < d) : mr1 a b n d ≤ mr2 a b n d := Int.le_trans (dn_mono hd (show min (a * n) (b * n) ≤ max (a * n) (b * n) by omega)) (up_dn _ hd).1
theorem mr_end {a b n : Int} (h : a ≤ b) : (if decide (n < 0) = true then b else a) * n = min (a * n) (b * n) ∧ (if decide (n < 0) = true then a else b) * n = max (a * n) (b * n) := by
  have h1 : 0 ≤ n → a * n ≤ b * n := fun hn => Int.mul_le_mul_of_nonneg_right h hn
  have h2 : n ≤ 0 → b * n ≤ a * n := fun hn => Int.mul_le_mul_of_nonpos_right h hn
  by_cases hn : n < 0
  · have := h2 (by omega)
    simp only [hn, decide_true, if_true]
    omega
  · have := h1 (by omega)
    simp only [hn, decide_false, Bool.false_eq_true, if_false]
    omega


def rt1 (a : Int) : Int := isq (max a 0 * 65536)
def rt2 (b : Int) : Int := usq (b * 65536)
theorem rt_le {a b : Int} (h : a ≤ b) (hb : 0 ≤ b) : rt1 a ≤ rt2 b := by
  have h1 := isq_mono (n := max a 0 * 65536) (m := b * 65536) (by omega) (by omega)
  unfold rt1 rt2 usq
  split <;> omega




theorem mk_meet {a b c d : Int} (h : VI a b) (k : VI c d) (hm : max a c ≤ min b d) : mkLo (max a c) (min b d) = max a c ∧ mkHi (max a c) (min b d) = min b d := by
  unfold mkLo mkHi Num
  rcases h with ⟨rfl, rfl⟩ | ⟨⟨h1, h2⟩, ⟨h3, h4⟩, h5⟩
  all_goals rcases k with ⟨rfl, rfl⟩ | ⟨⟨k1, k2⟩, ⟨k3, k4⟩, k5⟩
  all_goals (split <;> omega)


end Go.Proofs.Ytmcdkbnpcmiojaa
