/-
  Plain facts: the digits that the reference's Format makes one by one are those of 'Format'.
-/
import Derived.Test.YtjjllfaehipemaaRound
namespace Go.Proofs.Ytjjllfaehipemaa
/-- The last k digits. -/
def padW : Nat → Int → List Int
  | 0, _ => []
  | k + 1, F => padW k (F / 10) ++ [48 + F % 10]
/-- Without the noughts at the end. -/
def dropT : List Int → List Int
  | [] => []
  | c :: l => if dropT l = [] ∧ c = 48 then [] else c :: dropT l
/-- The digits of r / 65536, one by one, at most k. -/
def refd : Nat → Int → List Int
  | 0, _ => []
  | k + 1, r => if r = 0 then [] else (48 + r * 10 / 65536) :: refd k (r * 10 % 65536)
def rd (r : Int) : List Int := refd 16 r

theorem dropT_zero : ∀ l : List Int, dropT (l ++ [48]) = dropT l
  | [] => by simp [dropT]
  | a :: l => by
    have i := dropT_zero l
    show dropT (a :: (l ++ [48])) = _
    unfold dropT
    rw [i]
theorem dropT_keep : ∀ (l : List Int) (c : Int), c ≠ 48 → dropT (l ++ [c]) = l ++ [c]
  | [], c, h => by simp [dropT, h]
  | a :: l, c, h => by
    have i := dropT_keep l c h
    show dropT (a :: (l ++ [c])) = _
    unfold dropT
    rw [i, if_neg (by simp)]
    rfl
theorem padW_mod : ∀ (k : Nat) (F c : Int), padW k (F + c * 10 ^ k) = padW k F
  | 0, _, _ => rfl
  | k + 1, F, c => by
    have e1 : (F + c * 10 ^ (k + 1)) / 10 = F / 10 + c * 10 ^ k := by rw [Int.pow_succ, ← Int.mul_assoc]; omega
    have e2 : (F + c * 10 ^ (k + 1)) % 10 = F % 10 := by rw [Int.pow_succ, ← Int.mul_assoc]; omega
    unfold padW
    rw [e1, e2, padW_mod k]
theorem padW_head : ∀ (k : Nat) (F c : Int), 0 ≤ F → F < 10 ^ k → 0 ≤ c → c ≤ 9 → padW (k + 1) (F + c * 10 ^ k) = (48 + c) :: padW k F
  | 0, F, c, h0, h1, c0, c1 => by
    have : F = 0 := by simp at h1; omega
    subst this
    simp [padW]
    omega
  | k + 1, F, c, h0, h1, c0, c1 => by
    have e1 : (F + c * 10 ^ (k + 1)) / 10 = F / 10 + c * 10 ^ k := by rw [Int.pow_succ, ← Int.mul_assoc]; omega
    have e2 : (F + c * 10 ^ (k + 1)) % 10 = F % 10 := by rw [Int.pow_succ, ← Int.mul_assoc]; omega
    rw [padW, e1, e2, padW_head k (F / 10) c (by omega) (by rw [Int.pow_succ] at h1; omega) c0 c1]
    rfl
theorem dropT_noughts : ∀ k : Nat, dropT (padW k 0) = []
  | 0 => rfl
  | k + 1 => by
    show dropT (padW k (0 / 10) ++ [48 + 0 % 10]) = []
    exact (dropT_zero _).trans (dropT_noughts k)

theorem refd_drop : ∀ (k : Nat) (r F : Int), 0 ≤ r → r < 65536 → r * 10 ^ k = F * 65536 → refd k r = dropT (padW k F)
  | 0, r, F, _, _, _ => rfl
  | k + 1, r, F, h0, h1, he => by
    by_cases hr : r = 0
    · subst hr
      have : F = 0 := by simp at he; omega
      subst this
      rw [refd, if_pos rfl, dropT_noughts]
    · have p : 0 < (10 : Int) ^ k := Int.pow_pos (by decide)
      have hs : (10 : Int) ^ (k + 1) = 10 ^ k * 10 := Int.pow_succ _ _
      rw [hs] at he
      have hc : r * 10 = r * 10 / 65536 * 65536 + r * 10 % 65536 := by omega
      have c0 : 0 ≤ r * 10 / 65536 := by omega
      have c9 : r * 10 / 65536 ≤ 9 := by omega
      have r0 : 0 ≤ r * 10 % 65536 := by omega
      have r1 : r * 10 % 65536 < 65536 := by omega
      have hnz : r * 10 / 65536 = 0 → ¬ r * 10 % 65536 = 0 := by omega
      rw [refd, if_neg hr]
      generalize r * 10 / 65536 = c at *
      generalize r * 10 % 65536 = r' at *
      generalize hq : (10 : Int) ^ k = q at *
      have a1 : r * (q * 10) = (c * q) * 65536 + r' * q := by
        have : r * (q * 10) = (r * 10) * q := by rw [Int.mul_comm q, ← Int.mul_assoc]
        rw [this, hc, Int.add_mul, Int.mul_assoc, Int.mul_comm 65536, ← Int.mul_assoc]
      have a2 : r' * q = (F - c * q) * 65536 := by rw [Int.sub_mul]; omega
      have i := refd_drop k r' (F - c * q) r0 r1 (by rw [hq]; exact a2)
      have b0 : 0 ≤ r' * q := Int.mul_nonneg r0 (by omega)
      have b1 : r' * q ≤ 65535 * q := Int.mul_le_mul_of_nonneg_right (by omega) (by omega)
      have f0 : 0 ≤ F - c * q := by omega
      have f1 : F - c * q < q := by omega
      have hp := padW_head k (F - c * q) c f0 (by rw [hq]; exact f1) c0 c9
      rw [hq, Int.sub_add_cancel] at hp
      rw [hp, dropT, ← i, if_neg]
      intro ⟨h2, h3⟩
      have hz := hnz (by omega)
      cases k with
      | zero =>
        have : q = 1 := by rw [← hq]; rfl
        subst this
        omega
      | succ k => rw [refd, if_neg hz] at h2; cases h2
theorem refd_more : ∀ (k : Nat) (r : Int), 0 ≤ r → r < 65536 → r * 10 ^ k % 65536 = 0 → refd (k + 1) r = refd k r
  | 0, r, h0, h1, h => by
    have : r = 0 := by simp at h; omega
    subst this
    rfl
  | k + 1, r, h0, h1, h => by
    rw [refd]
    conv => rhs; rw [refd]
    by_cases hr : r = 0
    · rw [if_pos hr, if_pos hr]
    · rw [if_neg hr, if_neg hr]
      have e : r * 10 % 65536 * 10 ^ k % 65536 = 0 := by
        rw [Int.mul_emod, Int.emod_emod, ← Int.mul_emod, ← h, Int.pow_succ]
        congr 1
        rw [Int.mul_comm (10 ^ k), Int.mul_assoc]
      rw [refd_more k _ (by omega) (by omega) e]
theorem rd_zero : rd 0 = [] := rfl
theorem rd_step (r : Int) (h0 : 0 < r) (h1 : r < 65536) : rd r = (48 + r * 10 / 65536) :: rd (r * 10 % 65536) := by
  have e : rd r = refd 17 r := by
    unfold rd
    rw [refd_more 16 r (by omega) h1 (by omega)]
  rw [e, refd, if_neg (by omega)]
  rfl
theorem padW_strip : ∀ (k : Nat) (F : Int), 0 < F → F < 10 ^ k → dropT (padW k F) = padW (strip k F).2 (strip k F).1
  | 0, F, h0, h1 => by simp at h1; omega
  | k + 1, F, h0, h1 => by
    by_cases hz : F % 10 = 0
    · rw [strip_zero k F hz, padW, hz]
      show dropT (padW k (F / 10) ++ [48]) = _
      rw [dropT_zero]
      exact padW_strip k (F / 10) (by omega) (by rw [Int.pow_succ] at h1; omega)
    · rw [strip_end (k + 1) F hz, padW, dropT_keep _ _ (by omega)]
theorem dgs_padW : ∀ (k : Nat) (n : Int) (d : Nat), 1 ≤ d → d ≤ k + 1 → 0 ≤ n → n < 10 ^ d → dgs k n d = padW d n
  | 0, n, d, h1, h2, _, _ => by
    obtain rfl : d = 1 := by omega
    rfl
  | k + 1, n, d, h1, h2, h0, hn => by
    obtain ⟨d', rfl⟩ : ∃ d', d = d' + 1 := ⟨d - 1, by omega⟩
    cases d' with
    | zero =>
      have : n < 10 := by simpa using hn
      rw [dgs_neg _ _ _ (by omega)]
      rfl
    | succ e =>
      have i := dgs_padW k (n / 10) (e + 1) (by omega) (by omega) (by omega) (by rw [Int.pow_succ] at hn; omega)
      have hw : ((e + 1 + 1 : Nat) : Int) - 1 = ((e + 1 : Nat) : Int) := by omega
      rw [dgs_pos _ _ _ (.inr (by omega)), hw, i]
      rfl
/-- The fraction of a magnitude, as the reference makes it. -/
theorem mag_rd (m : Int) : mag m = dgs 4 (m / 65536) 1 ++ (if m % 65536 = 0 then [] else 46 :: rd (m % 65536)) := by
  by_cases hr : m % 65536 = 0
  · rw [mag_whole m hr, if_pos hr, List.append_nil]
  · rw [mag_frac m hr, if_neg hr]
    have hF0 : 0 < m % 65536 * 152587890625 := by omega
    have hF1 : m % 65536 * 152587890625 < 10 ^ 16 := by omega
    obtain ⟨s1, s2, s3, s4, s5, s6⟩ := strip_spec 16 _ hF0 hF1
    rw [dgs_padW 15 _ _ s1 (by omega) (by omega) s6, ← padW_strip 16 _ hF0 hF1]
    have := refd_drop 16 (m % 65536) (m % 65536 * 152587890625) (by omega) (by omega) (by omega)
    unfold rd
    rw [this]
end Go.Proofs.Ytjjllfaehipemaa
