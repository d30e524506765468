/-
  Plain facts on the text that 'Format' hands back.
-/
import Derived.Test.YtjjllfaehipemaaText
import Derived.Test.YtjjllfaehipemaaFmt
namespace Go.Proofs.Ytjjllfaehipemaa
open Go.RowKit

def bytesOf (xs : List Int) : List UInt8 := xs.map fun n => UInt8.ofNat n.toNat
theorem str_list (xs : List Int) : (strOfNums xs).data.toList = bytesOf xs := by
  unfold strOfNums bytesOf
  simp
def digR (xs : List Int) : Prop := ∀ x ∈ xs, 48 ≤ x ∧ x ≤ 57
theorem byte_of {x : Int} (h : 48 ≤ x ∧ x ≤ 57) : ((UInt8.ofNat x.toNat).toNat : Int) = x := by
  have e : (UInt8.ofNat x.toNat).toNat = x.toNat := by rw [UInt8.toNat_ofNat']; omega
  rw [e]
  omega
theorem bytes_allD {xs : List Int} (h : digR xs) : allD (bytesOf xs) := by
  intro c hc
  obtain ⟨x, hx, rfl⟩ := List.mem_map.1 hc
  have := h x hx
  have e := byte_of this
  exact ⟨by omega, by omega⟩
theorem dgs_digR : ∀ (k : Nat) (n wd : Int), digR (dgs k n wd)
  | 0, n, wd => by intro x hx; simp [dgs] at hx; omega
  | k + 1, n, wd => by
    have i := dgs_digR k (n / 10) (wd - 1)
    intro x hx
    unfold dgs at hx
    split at hx
    · rcases List.mem_append.1 hx with hx | hx
      · exact i x hx
      · simp at hx; omega
    · simp at hx; omega
theorem dv_of {x : Int} (h : 48 ≤ x ∧ x ≤ 57) : dv (UInt8.ofNat x.toNat) = x - 48 := by unfold dv; rw [byte_of h]
theorem dgs_val : ∀ (k : Nat) (n wd : Int), 0 ≤ n → n < 10 ^ (k + 1) → val (bytesOf (dgs k n wd)) = n
  | 0, n, wd, h0, h1 => by
    have h1' : n < 10 := by simpa using h1
    have e := dv_of (x := 48 + n % 10) (by omega)
    simp [dgs, bytesOf, val, e]
    omega
  | k + 1, n, wd, h0, h1 => by
    have e := dv_of (x := 48 + n % 10) (by omega)
    unfold dgs
    split
    · have i := dgs_val k (n / 10) (wd - 1) (by omega) (by rw [Int.pow_succ] at h1; omega)
      have ha : bytesOf (dgs k (n / 10) (wd - 1) ++ [48 + n % 10]) = bytesOf (dgs k (n / 10) (wd - 1)) ++ [UInt8.ofNat (48 + n % 10).toNat] := by simp [bytesOf]
      rw [ha, val_snoc, i, e]
      omega
    · rename_i hc
      simp [bytesOf, val, e]
      omega
theorem dgs_ne (k : Nat) (n wd : Int) : dgs k n wd ≠ [] := by
  cases k with
  | zero => simp [dgs]
  | succ k => unfold dgs; split <;> simp
theorem dgs_last (k : Nat) (n wd : Int) : ∃ l, dgs k n wd = l ++ [48 + n % 10] := by
  cases k with
  | zero => exact ⟨[], rfl⟩
  | succ k =>
    unfold dgs
    split
    · exact ⟨_, rfl⟩
    · exact ⟨[], rfl⟩
theorem dgs_pad : ∀ (k : Nat) (n : Int) (d : Nat), 1 ≤ d → d ≤ k + 1 → 0 ≤ n → n < 10 ^ d → (dgs k n d).length = d
  | 0, n, d, h1, h2, _, _ => by
    obtain rfl : d = 1 := by omega
    rfl
  | k + 1, n, d, h1, h2, h0, hn => by
    obtain ⟨d', rfl⟩ : ∃ d', d = d' + 1 := ⟨d - 1, by omega⟩
    cases d' with
    | zero =>
      have : n < 10 := by simpa using hn
      rw [dgs_neg _ _ _ (by omega)]
      rfl
    | succ e =>
      have i := dgs_pad k (n / 10) (e + 1) (by omega) (by omega) (by omega) (by rw [Int.pow_succ] at hn; omega)
      have hw : ((e + 1 + 1 : Nat) : Int) - 1 = ((e + 1 : Nat) : Int) := by omega
      rw [dgs_pos _ _ _ (.inr (by omega)), hw, List.length_append, i]
      rfl
theorem dgs_head : ∀ (k : Nat) (n wd : Int), wd ≤ 1 → 1 ≤ n → n < 10 ^ (k + 1) → ∃ c r, dgs k n wd = c :: r ∧ 49 ≤ c
  | 0, n, wd, _, h0, h1 => by
    have h1' : n < 10 := by simpa using h1
    exact ⟨48 + n % 10, [], rfl, by omega⟩
  | k + 1, n, wd, hw, h0, h1 => by
    by_cases h10 : 10 ≤ n
    · obtain ⟨c, r, e, hc⟩ := dgs_head k (n / 10) (wd - 1) (by omega) (by omega) (by rw [Int.pow_succ] at h1; omega)
      exact ⟨c, r ++ [48 + n % 10], by rw [dgs_pos _ _ _ (.inl h10), e]; rfl, hc⟩
    · exact ⟨48 + n % 10, [], dgs_neg _ _ _ (by omega), by omega⟩
theorem strip_spec : ∀ (k : Nat) (F : Int), 0 < F → F < 10 ^ k → 1 ≤ (strip k F).2 ∧ (strip k F).2 ≤ k ∧ (strip k F).1 * 10 ^ (k - (strip k F).2) = F ∧ ¬ (strip k F).1 % 10 = 0 ∧ 0 < (strip k F).1 ∧ (strip k F).1 < 10 ^ (strip k F).2
  | 0, F, h0, h1 => by simp at h1; omega
  | k + 1, F, h0, h1 => by
    by_cases hz : F % 10 = 0
    · obtain ⟨a, b, c, d, e, f⟩ := strip_spec k (F / 10) (by omega) (by rw [Int.pow_succ] at h1; omega)
      rw [strip_zero k F hz]
      refine ⟨a, by omega, ?_, d, e, f⟩
      have x : k + 1 - (strip k (F / 10)).2 = (k - (strip k (F / 10)).2) + 1 := by omega
      rw [x, Int.pow_succ, ← Int.mul_assoc, c]
      omega
    · rw [strip_end (k + 1) F hz]
      exact ⟨by simp, by simp, by simp, hz, h0, h1⟩

/-- The parts of the text of a number's magnitude m. -/
theorem mag_parts (m : Int) (h0 : 0 ≤ m) (h1 : m < 2147483648) : ∃ W F : List Int, mag m = W ++ (if F = [] then [] else 46 :: F) ∧ digR W ∧ digR F ∧ W ≠ [] ∧ W.length ≤ 5 ∧ F.length ≤ 16 ∧ (F = [] ↔ m % 65536 = 0) ∧
    val (bytesOf W) = m / 65536 ∧ val (bytesOf F) * 65536 = m % 65536 * 10 ^ F.length ∧ (∀ c ∈ F.getLast?, c ≠ 48) ∧ (W.length = 1 ∨ ∃ c r, W = c :: r ∧ 49 ≤ c) := by
  have hW := dgs_val 4 (m / 65536) 1 (by omega) (by omega)
  have hWl := dgs_len 4 (m / 65536) 1
  have hW1 : (dgs 4 (m / 65536) 1).length = 1 ∨ ∃ c r, dgs 4 (m / 65536) 1 = c :: r ∧ 49 ≤ c := by
    by_cases hz : m / 65536 < 10
    · left
      rw [dgs_neg _ _ _ (by omega)]
      rfl
    · exact .inr (dgs_head 4 _ 1 (by omega) (by omega) (by omega))
  by_cases hr : m % 65536 = 0
  · refine ⟨dgs 4 (m / 65536) 1, [], by rw [mag_whole m hr]; simp, dgs_digR _ _ _, by intro x hx; simp at hx, dgs_ne _ _ _, by omega, by simp, by simp [hr], hW, ?_, by simp, hW1⟩
    simp [bytesOf, val, hr]
  · have hF0 : 0 < m % 65536 * 152587890625 := by omega
    have hF1 : m % 65536 * 152587890625 < 10 ^ 16 := by omega
    obtain ⟨s1, s2, s3, s4, s5, s6⟩ := strip_spec 16 _ hF0 hF1
    rw [mag_frac m hr]
    generalize (strip 16 (m % 65536 * 152587890625)).1 = f at *
    generalize (strip 16 (m % 65536 * 152587890625)).2 = d at *
    have hlen := dgs_pad 15 f d s1 (by omega) (by omega) s6
    have hp : f < 10 ^ (15 + 1) := by
      have := pow10_le s2
      have e : (10 : Int) ^ (15 + 1) = 10000000000000000 := by decide
      rw [e]
      omega
    have hv := dgs_val 15 f d (by omega) hp
    have hne : dgs 15 f (d : Int) ≠ [] := dgs_ne _ _ _
    refine ⟨dgs 4 (m / 65536) 1, dgs 15 f d, by rw [if_neg hne], dgs_digR _ _ _, dgs_digR _ _ _, dgs_ne _ _ _, by omega, by omega, ⟨fun h => absurd h hne, fun h => absurd h hr⟩, hW, ?_, ?_, hW1⟩
    · rw [hv, hlen]
      have e16 : (10 : Int) ^ (16 - d) * 10 ^ d = 10000000000000000 := by
        rw [← Int.pow_add, show 16 - d + d = 16 by omega]
        decide
      have pd : 0 < (10 : Int) ^ d := Int.pow_pos (by decide)
      have a1 : f * 10 ^ (16 - d) * 10 ^ d = f * 10000000000000000 := by rw [Int.mul_assoc, e16]
      rw [s3] at a1
      generalize (10 : Int) ^ d = q at *
      have a2 : m % 65536 * 152587890625 * q = 152587890625 * (m % 65536 * q) := by rw [Int.mul_comm (m % 65536), Int.mul_assoc]
      rw [a2] at a1
      omega
    · obtain ⟨l, e⟩ := dgs_last 15 f d
      rw [e]
      intro c hc
      simp at hc
      omega
end Go.Proofs.Ytjjllfaehipemaa
