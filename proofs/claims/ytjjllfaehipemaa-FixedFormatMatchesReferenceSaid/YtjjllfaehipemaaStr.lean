/-
  Plain facts on decimal texts; nothing of the program.
-/
import Derived.Test.YtjjllfaehipemaaMath
namespace Go.Proofs.Ytjjllfaehipemaa
def isD (c : UInt8) : Prop := 48 ≤ (c.toNat : Int) ∧ (c.toNat : Int) ≤ 57
instance (c : UInt8) : Decidable (isD c) := inferInstanceAs (Decidable (_ ∧ _))
/-- How many digits a text begins with. -/
def ndl : List UInt8 → Nat
  | [] => 0
  | c :: l => if isD c then ndl l + 1 else 0
theorem ndl_le : ∀ l, ndl l ≤ l.length
  | [] => by simp [ndl]
  | c :: l => by have := ndl_le l; unfold ndl; split <;> simp <;> omega
theorem ndl_step : ∀ (l : List UInt8) (k : Nat) (h : k < l.length), k ≤ ndl l → isD l[k] → k + 1 ≤ ndl l
  | c :: l, 0, h, _, hd => by simp at hd; simp [ndl, hd]
  | c :: l, k + 1, h, hk, hd => by
    unfold ndl at hk ⊢
    by_cases hc : isD c
    · simp only [if_pos hc] at hk ⊢
      have := ndl_step l k (by simpa using h) (by omega) (by simpa using hd)
      omega
    · simp only [if_neg hc] at hk
      omega
theorem ndl_stop : ∀ (l : List UInt8) (k : Nat) (h : k < l.length), k ≤ ndl l → ¬ isD l[k] → ndl l = k
  | c :: l, 0, h, _, hd => by simp at hd; simp [ndl, hd]
  | c :: l, k + 1, h, hk, hd => by
    unfold ndl at hk ⊢
    by_cases hc : isD c
    · simp only [if_pos hc] at hk ⊢
      have := ndl_stop l k (by simpa using h) (by omega) (by simpa using hd)
      omega
    · simp only [if_neg hc] at hk
      omega
theorem ndl_digit : ∀ (l : List UInt8) (k : Nat) (h : k < l.length), k < ndl l → isD l[k]
  | c :: l, 0, h, hk => by
    unfold ndl at hk
    by_cases hc : isD c
    · simpa using hc
    · simp only [if_neg hc] at hk; omega
  | c :: l, k + 1, h, hk => by
    unfold ndl at hk
    by_cases hc : isD c
    · simp only [if_pos hc] at hk
      have := ndl_digit l k (by simpa using h) (by omega)
      simpa using this
    · simp only [if_neg hc] at hk; omega
def nd (s : ByteArray) : Nat := ndl s.data.toList
theorem nd_le (s : ByteArray) : nd s ≤ s.size := by have := ndl_le s.data.toList; simpa [nd] using this
theorem nd_step (s : ByteArray) (k : Nat) (h : k < s.size) (hk : k ≤ nd s) (h1 : 48 ≤ (s[k].toNat : Int)) (h2 : (s[k].toNat : Int) ≤ 57) : k + 1 ≤ nd s := ndl_step s.data.toList k (by simpa using h) hk ⟨h1, h2⟩
theorem nd_stop (s : ByteArray) (k : Nat) (h : k < s.size) (hk : k ≤ nd s) (hn : (s[k].toNat : Int) < 48 ∨ 57 < (s[k].toNat : Int)) : nd s = k := ndl_stop s.data.toList k (by simpa using h) hk (fun hd => by have a : 48 ≤ (s[k].toNat : Int) := hd.1; have b : (s[k].toNat : Int) ≤ 57 := hd.2; omega)
theorem nd_end (s : ByteArray) (hk : s.size ≤ nd s) : nd s = s.size := by have := nd_le s; omega

/-- A digit's value. -/
def dv (c : UInt8) : Int := (c.toNat : Int) - 48
theorem dv_bd {c : UInt8} (h : isD c) : 0 ≤ dv c ∧ dv c ≤ 9 := by unfold isD at h; unfold dv; omega
def allD (l : List UInt8) : Prop := ∀ c ∈ l, isD c
theorem allD_get {l : List UInt8} (h : allD l) (k : Nat) (hk : k < l.length) : isD l[k] := h _ (List.getElem_mem hk)

/-- The value of digits, no greater than cap. -/
def wv (cap : Int) (l : List UInt8) : Int := l.foldl (fun a c => min (10 * a + dv c) cap) 0
theorem wv_snoc (cap : Int) (l : List UInt8) (c : UInt8) : wv cap (l ++ [c]) = min (10 * wv cap l + dv c) cap := by simp [wv]
theorem wv_bd' {cap : Int} : ∀ (l : List UInt8) (a : Int), 0 ≤ a → a ≤ cap → allD l → 0 ≤ l.foldl (fun a c => min (10 * a + dv c) cap) a ∧ l.foldl (fun a c => min (10 * a + dv c) cap) a ≤ cap
  | [], a, h0, h1, _ => ⟨h0, h1⟩
  | c :: l, a, h0, h1, h => by
    have d := dv_bd (h c (by simp))
    exact wv_bd' l (min (10 * a + dv c) cap) (by omega) (by omega) (fun x hx => h x (by simp [hx]))
theorem wv_bd {cap : Int} (hc : 0 ≤ cap) (l : List UInt8) (h : allD l) : 0 ≤ wv cap l ∧ wv cap l ≤ cap := wv_bd' l 0 (by omega) hc h
/-- The first k digits of a fraction, filled up with noughts. -/
def fdg (l : List UInt8) : Nat → Int
  | 0 => 0
  | k + 1 => 10 * fdg l k + if k < l.length then dv (l.getD k 48) else 0
theorem fdg_bd (l : List UInt8) (h : allD l) : ∀ k, 0 ≤ fdg l k ∧ fdg l k < 10 ^ k
  | 0 => by simp [fdg]
  | k + 1 => by
    have i := fdg_bd l h k
    rw [Int.pow_succ]
    unfold fdg
    split
    · rename_i hk
      have d := dv_bd (allD_get h k hk)
      have e : l.getD k 48 = l[k] := by simp [List.getD, List.getElem?_eq_getElem hk]
      rw [e]
      omega
    · omega
/-- Is there anything behind the first 16 digits? -/
def stick (l : List UInt8) : Int := if (l.drop 16).all (· == 48) then 0 else 1
theorem stick_one (l : List UInt8) (j : Nat) (h : j < l.length) (h16 : 16 ≤ j) (hne : ¬ (l[j].toNat : Int) = 48) : stick l = 1 := by
  unfold stick
  rw [if_neg]
  intro ha
  rw [List.all_eq_true] at ha
  have := ha l[j] (by
    have hm : (l.drop 16)[j - 16]? = some l[j] := by rw [List.getElem?_drop, show 16 + (j - 16) = j by omega, List.getElem?_eq_getElem h]
    exact List.mem_of_getElem? hm)
  simp at this
  rw [this] at hne
  exact hne rfl
theorem stick_zero (l : List UInt8) (ha : ∀ j, 16 ≤ j → (h : j < l.length) → (l[j].toNat : Int) = 48) : stick l = 0 := by
  unfold stick
  rw [if_pos]
  rw [List.all_eq_true]
  intro x hx
  obtain ⟨i, hi, rfl⟩ := List.getElem_of_mem hx
  rw [List.getElem_drop]
  have hi' : 16 + i < l.length := by simp at hi; omega
  have := ha (16 + i) (by omega) hi'
  have e : l[16 + i] = 48 := by apply UInt8.toNat_inj.1; exact Int.ofNat_inj.1 this
  rw [e]
  rfl
theorem pow10_le {k : Nat} (h : k ≤ 16) : (10 : Int) ^ k ≤ 10000000000000000 := by
  have := Nat.pow_le_pow_right (n := 10) (by decide) h
  have e : ((10 ^ k : Nat) : Int) ≤ ((10 ^ 16 : Nat) : Int) := Int.ofNat_le.2 this
  rw [Int.natCast_pow] at e
  exact e
theorem fdg_in (l : List UInt8) (k : Nat) (h : k < l.length) : fdg l (k + 1) = fdg l k * 10 + ((l[k].toNat : Int) - 48) := by
  have e : l.getD k 48 = l[k] := by simp [List.getD, List.getElem?_eq_getElem h]
  rw [fdg, if_pos h, e, dv]
  omega
theorem fdg_out (l : List UInt8) (k : Nat) (h : ¬ k < l.length) : fdg l (k + 1) = fdg l k * 10 := by rw [fdg, if_neg h]; omega
def fracD (l : List UInt8) : Int := 10 * fdg l 16 + stick l
end Go.Proofs.Ytjjllfaehipemaa
