/-
  Plain facts on the values of decimal texts; nothing of the program.
-/
import Derived.Test.YtjjllfaehipemaaStr
namespace Go.Proofs.Ytjjllfaehipemaa
/-- The value of digits. -/
def val (l : List UInt8) : Int := l.foldl (fun a c => 10 * a + dv c) 0
theorem val_snoc (l : List UInt8) (c : UInt8) : val (l ++ [c]) = 10 * val l + dv c := by simp [val]
theorem allD_app {a b : List UInt8} : allD (a ++ b) ↔ allD a ∧ allD b := by
  unfold allD
  constructor
  · exact fun h => ⟨fun c hc => h c (by simp [hc]), fun c hc => h c (by simp [hc])⟩
  · intro h c hc
    rcases List.mem_append.1 hc with hc | hc
    · exact h.1 c hc
    · exact h.2 c hc
theorem fold_val : ∀ (l : List UInt8) (a : Int), l.foldl (fun a c => 10 * a + dv c) a = a * 10 ^ l.length + val l
  | [], a => by simp [val]
  | c :: l, a => by
    have h1 := fold_val l (10 * a + dv c)
    have h2 := fold_val l (10 * 0 + dv c)
    have h3 : val (c :: l) = (10 * 0 + dv c) * 10 ^ l.length + val l := h2
    rw [h3]
    show l.foldl (fun a c => 10 * a + dv c) (10 * a + dv c) = _
    rw [h1, List.length_cons, Int.pow_succ]
    generalize (10 : Int) ^ l.length = p
    simp only [Int.add_mul, Int.mul_assoc, Int.mul_zero, Int.zero_add]
    rw [Int.mul_left_comm 10 a p, Int.mul_comm p 10]
    omega
theorem val_app (a b : List UInt8) : val (a ++ b) = val a * 10 ^ b.length + val b := by
  have := fold_val b (val a)
  unfold val at this ⊢
  rw [List.foldl_append]
  exact this
theorem val_bd : ∀ (l : List UInt8), allD l → 0 ≤ val l ∧ val l < 10 ^ l.length
  | [], _ => by simp [val]
  | c :: l, h => by
    have i := val_bd l (fun x hx => h x (by simp [hx]))
    have d := dv_bd (h c (by simp))
    have e := val_app [c] l
    have e1 : val [c] = dv c := by simp [val]
    rw [e1] at e
    have e2 : c :: l = [c] ++ l := rfl
    rw [e2, e, List.length_append, List.length_singleton, Nat.add_comm, Int.pow_succ]
    have p : 0 < (10 : Int) ^ l.length := Int.pow_pos (by decide)
    generalize (10 : Int) ^ l.length = q at *
    have m1 : 0 ≤ dv c * q := Int.mul_nonneg d.1 (by omega)
    have m2 : dv c * q ≤ 9 * q := Int.mul_le_mul_of_nonneg_right d.2 (by omega)
    omega
theorem val_zeros : ∀ k : Nat, val (List.replicate k 48) = 0
  | 0 => rfl
  | k + 1 => by
    have : List.replicate (k + 1) (48 : UInt8) = List.replicate k 48 ++ [48] := List.replicate_succ'
    rw [this, val_snoc, val_zeros k]
    rfl
theorem fdg_val (l : List UInt8) : ∀ k, k ≤ l.length → fdg l k = val (l.take k)
  | 0, _ => by simp [fdg, val]
  | k + 1, h => by
    rw [fdg_in l k (by omega), fdg_val l k (by omega), List.take_succ_eq_append_getElem (by omega), val_snoc]
    unfold dv
    omega
theorem fdg_past (l : List UInt8) : ∀ j, fdg l (l.length + j) = val l * 10 ^ j
  | 0 => by rw [Nat.add_zero, fdg_val l _ (Nat.le_refl _), List.take_length]; simp
  | j + 1 => by
    have e : l.length + (j + 1) = l.length + j + 1 := rfl
    rw [e, fdg_out l _ (by omega), fdg_past l j, Int.pow_succ, Int.mul_assoc]

theorem dn_scale (n : Int) {d c : Int} (hd : 0 < d) (hc : 0 < c) : dn (n * c) (d * c) = dn n d := by
  have h := dn_mul n hd
  refine dn_is (Int.mul_pos hd hc) ?_ ?_
  · rw [← Int.mul_assoc]
    exact Int.mul_le_mul_of_nonneg_right h.1 (by omega)
  · rw [← Int.mul_assoc, ← Int.add_mul]
    exact Int.mul_lt_mul_of_pos_right h.2 hc
theorem up_scale (n : Int) {d c : Int} (hd : 0 < d) (hc : 0 < c) : up (n * c) (d * c) = up n d := by
  have h := dn_scale (-n) hd hc
  rw [Int.neg_mul, dn_neg, dn_neg] at h
  omega

theorem all48 : ∀ (l : List UInt8), allD l → (l.all (· == 48) = true ↔ val l = 0)
  | [], _ => by simp [val]
  | c :: l, h => by
    have i := all48 l (fun x hx => h x (by simp [hx]))
    have b := val_bd l (fun x hx => h x (by simp [hx]))
    have d := dv_bd (h c (by simp))
    have e := val_app [c] l
    have e1 : val [c] = dv c := by simp [val]
    rw [e1] at e
    have e2 : c :: l = [c] ++ l := rfl
    have p : 0 < (10 : Int) ^ l.length := Int.pow_pos (by decide)
    rw [List.all_cons, Bool.and_eq_true, i, e2, e]
    have hc : ((c == 48) = true) ↔ dv c = 0 := by
      unfold dv
      constructor
      · intro h; simp at h; subst h; rfl
      · intro h
        have : c = 48 := by apply UInt8.toNat_inj.1; have : (c.toNat : Int) = 48 := by omega
                            exact Int.ofNat_inj.1 this
        simp [this]
    rw [hc]
    constructor
    · intro ⟨h1, h2⟩; rw [h1, h2]; simp
    · intro h0
      have m : 0 ≤ dv c * 10 ^ l.length := Int.mul_nonneg d.1 (by omega)
      have z : dv c * 10 ^ l.length = 0 := by omega
      refine ⟨?_, by omega⟩
      rcases Int.mul_eq_zero.1 z with z | z <;> omega

/-- The fraction's value in units, rounded: the sixteen places and what is behind them are enough. -/
theorem frac_round (l : List UInt8) (h : allD l) : dn (fracD l) 1525878906250 = dn (val l * 65536) (10 ^ l.length) ∧ up (fracD l) 1525878906250 = up (val l * 65536) (10 ^ l.length) := by
  have p : 0 < (10 : Int) ^ l.length := Int.pow_pos (by decide)
  rcases Nat.lt_or_ge 16 l.length with hl | hl
  · have hd : allD (l.drop 16) := fun c hc => h c (List.mem_of_mem_drop hc)
    have e := val_app (l.take 16) (l.drop 16)
    rw [List.take_append_drop, ← fdg_val l 16 (by omega), List.length_drop] at e
    have b := val_bd _ hd
    rw [List.length_drop] at b
    have hp : (10 : Int) ^ l.length = 10000000000000000 * 10 ^ (l.length - 16) := by
      rw [show (10000000000000000 : Int) = 10 ^ 16 by decide, ← Int.pow_add]
      congr 1
      omega
    have st : stick l = if val (l.drop 16) = 0 then 0 else 1 := by
      unfold stick
      by_cases hz : val (l.drop 16) = 0
      · rw [if_pos ((all48 _ hd).2 hz), if_pos hz]
      · rw [if_neg (fun hh => hz ((all48 _ hd).1 hh)), if_neg hz]
    unfold fracD
    rw [e, hp, st]
    have m : 0 < (10 : Int) ^ (l.length - 16) := Int.pow_pos (by decide)
    generalize (10 : Int) ^ (l.length - 16) = M at *
    generalize val (l.drop 16) = R at *
    generalize fdg l 16 = P
    have hq : P = P / 152587890625 * 152587890625 + P % 152587890625 := by omega
    have ht1 : 0 ≤ P % 152587890625 := by omega
    have ht2 : P % 152587890625 ≤ 152587890624 := by omega
    generalize P / 152587890625 = q at *
    generalize P % 152587890625 = t at *
    subst hq
    have x1 : (q * 152587890625 + t) * M = 152587890625 * (q * M) + t * M := by rw [Int.add_mul, Int.mul_comm q, Int.mul_assoc]
    have x2 : ∀ a : Int, a * (10000000000000000 * M) = 10000000000000000 * (a * M) := fun a => Int.mul_left_comm _ _ _
    have t1 : 0 ≤ t * M := Int.mul_nonneg ht1 (by omega)
    have t2 : t * M ≤ 152587890624 * M := Int.mul_le_mul_of_nonneg_right ht2 (by omega)
    rw [x1]
    have hM : 0 < 10000000000000000 * M := by omega
    refine ⟨(dn_is (m := q) (by decide) (by split <;> omega) (by split <;> omega)).trans (dn_is (m := q) hM (by rw [x2]; omega) (by rw [x2]; omega)).symm, ?_⟩
    by_cases hz : t = 0 ∧ R = 0
    · obtain ⟨rfl, rfl⟩ := hz
      refine (up_is (m := q) (by decide) (by simp; omega) (by simp; omega)).trans (up_is (m := q) hM (by rw [x2]; omega) (by rw [x2]; omega)).symm
    · have x3 : (q + 1) * M = q * M + M := by rw [Int.add_mul, Int.one_mul]
      have pos : 0 < t * M + R := by
        rcases Int.lt_or_eq_of_le ht1 with h1 | h1
        · have : 1 * M ≤ t * M := Int.mul_le_mul_of_nonneg_right (by omega) (by omega)
          omega
        · subst h1
          omega
      refine (up_is (m := q + 1) (by decide) (by split <;> omega) (by split <;> omega)).trans (up_is (m := q + 1) hM (by rw [x2, x3]; omega) (by rw [x2, x3]; omega)).symm
  · have e := fdg_past l (16 - l.length)
    rw [show l.length + (16 - l.length) = 16 by omega] at e
    have st : stick l = 0 := by unfold stick; rw [List.drop_eq_nil_of_le hl]; rfl
    have hp : (10 : Int) ^ l.length * 10 ^ (16 - l.length) = 152587890625 * 65536 := by
      rw [← Int.pow_add, show l.length + (16 - l.length) = 16 by omega]
      decide
    have m : 0 < (10 : Int) ^ (16 - l.length) := Int.pow_pos (by decide)
    unfold fracD
    rw [e, st]
    have x1 : 10 * (val l * 10 ^ (16 - l.length)) + 0 = val l * 10 ^ (16 - l.length) * 10 := by omega
    have x2 : (1525878906250 : Int) = 152587890625 * 10 := by decide
    rw [x1, x2, dn_scale _ (by decide) (by decide), up_scale _ (by decide) (by decide), ← dn_scale (val l * 65536) p m, ← up_scale (val l * 65536) p m, hp]
    have x3 : val l * 65536 * 10 ^ (16 - l.length) = val l * 10 ^ (16 - l.length) * 65536 := by rw [Int.mul_assoc, Int.mul_comm 65536, Int.mul_assoc]
    rw [x3, dn_scale _ (by decide) (by decide), up_scale _ (by decide) (by decide)]
    exact ⟨rfl, rfl⟩

theorem wv_fold {cap : Int} (hc : 0 ≤ cap) : ∀ (l : List UInt8) (a : Int), 0 ≤ a → allD l → l.foldl (fun a c => min (10 * a + dv c) cap) (min a cap) = min (l.foldl (fun a c => 10 * a + dv c) a) cap
  | [], _, _, _ => rfl
  | c :: l, a, h0, h => by
    have d := dv_bd (h c (by simp))
    have i := wv_fold hc l (10 * a + dv c) (by omega) (fun x hx => h x (by simp [hx]))
    show l.foldl (fun a c => min (10 * a + dv c) cap) (min (10 * min a cap + dv c) cap) = min (l.foldl (fun a c => 10 * a + dv c) (10 * a + dv c)) cap
    rw [← i]
    congr 1
    omega
theorem wv_val {cap : Int} (hc : 0 ≤ cap) (l : List UInt8) (h : allD l) : wv cap l = min (val l) cap := by
  have := wv_fold hc l 0 (by omega) h
  rw [show min (0 : Int) cap = 0 by omega] at this
  exact this
end Go.Proofs.Ytjjllfaehipemaa
