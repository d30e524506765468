/-
  Plain facts on rounded quotients; nothing of the program.
-/
import Derived.Below
namespace Go.Proofs.Ytecmgiihacigaaa
/-- n / d rounded down, and rounded up. -/
def dn (n d : Int) : Int := n.fdiv d
def up (n d : Int) : Int := -((-n).fdiv d)

theorem dn_pos (n : Int) {d : Int} (h : 0 < d) : dn n d = n / d := Int.fdiv_eq_ediv_of_nonneg n (by omega)
theorem up_pos (n : Int) {d : Int} (h : 0 < d) : up n d = -((-n) / d) := by unfold up; rw [Int.fdiv_eq_ediv_of_nonneg _ (by omega)]
theorem dn_flip (n d : Int) : dn (-n) (-d) = dn n d := Int.neg_fdiv_neg n d
theorem up_flip (n d : Int) : up (-n) (-d) = up n d := by unfold up; rw [Int.neg_fdiv_neg]
theorem dn_neg (n d : Int) : dn (-n) d = -up n d := by unfold dn up; omega
theorem up_neg (n d : Int) : up (-n) d = -dn n d := by unfold dn up; rw [Int.neg_neg]

/-- What encloses: for d > 0. -/
theorem dn_mul (n : Int) {d : Int} (h : 0 < d) : dn n d * d ≤ n ∧ n < dn n d * d + d := by
  rw [dn_pos n h]
  have e := Int.mul_ediv_add_emod n d
  have a := Int.emod_nonneg n (b := d) (by omega)
  have b := Int.emod_lt_of_pos n h
  rw [Int.mul_comm] at e
  omega
theorem up_mul (n : Int) {d : Int} (h : 0 < d) : n ≤ up n d * d ∧ up n d * d < n + d := by
  have := dn_mul (-n) h
  rw [dn_neg, Int.neg_mul] at this
  omega
theorem dn_le {n m d : Int} (h : 0 < d) (hm : m * d ≤ n) : m ≤ dn n d := by rw [dn_pos n h]; exact (Int.le_ediv_iff_mul_le h).2 hm
theorem lt_dn {n m d : Int} (h : 0 < d) (hm : n < m * d) : dn n d < m := by rw [dn_pos n h]; exact (Int.ediv_lt_iff_lt_mul h).2 hm
theorem dn_is {n m d : Int} (h : 0 < d) (h1 : m * d ≤ n) (h2 : n < m * d + d) : dn n d = m := by
  have a := dn_le h h1
  have b := lt_dn (n := n) (m := m + 1) h (by rw [Int.add_mul]; omega)
  omega
theorem up_is {n m d : Int} (h : 0 < d) (h1 : n ≤ m * d) (h2 : m * d < n + d) : up n d = m := by
  have := dn_is (n := -n) (m := -m) h (by rw [Int.neg_mul]; omega) (by rw [Int.neg_mul]; omega)
  rw [dn_neg] at this
  omega
theorem dn_mono {n m d : Int} (h : 0 < d) (hm : n ≤ m) : dn n d ≤ dn m d := dn_le h (by have := (dn_mul n h).1; omega)
theorem up_mono {n m d : Int} (h : 0 < d) (hm : n ≤ m) : up n d ≤ up m d := by
  have := dn_mono (n := -m) (m := -n) h (by omega)
  rw [dn_neg, dn_neg] at this
  omega
theorem up_dn (n : Int) {d : Int} (h : 0 < d) : dn n d ≤ up n d ∧ up n d ≤ dn n d + 1 := by
  have a := dn_mul n h
  constructor
  · refine Int.not_lt.1 fun hc => ?_
    have := lt_dn (n := n) (m := dn n d) h (by
      have b := (up_mul n h).1
      have c : up n d * d ≤ (dn n d - 1) * d := Int.mul_le_mul_of_nonneg_right (by omega) (by omega)
      rw [Int.sub_mul] at c
      omega)
    omega
  · have b : up n d ≤ dn n d + 1 := by
      refine Int.not_lt.1 fun hc => ?_
      have b := (up_mul n h).2
      have c : (dn n d + 2) * d ≤ up n d * d := Int.mul_le_mul_of_nonneg_right (by omega) (by omega)
      rw [Int.add_mul] at c
      omega
    exact b
theorem dn_mul_self (m : Int) {d : Int} (h : 0 < d) : dn (m * d) d = m := dn_is h (by omega) (by omega)
theorem up_mul_self (m : Int) {d : Int} (h : 0 < d) : up (m * d) d = m := up_is h (by omega) (by omega)
/-- The two are equal exactly where the division leaves nothing. -/
theorem dn_eq_up (n : Int) {d : Int} (h : 0 < d) : dn n d = up n d ↔ n % d = 0 := by
  have e := Int.mul_ediv_add_emod n d
  rw [Int.mul_comm] at e
  have a := up_mul n h
  have a' := dn_mul n h
  constructor
  · intro hh
    rw [← hh] at a
    rw [dn_pos n h] at a
    have := Int.emod_nonneg n (b := d) (by omega)
    omega
  · intro hh
    rw [hh] at e
    have e' : n = n / d * d := by omega
    rw [e', dn_mul_self _ h, up_mul_self _ h]

theorem exact_pos {n d : Int} (h : 0 < d) (hr : n.tmod d = 0) : dn n d = n.tdiv d ∧ up n d = n.tdiv d := by
  have e := Int.mul_tdiv_add_tmod n d
  rw [Int.mul_comm] at e
  exact ⟨dn_is h (by omega) (by omega), up_is h (by omega) (by omega)⟩
theorem below_pos {n d : Int} (h : 0 < d) (hr : n.tmod d < 0) : dn n d = n.tdiv d - 1 ∧ up n d = n.tdiv d := by
  have e := Int.mul_tdiv_add_tmod n d
  have b := Int.lt_tmod_of_pos n h
  rw [Int.mul_comm] at e
  exact ⟨dn_is h (by rw [Int.sub_mul]; omega) (by rw [Int.sub_mul]; omega), up_is h (by omega) (by omega)⟩
theorem above_pos {n d : Int} (h : 0 < d) (hr : 0 < n.tmod d) : dn n d = n.tdiv d ∧ up n d = n.tdiv d + 1 := by
  have e := Int.mul_tdiv_add_tmod n d
  have b := Int.tmod_lt_of_pos n h
  rw [Int.mul_comm] at e
  exact ⟨dn_is h (by omega) (by omega), up_is h (by rw [Int.add_mul]; omega) (by rw [Int.add_mul]; omega)⟩
theorem tmod_flip (n d : Int) : (-n).tmod (-d) = -n.tmod d := by rw [Int.tmod_neg, Int.neg_tmod]
theorem exact_any {n d : Int} (h : d ≠ 0) (hr : n.tmod d = 0) : dn n d = n.tdiv d ∧ up n d = n.tdiv d := by
  rcases Int.lt_or_gt_of_ne h with h | h
  · have := exact_pos (n := -n) (d := -d) (by omega) (by rw [tmod_flip]; omega)
    rwa [dn_flip, up_flip, Int.neg_tdiv_neg] at this
  · exact exact_pos h hr
theorem below_any {n d : Int} (hr : (0 < d ∧ n.tmod d < 0) ∨ (d < 0 ∧ 0 < n.tmod d)) : dn n d = n.tdiv d - 1 ∧ up n d = n.tdiv d := by
  rcases hr with ⟨hd, hr⟩ | ⟨hd, hr⟩
  · exact below_pos hd hr
  · have := below_pos (n := -n) (d := -d) (by omega) (by rw [tmod_flip]; omega)
    rwa [dn_flip, up_flip, Int.neg_tdiv_neg] at this
theorem above_any {n d : Int} (hr : (0 < d ∧ 0 < n.tmod d) ∨ (d < 0 ∧ n.tmod d < 0)) : dn n d = n.tdiv d ∧ up n d = n.tdiv d + 1 := by
  rcases hr with ⟨hd, hr⟩ | ⟨hd, hr⟩
  · exact above_pos hd hr
  · have := above_pos (n := -n) (d := -d) (by omega) (by rw [tmod_flip]; omega)
    rwa [dn_flip, up_flip, Int.neg_tdiv_neg] at this
/-- A quotient is no greater than what is divided. -/
theorem tdiv_bound (n d B : Int) (h1 : -B ≤ n) (h2 : n ≤ B) : -B ≤ n.tdiv d ∧ n.tdiv d ≤ B := by
  have h := Int.natAbs_tdiv_le_natAbs n d
  omega
theorem mul_bound (a b A B : Int) (h1 : -A ≤ a) (h2 : a ≤ A) (h3 : -B ≤ b) (h4 : b ≤ B) : -(A * B) ≤ a * b ∧ a * b ≤ A * B := by
  have x := Int.natAbs_mul a b
  have y : a.natAbs * b.natAbs ≤ A.natAbs * B.natAbs := Nat.mul_le_mul (by omega) (by omega)
  have z := Int.natAbs_mul A B
  have p : 0 ≤ A * B := Int.mul_nonneg (by omega) (by omega)
  omega

/-- The square root rounded down. -/
def isqN : Nat → Nat
  | 0 => 0
  | n + 1 => if (isqN n + 1) * (isqN n + 1) ≤ n + 1 then isqN n + 1 else isqN n
theorem isqN_spec : ∀ n : Nat, isqN n * isqN n ≤ n ∧ n < (isqN n + 1) * (isqN n + 1)
  | 0 => by simp [isqN]
  | n + 1 => by
    have h := isqN_spec n
    unfold isqN
    split
    · rename_i hc
      refine ⟨hc, ?_⟩
      have e : (isqN n + 1 + 1) * (isqN n + 1 + 1) = (isqN n + 1) * (isqN n + 1) + 2 * (isqN n + 1) + 1 := by simp only [Nat.add_mul, Nat.mul_add]; omega
      rw [e]
      omega
    · omega
def isq (n : Int) : Int := (isqN n.toNat : Nat)
theorem isq_spec {n : Int} (h : 0 ≤ n) : 0 ≤ isq n ∧ isq n * isq n ≤ n ∧ n < (isq n + 1) * (isq n + 1) := by
  have a := isqN_spec n.toNat
  have b : ((isqN n.toNat * isqN n.toNat : Nat) : Int) ≤ (n.toNat : Int) := Int.ofNat_le.2 a.1
  have c : (n.toNat : Int) < (((isqN n.toNat + 1) * (isqN n.toNat + 1) : Nat) : Int) := Int.ofNat_lt.2 a.2
  rw [Int.toNat_of_nonneg h] at b c
  rw [Int.natCast_mul] at b c
  refine ⟨by unfold isq; omega, by unfold isq; exact b, ?_⟩
  unfold isq
  simpa using c
theorem sq_lt {a b : Int} (h : a * a < b * b) (h0 : 0 ≤ b) : a < b := by
  refine Int.not_le.1 fun hc => ?_
  have := Int.mul_le_mul hc hc h0 (by omega)
  omega
theorem sq_le {a b : Int} (h0 : 0 ≤ a) (h : a ≤ b) : a * a ≤ b * b := Int.mul_le_mul h h h0 (by omega)
theorem le_isq {n q : Int} (h : 0 ≤ n) (hq : q * q ≤ n) : q ≤ isq n := by
  have a := isq_spec h
  have := sq_lt (a := q) (b := isq n + 1) (by omega) (by omega)
  omega
theorem isq_lt {n q : Int} (h : 0 ≤ n) (hq : n < q * q) (h0 : 0 ≤ q) : isq n < q := by
  have a := isq_spec h
  exact sq_lt (by omega) h0
theorem isq_is {n q : Int} (h0 : 0 ≤ q) (h1 : q * q ≤ n) (h2 : n < (q + 1) * (q + 1)) : isq n = q := by
  have hn : 0 ≤ n := by have := Int.mul_nonneg h0 h0; omega
  have a := le_isq hn h1
  have b := isq_lt hn h2 (by omega)
  omega
theorem isq_mono {n m : Int} (h : 0 ≤ n) (hm : n ≤ m) : isq n ≤ isq m := le_isq (by omega) (by have := isq_spec h; omega)
theorem isq_pos {n : Int} (h : 1 ≤ n) : 1 ≤ isq n := le_isq (by omega) (by omega)
/-- A step of Newton's never falls below the root. -/
theorem newton_ge {n r : Int} (h : 0 ≤ n) (hr : 1 ≤ r) : isq n ≤ (r + n / r) / 2 := by
  have a := isq_spec h
  generalize isq n = s at a
  have sq : 0 ≤ (r - s) * (r - s) := by rcases Int.le_total 0 (r - s) with h | h; exact Int.mul_nonneg h h; exact Int.mul_nonneg_of_nonpos_of_nonpos h h
  have e : (r - s) * (r - s) = r * r - 2 * (s * r) + s * s := by simp only [Int.sub_mul, Int.mul_sub, Int.mul_comm r s]; omega
  have m : 2 * s - r ≤ n / r := by
    refine (Int.le_ediv_iff_mul_le (by omega)).2 ?_
    rw [Int.sub_mul, Int.mul_assoc]
    omega
  omega
/-- Where the step no longer falls, the root is there. -/
theorem newton_end {n r : Int} (h : 0 ≤ n) (hr : 1 ≤ r) (hge : isq n ≤ r) (hs : r ≤ (r + n / r) / 2) : isq n = r := by
  have m : r ≤ n / r := by omega
  have := (Int.le_ediv_iff_mul_le (by omega)).1 m
  have := le_isq h this
  omega
end Go.Proofs.Ytecmgiihacigaaa
