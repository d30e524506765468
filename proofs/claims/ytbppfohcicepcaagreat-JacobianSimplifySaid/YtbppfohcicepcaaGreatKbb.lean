/-
  Math Iv
-/
import Derived.Test.YtbppfohcicepcaaGreatKba
import Derived.Below
namespace Go.Proofs.YtbppfohcicepcaaGreat
/-- n / d rounded down, and rounded up. -/
def dn (n d : Int) : Int := n.fdiv d
def up (n d : Int) : Int := -((-n).fdiv d)

theorem dn_pos (n : Int) {d : Int} (h : 0 < d) : dn n d = n / d := Int.fdiv_eq_ediv_of_nonneg n (by omega)
theorem up_pos (n : Int) {d : Int} (h : 0 < d) : up n d = -((-n) / d) := by unfold up; rw [Int.fdiv_eq_ediv_of_nonneg _ (by omega)]
theorem dn_flip (n d : Int) : dn (-n) (-d) = dn n d := Int.neg_fdiv_neg n d
theorem up_flip (n d : Int) : up (-n) (-d) = up n d := by unfold up; rw [Int.neg_fdiv_neg]
theorem dn_neg (n d : Int) : dn (-n) d = -up n d := by unfold dn up; omega
/-- What encloses: for d > 0. -/
theorem dn_mul (n : Int) {d : Int} (h : 0 < d) : dn n d * d ≤ n ∧ n < dn n d * d + d := by
  rw [dn_pos n h]
  have e := Int.mul_ediv_add_emod n d
  have a := Int.emod_nonneg n (b := d) (by omega)
  have b := Int.emod_lt_of_pos n h
  rw [Int.mul_comm] at e
  omega
theorem up_mul (n : Int) {d : Int} (h : 0 < d) : n ≤ up n d * d ∧ up n d * d < n + d := by
  have := dn_mul (-n) h
  rw [dn_neg, Int.neg_mul] at this
  omega
theorem dn_le {n m d : Int} (h : 0 < d) (hm : m * d ≤ n) : m ≤ dn n d := by rw [dn_pos n h]; exact (Int.le_ediv_iff_mul_le h).2 hm
theorem lt_dn {n m d : Int} (h : 0 < d) (hm : n < m * d) : dn n d < m := by rw [dn_pos n h]; exact (Int.ediv_lt_iff_lt_mul h).2 hm
theorem dn_is {n m d : Int} (h : 0 < d) (h1 : m * d ≤ n) (h2 : n < m * d + d) : dn n d = m := by
  have a := dn_le h h1
  have b := lt_dn (n := n) (m := m + 1) h (by rw [Int.add_mul]; omega)
  omega
theorem up_is {n m d : Int} (h : 0 < d) (h1 : n ≤ m * d) (h2 : m * d < n + d) : up n d = m := by
  have := dn_is (n := -n) (m := -m) h (by rw [Int.neg_mul]; omega) (by rw [Int.neg_mul]; omega)
  rw [dn_neg] at this
  omega
theorem dn_mono {n m d : Int} (h : 0 < d) (hm : n ≤ m) : dn n d ≤ dn m d := dn_le h (by have := (dn_mul n h).1; omega)
theorem up_mono {n m d : Int} (h : 0 < d) (hm : n ≤ m) : up n d ≤ up m d := by
  have := dn_mono (n := -m) (m := -n) h (by omega)
  rw [dn_neg, dn_neg] at this
  omega
theorem up_dn (n : Int) {d : Int} (h : 0 < d) : dn n d ≤ up n d ∧ up n d ≤ dn n d + 1 := by
  have a := dn_mul n h
  constructor
  · refine Int.not_lt.1 fun hc => ?_
    have := lt_dn (n := n) (m := dn n d) h (by
      have b := (up_mul n h).1
      have c : up n d * d ≤ (dn n d - 1) * d := Int.mul_le_mul_of_nonneg_right (by omega) (by omega)
      rw [Int.sub_mul] at c
      omega)
    omega
  · have b : up n d ≤ dn n d + 1 := by
      refine Int.not_lt.1 fun hc => ?_
      have b := (up_mul n h).2
      have c : (dn n d + 2) * d ≤ up n d * d := Int.mul_le_mul_of_nonneg_right (by omega) (by omega)
      rw [Int.add_mul] at c
      omega
    exact b
theorem dn_mul_self (m : Int) {d : Int} (h : 0 < d) : dn (m * d) d = m := dn_is h (by omega) (by omega)
theorem up_mul_self (m : Int) {d : Int} (h : 0 < d) : up (m * d) d = m := up_is h (by omega) (by omega)
theorem exact_pos {n d : Int} (h : 0 < d) (hr : n.tmod d = 0) : dn n d = n.tdiv d ∧ up n d = n.tdiv d := by
  have e := Int.mul_tdiv_add_tmod n d
  rw [Int.mul_comm] at e
  exact ⟨dn_is h (by omega) (by omega), up_is h (by omega) (by omega)⟩
theorem below_pos {n d : Int} (h : 0 < d) (hr : n.tmod d < 0) : dn n d = n.tdiv d - 1 ∧ up n d = n.tdiv d := by
  have e := Int.mul_tdiv_add_tmod n d
  have b := Int.lt_tmod_of_pos n h
  rw [Int.mul_comm] at e
  exact ⟨dn_is h (by rw [Int.sub_mul]; omega) (by rw [Int.sub_mul]; omega), up_is h (by omega) (by omega)⟩
theorem above_pos {n d : Int} (h : 0 < d) (hr : 0 < n.tmod d) : dn n d = n.tdiv d ∧ up n d = n.tdiv d + 1 := by
  have e := Int.mul_tdiv_add_tmod n d
  have b := Int.tmod_lt_of_pos n h
  rw [Int.mul_comm] at e
  exact ⟨dn_is h (by omega) (by omega), up_is h (by rw [Int.add_mul]; omega) (by rw [Int.add_mul]; omega)⟩
theorem tmod_flip (n d : Int) : (-n).tmod (-d) = -n.tmod d := by rw [Int.tmod_neg, Int.neg_tmod]
theorem exact_any {n d : Int} (h : d ≠ 0) (hr : n.tmod d = 0) : dn n d = n.tdiv d ∧ up n d = n.tdiv d := by
  rcases Int.lt_or_gt_of_ne h with h | h
  · have := exact_pos (n := -n) (d := -d) (by omega) (by rw [tmod_flip]; omega)
    rwa [dn_flip, up_flip, Int.neg_tdiv_neg] at this
  · exact exact_pos h hr
theorem below_any {n d : Int} (hr : (0 < d ∧ n.tmod d < 0) ∨ (d < 0 ∧ 0 < n.tmod d)) : dn n d = n.tdiv d - 1 ∧ up n d = n.tdiv d := by
  rcases hr with ⟨hd, hr⟩ | ⟨hd, hr⟩
  · exact below_pos hd hr
  · have := below_pos (n := -n) (d := -d) (by omega) (by rw [tmod_flip]; omega)
    rwa [dn_flip, up_flip, Int.neg_tdiv_neg] at this
theorem above_any {n d : Int} (hr : (0 < d ∧ 0 < n.tmod d) ∨ (d < 0 ∧ n.tmod d < 0)) : dn n d = n.tdiv d ∧ up n d = n.tdiv d + 1 := by
  rcases hr with ⟨hd, hr⟩ | ⟨hd, hr⟩
  · exact above_pos hd hr
  · have := above_pos (n := -n) (d := -d) (by omega) (by rw [tmod_flip]; omega)
    rwa [dn_flip, up_flip, Int.neg_tdiv_neg] at this
/-- A quotient is no greater than what is divided. -/
theorem tdiv_bound (n d B : Int) (h1 : -B ≤ n) (h2 : n ≤ B) : -B ≤ n.tdiv d ∧ n.tdiv d ≤ B := by
  have h := Int.natAbs_tdiv_le_natAbs n d
  omega
theorem mul_bound (a b A B : Int) (h1 : -A ≤ a) (h2 : a ≤ A) (h3 : -B ≤ b) (h4 : b ≤ B) : -(A * B) ≤ a * b ∧ a * b ≤ A * B := by
  have x := Int.natAbs_mul a b
  have y : a.natAbs * b.natAbs ≤ A.natAbs * B.natAbs := Nat.mul_le_mul (by omega) (by omega)
  have z := Int.natAbs_mul A B
  have p : 0 ≤ A * B := Int.mul_nonneg (by omega) (by omega)
  omega

/-- The square root rounded down. -/
def isqN : Nat → Nat
  | 0 => 0
  | n + 1 => if (isqN n + 1) * (isqN n + 1) ≤ n + 1 then isqN n + 1 else isqN n
theorem isqN_spec : ∀ n : Nat, isqN n * isqN n ≤ n ∧ n < (isqN n + 1) * (isqN n + 1)
  | 0 => by simp [isqN]
  | n + 1 => by
    have h := isqN_spec n
    unfold isqN
    split
    · rename_i hc
      refine ⟨hc, ?_⟩
      have e : (isqN n + 1 + 1) * (isqN n + 1 + 1) = (isqN n + 1) * (isqN n + 1) + 2 * (isqN n + 1) + 1 := by simp only [Nat.add_mul, Nat.mul_add]; omega
      rw [e]
      omega
    · omega
def isq (n : Int) : Int := (isqN n.toNat : Nat)
theorem isq_spec {n : Int} (h : 0 ≤ n) : 0 ≤ isq n ∧ isq n * isq n ≤ n ∧ n < (isq n + 1) * (isq n + 1) := by
  have a := isqN_spec n.toNat
  have b : ((isqN n.toNat * isqN n.toNat : Nat) : Int) ≤ (n.toNat : Int) := Int.ofNat_le.2 a.1
  have c : (n.toNat : Int) < (((isqN n.toNat + 1) * (isqN n.toNat + 1) : Nat) : Int) := Int.ofNat_lt.2 a.2
  rw [Int.toNat_of_nonneg h] at b c
  rw [Int.natCast_mul] at b c
  refine ⟨by unfold isq; omega, by unfold isq; exact b, ?_⟩
  unfold isq
  simpa using c
theorem sq_lt {a b : Int} (h : a * a < b * b) (h0 : 0 ≤ b) : a < b := by
  refine Int.not_le.1 fun hc => ?_
  have := Int.mul_le_mul hc hc h0 (by omega)
  omega
theorem sq_le {a b : Int} (h0 : 0 ≤ a) (h : a ≤ b) : a * a ≤ b * b := Int.mul_le_mul h h h0 (by omega)
theorem le_isq {n q : Int} (h : 0 ≤ n) (hq : q * q ≤ n) : q ≤ isq n := by
  have a := isq_spec h
  have := sq_lt (a := q) (b := isq n + 1) (by omega) (by omega)
  omega
theorem isq_lt {n q : Int} (h : 0 ≤ n) (hq : n < q * q) (h0 : 0 ≤ q) : isq n < q := by
  have a := isq_spec h
  exact sq_lt (by omega) h0
theorem isq_is {n q : Int} (h0 : 0 ≤ q) (h1 : q * q ≤ n) (h2 : n < (q + 1) * (q + 1)) : isq n = q := by
  have hn : 0 ≤ n := by have := Int.mul_nonneg h0 h0; omega
  have a := le_isq hn h1
  have b := isq_lt hn h2 (by omega)
  omega
theorem isq_mono {n m : Int} (h : 0 ≤ n) (hm : n ≤ m) : isq n ≤ isq m := le_isq (by omega) (by have := isq_spec h; omega)
theorem isq_pos {n : Int} (h : 1 ≤ n) : 1 ≤ isq n := le_isq (by omega) (by omega)
/-- A step of Newton's never falls below the root. -/
theorem newton_ge {n r : Int} (h : 0 ≤ n) (hr : 1 ≤ r) : isq n ≤ (r + n / r) / 2 := by
  have a := isq_spec h
  generalize isq n = s at a
  have sq : 0 ≤ (r - s) * (r - s) := by rcases Int.le_total 0 (r - s) with h | h; exact Int.mul_nonneg h h; exact Int.mul_nonneg_of_nonpos_of_nonpos h h
  have e : (r - s) * (r - s) = r * r - 2 * (s * r) + s * s := by simp only [Int.sub_mul, Int.mul_sub, Int.mul_comm r s]; omega
  have m : 2 * s - r ≤ n / r := by
    refine (Int.le_ediv_iff_mul_le (by omega)).2 ?_
    rw [Int.sub_mul, Int.mul_assoc]
    omega
  omega
/-- Where the step no longer falls, the root is there. -/
theorem newton_end {n r : Int} (h : 0 ≤ n) (hr : 1 ≤ r) (hge : isq n ≤ r) (hs : r ≤ (r + n / r) / 2) : isq n = r := by
  have m : r ≤ n / r := by omega
  have := (Int.le_ediv_iff_mul_le (by omega)).1 m
  have := le_isq h this
  omega
end Go.Proofs.YtbppfohcicepcaaGreat
namespace Go.Proofs.YtbppfohcicepcaaGreat
open Go.ChangeShapes Go.WideShapes Go.ChangeAt Go.RowKit
set_option linter.unusedVariables false
/-- A number; the entire interval; a valid interval; the interval that New makes. -/
def Num (x : Int) : Prop := -2147483648 < x ∧ x < 2147483648
instance (x : Int) : Decidable (Num x) := inferInstanceAs (Decidable (_ ∧ _))
def Ent (lo hi : Int) : Prop := lo = -2147483648 ∧ hi = 2147483648
instance (lo hi : Int) : Decidable (Ent lo hi) := inferInstanceAs (Decidable (_ ∧ _))
def VI (lo hi : Int) : Prop := Ent lo hi ∨ (Num lo ∧ Num hi ∧ lo ≤ hi)
instance (lo hi : Int) : Decidable (VI lo hi) := inferInstanceAs (Decidable (_ ∨ _))
def mkLo (lo hi : Int) : Int := if Num lo ∧ Num hi then lo else -2147483648
def mkHi (lo hi : Int) : Int := if Num lo ∧ Num hi then hi else 2147483648

theorem r2num_yes (x : Int) (w : World) (h : Num x) :
    Calls Tryz.prog 69 #[.int .i64 x] w fun e w' => e = .returned (.bool true) ∧ w = w' := by
  obtain ⟨h1, h2⟩ := h
  go_enter Tryz.func69, Tryz.ntmps69
  go_wp2
  go_ret
  simp
theorem r2num_no (x : Int) (w : World) (h : ¬ Num x) :
    Calls Tryz.prog 69 #[.int .i64 x] w fun e w' => e = .returned (.bool false) ∧ w = w' := by
  by_cases h1 : -2147483648 < x
  · have h2 : ¬ x < 2147483648 := fun h2 => h ⟨h1, h2⟩
    clear h
    go_enter Tryz.func69, Tryz.ntmps69
    go_wp2
    go_ret
    simp
  · clear h
    go_enter Tryz.func69, Tryz.ntmps69
    go_wp2
    go_ret
    exact ⟨rfl, rfl⟩

theorem r2entire (w : World) :
    Calls Tryz.prog 42 #[] w fun e w' => e = .returned (.agg #[.int .i64 (-2147483648), .int .i64 2147483648]) ∧ Below w.heap.size w w' := by
  go_enter Tryz.func42, Tryz.ntmps42
  go_wp2
  refine bodyPost_ret (v := .agg #[.int .i64 (-2147483648), .int .i64 2147483648]) (by simp [results, Tryz.results42, go_sem]) rfl ⟨rfl, ?_⟩
  go_grown

theorem r2ent_yes (w : World) :
    Calls Tryz.prog 67 #[.agg #[.int .i64 (-2147483648), .int .i64 2147483648]] w fun e w' => e = .returned (.bool true) ∧ Below w.heap.size w w' := by
  go_enter Tryz.func67, Tryz.ntmps67
  go_wp2
  go_ret
  refine ⟨rfl, ?_⟩
  go_grown
theorem r2ent_no (lo hi : Int) (w : World) (h : ¬ Ent lo hi) :
    Calls Tryz.prog 67 #[.agg #[.int .i64 lo, .int .i64 hi]] w fun e w' => e = .returned (.bool false) ∧ Below w.heap.size w w' := by
  by_cases h1 : lo = -2147483648
  · have h2 : (hi == 2147483648) = false := by rw [beq_eq_false_iff_ne]; exact fun h2 => h ⟨h1, h2⟩
    subst h1
    clear h
    go_enter Tryz.func67, Tryz.ntmps67
    go_wp2
    go_ret
    refine ⟨rfl, ?_⟩
    go_grown
  · have h2 : (lo == -2147483648) = false := by rw [beq_eq_false_iff_ne]; exact h1
    clear h h1
    go_enter Tryz.func67, Tryz.ntmps67
    go_wp2
    go_ret
    refine ⟨rfl, ?_⟩
    go_grown

theorem r2new (lo hi : Int) (w : World) :
    Calls Tryz.prog 66 #[.int .i64 lo, .int .i64 hi] w fun e w' => e = .returned (.agg #[.int .i64 (mkLo lo hi), .int .i64 (mkHi lo hi)]) ∧ Below w.heap.size w w' := by
  by_cases h1 : Num lo
  · by_cases h2 : Num hi
    · have e1 : mkLo lo hi = lo := by unfold mkLo; rw [if_pos ⟨h1, h2⟩]
      have e2 : mkHi lo hi = hi := by unfold mkHi; rw [if_pos ⟨h1, h2⟩]
      rw [e1, e2]
      have c1 := fun w => r2num_yes lo w h1
      have c2 := fun w => r2num_yes hi w h2
      clear h1 h2 e1 e2
      go_enter Tryz.func66, Tryz.ntmps66
      go_wp2_with (fail)
      refine (c1 _).mono ?_
      rintro e1 w1 ⟨rfl, rfl⟩
      go_wp2_with (fail)
      refine (c2 _).mono ?_
      rintro e2 w2 ⟨rfl, rfl⟩
      go_wp2_with (fail)
      refine bodyPost_ret (v := .agg #[.int .i64 lo, .int .i64 hi]) (by simp [results, Tryz.results66, go_sem]) rfl ⟨rfl, ?_⟩
      go_grown
    · have e1 : mkLo lo hi = -2147483648 := by unfold mkLo; rw [if_neg (fun h => h2 h.2)]
      have e2 : mkHi lo hi = 2147483648 := by unfold mkHi; rw [if_neg (fun h => h2 h.2)]
      rw [e1, e2]
      have c1 := fun w => r2num_yes lo w h1
      have c2 := fun w => r2num_no hi w h2
      clear h1 h2 e1 e2
      go_enter Tryz.func66, Tryz.ntmps66
      go_wp2_with (fail)
      refine (c1 _).mono ?_
      rintro e1 w1 ⟨rfl, rfl⟩
      go_wp2_with (fail)
      refine (c2 _).mono ?_
      rintro e2 w2 ⟨rfl, rfl⟩
      go_wp2_with (fail)
      refine (r2entire _).mono ?_
      rintro e3 w3 ⟨rfl, hB⟩
      have hc := hB.cell (p := ⟨w.heap.size, 0, none⟩) (by simp)
      have hc2 := hB.cell (p := ⟨w.heap.size, 1, none⟩) (by simp)
      have hf := hB.frozen (p := ⟨w.heap.size, 0, none⟩) (by simp)
      have hf2 := hB.frozen (p := ⟨w.heap.size, 1, none⟩) (by simp)
      have hz := hB.size
      go_wp2_with (fail)
      refine bodyPost_ret (v := .agg #[.int .i64 (-2147483648), .int .i64 2147483648]) (by simp [results, Tryz.results66, go_sem, hc, hc2]) rfl ⟨rfl, ?_⟩
      have hB' := below_then ((Below.refl w.heap.size w).alloc (Nat.le_refl _) _) hB
      go_grown
  · have e1 : mkLo lo hi = -2147483648 := by unfold mkLo; rw [if_neg (fun h => h1 h.1)]
    have e2 : mkHi lo hi = 2147483648 := by unfold mkHi; rw [if_neg (fun h => h1 h.1)]
    rw [e1, e2]
    have c1 := fun w => r2num_no lo w h1
    clear h1 e1 e2
    go_enter Tryz.func66, Tryz.ntmps66
    go_wp2_with (fail)
    refine (c1 _).mono ?_
    rintro e1 w1 ⟨rfl, rfl⟩
    go_wp2_with (fail)
    refine (r2entire _).mono ?_
    rintro e3 w3 ⟨rfl, hB⟩
    have hc := hB.cell (p := ⟨w.heap.size, 0, none⟩) (by simp)
    have hc2 := hB.cell (p := ⟨w.heap.size, 1, none⟩) (by simp)
    have hf := hB.frozen (p := ⟨w.heap.size, 0, none⟩) (by simp)
    have hf2 := hB.frozen (p := ⟨w.heap.size, 1, none⟩) (by simp)
    have hz := hB.size
    go_wp2_with (fail)
    refine bodyPost_ret (v := .agg #[.int .i64 (-2147483648), .int .i64 2147483648]) (by simp [results, Tryz.results66, go_sem, hc, hc2]) rfl ⟨rfl, ?_⟩
    have hB' := below_then ((Below.refl w.heap.size w).alloc (Nat.le_refl _) _) hB
    go_grown
end Go.Proofs.YtbppfohcicepcaaGreat
namespace Go.Proofs.YtbppfohcicepcaaGreat
open Go.ChangeShapes Go.WideShapes Go.ChangeAt Go.RowKit
set_option linter.unusedVariables false
theorem r2neg (a b : Int) (w : World) (ha1 : -2147483648 ≤ a) (ha2 : a ≤ 2147483648) (hb1 : -2147483648 ≤ b) (hb2 : b ≤ 2147483648) :
    Calls Tryz.prog 38 #[.agg #[.int .i64 a, .int .i64 b]] w fun e w' => e = .returned (.agg #[.int .i64 (-b), .int .i64 (-a)]) ∧ Below w.heap.size w w' := by
  go_enter Tryz.func38, Tryz.ntmps38
  go_wp2_with (fail)
  refine bodyPost_ret (v := .agg #[.int .i64 (-b), .int .i64 (-a)]) (by simp [results, Tryz.results38, go_sem]) rfl ⟨rfl, ?_⟩
  go_grown

theorem r2subset_0 (a b c d : Int) (w : World) (h1 : c ≤ a) (h2 : decide (b ≤ d) = true) :
    Calls Tryz.prog 27 #[.agg #[.int .i64 a, .int .i64 b], .agg #[.int .i64 c, .int .i64 d]] w fun e w' => e = .returned (.bool true) ∧ Below w.heap.size w w' := by
  go_enter Tryz.func27, Tryz.ntmps27
  go_wp2_with (fail)
  go_ret
  refine ⟨by first | rfl | (simp; omega), ?_⟩
  go_grown

end Go.Proofs.YtbppfohcicepcaaGreat
namespace Go.Proofs.YtbppfohcicepcaaGreat
open Go.ChangeShapes Go.WideShapes Go.ChangeAt Go.RowKit
set_option linter.unusedVariables false
theorem tmod_sign {n d : Int} (h : ¬ n.tmod d = 0) : (n.tmod d < 0 ↔ n < 0) := by
  rcases Int.lt_or_le n 0 with hn | hn
  · have := Int.tmod_nonneg (a := -n) d (by omega)
    rw [Int.neg_tmod] at this
    constructor <;> omega
  · have := Int.tmod_nonneg (a := n) d hn
    constructor <;> omega

theorem r2floor (a b : Int) (w : World) (h1 : -4611686018427387904 ≤ a) (h2 : a ≤ 4611686018427387904) (hb : ¬ b = 0) :
    Calls Tryz.prog 92 #[.int .i64 a, .int .i64 b] w fun e w' => e = .returned (.int .i64 (dn a b)) ∧ w = w' := by
  have tb := tdiv_bound a b 4611686018427387904 h1 h2
  by_cases hr : a.tmod b = 0
  · have hd := Lib.hid (exact_any hb hr).1
    have hr' : (a.tmod b != 0) = false := by simpa using hr
    clear hr
    go_enter Tryz.func92, Tryz.ntmps92
    go_wp2
    go_ret
    exact ⟨ret_int hd.out.symm, rfl⟩
  have hs := tmod_sign hr
  have hr' : (a.tmod b != 0) = true := by simpa using hr
  by_cases ha : a < 0
  all_goals by_cases hb2 : b < 0
  · have hd := Lib.hid (above_any (n := a) (d := b) (by omega)).1
    clear hr hs
    go_enter Tryz.func92, Tryz.ntmps92
    go_wp2
    go_ret
    exact ⟨ret_int hd.out.symm, rfl⟩
  · have hd := Lib.hid (below_any (n := a) (d := b) (by omega)).1
    clear hr hs
    go_enter Tryz.func92, Tryz.ntmps92
    go_wp2
    go_ret
    exact ⟨ret_int hd.out.symm, rfl⟩
  · have hd := Lib.hid (below_any (n := a) (d := b) (by omega)).1
    have hr2 : (a % b != 0) = true := by rw [Int.tmod_eq_emod_of_nonneg (by omega)] at hr'; exact hr'
    clear hr hs
    go_enter Tryz.func92, Tryz.ntmps92
    go_wp2
    go_ret
    exact ⟨ret_int hd.out.symm, rfl⟩
  · have hd := Lib.hid (above_any (n := a) (d := b) (by omega)).1
    have hr2 : (a % b != 0) = true := by rw [Int.tmod_eq_emod_of_nonneg (by omega)] at hr'; exact hr'
    clear hr hs
    go_enter Tryz.func92, Tryz.ntmps92
    go_wp2
    go_ret
    exact ⟨ret_int hd.out.symm, rfl⟩


theorem r2ceil (a b : Int) (w : World) (h1 : -4611686018427387904 ≤ a) (h2 : a ≤ 4611686018427387904) (hb : ¬ b = 0) (hr : -9223372036854775807 ≤ dn (-a) b ∧ dn (-a) b ≤ 9223372036854775807) :
    Calls Tryz.prog 93 #[.int .i64 a, .int .i64 b] w fun e w' => e = .returned (.int .i64 (up a b)) ∧ w = w' := by
  have c := fun w => r2floor (-a) b w (by omega) (by omega) hb
  have e : up a b = -dn (-a) b := rfl
  rw [e]
  clear e hb
  generalize dn (-a) b = q at *
  go_enter Tryz.func93, Tryz.ntmps93
  go_wp2_with (fail)
  refine (c _).mono ?_
  rintro e1 w1 ⟨rfl, rfl⟩
  go_wp2_with (fail)
  go_ret
  exact ⟨rfl, rfl⟩

/-- The sum of two intervals. -/
def addLo (a b c d : Int) : Int := if Ent a b ∨ Ent c d then -2147483648 else mkLo (a + c) (b + d)
def addHi (a b c d : Int) : Int := if Ent a b ∨ Ent c d then 2147483648 else mkHi (a + c) (b + d)

set_option maxHeartbeats 1000000 in
theorem r2add_0 (a b c d : Int) (w : World) (ha1 : -2147483648 ≤ a) (ha2 : a ≤ 2147483648) (hb1 : -2147483648 ≤ b) (hb2 : b ≤ 2147483648) (hc1 : -2147483648 ≤ c) (hc2 : c ≤ 2147483648) (hd1 : -2147483648 ≤ d) (hd2 : d ≤ 2147483648) (h1 : Ent a b) :
    Calls Tryz.prog 36 #[.agg #[.int .i64 a, .int .i64 b], .agg #[.int .i64 c, .int .i64 d]] w fun e w' => e = .returned (.agg #[.int .i64 (-2147483648), .int .i64 2147483648]) ∧ Below w.heap.size w w' := by
  obtain ⟨rfl, rfl⟩ := h1
  go_enter Tryz.func36, Tryz.ntmps36
  go_wp2_with (fail)
  refine (r2ent_yes _).mono ?_
  rintro e1 w1 ⟨rfl, hB1⟩
  obtain ⟨kc1, kf1⟩ := bcell hB1
  have hz1 := hB1.size
  simp only [World.size_alloc] at hz1
  have hs10 : w.heap.size < w1.heap.size := by omega
  have hs11 : w.heap.size + 1 < w1.heap.size := by omega
  have hs12 : w.heap.size + 1 + 1 < w1.heap.size := by omega
  go_wp2_with (fail)
  refine (r2entire _).mono ?_
  rintro e2 w2 ⟨rfl, hB2⟩
  obtain ⟨kc2, kf2⟩ := bcell hB2
  have hz2 := hB2.size
  have hs20 : w.heap.size < w2.heap.size := by omega
  have hs21 : w.heap.size + 1 < w2.heap.size := by omega
  have hs22 : w.heap.size + 1 + 1 < w2.heap.size := by omega
  go_wp2_with (fail)
  have hB : Below w.heap.size w w2 := below_then (below_then ((((Below.refl _ _).alloc (Nat.le_refl _) _).alloc (by go_size) _).alloc (by go_size) _) hB1) hB2
  refine bodyPost_ret (v := .agg #[.int .i64 (-2147483648), .int .i64 2147483648]) (by simp [results, Tryz.results36, go_sem, kc1, hs12, kc2]) rfl ⟨rfl, ?_⟩
  go_grown

set_option maxHeartbeats 1000000 in
theorem r2add_1 (a b c d : Int) (w : World) (ha1 : -2147483648 ≤ a) (ha2 : a ≤ 2147483648) (hb1 : -2147483648 ≤ b) (hb2 : b ≤ 2147483648) (hc1 : -2147483648 ≤ c) (hc2 : c ≤ 2147483648) (hd1 : -2147483648 ≤ d) (hd2 : d ≤ 2147483648) (h1 : ¬ Ent a b) (h2 : Ent c d) :
    Calls Tryz.prog 36 #[.agg #[.int .i64 a, .int .i64 b], .agg #[.int .i64 c, .int .i64 d]] w fun e w' => e = .returned (.agg #[.int .i64 (-2147483648), .int .i64 2147483648]) ∧ Below w.heap.size w w' := by
  obtain ⟨rfl, rfl⟩ := h2
  have h1' := Lib.hid h1
  clear h1
  go_enter Tryz.func36, Tryz.ntmps36
  go_wp2_with (fail)
  refine (r2ent_no a b _ h1'.out).mono ?_
  rintro e1 w1 ⟨rfl, hB1⟩
  obtain ⟨kc1, kf1⟩ := bcell hB1
  have hz1 := hB1.size
  simp only [World.size_alloc] at hz1
  have hs10 : w.heap.size < w1.heap.size := by omega
  have hs11 : w.heap.size + 1 < w1.heap.size := by omega
  have hs12 : w.heap.size + 1 + 1 < w1.heap.size := by omega
  go_wp2_with (fail)
  refine (r2ent_yes _).mono ?_
  rintro e2 w2 ⟨rfl, hB2⟩
  obtain ⟨kc2, kf2⟩ := bcell hB2
  have hz2 := hB2.size
  have hs20 : w.heap.size < w2.heap.size := by omega
  have hs21 : w.heap.size + 1 < w2.heap.size := by omega
  have hs22 : w.heap.size + 1 + 1 < w2.heap.size := by omega
  go_wp2_with (fail)
  refine (r2entire _).mono ?_
  rintro e3 w3 ⟨rfl, hB3⟩
  obtain ⟨kc3, kf3⟩ := bcell hB3
  have hz3 := hB3.size
  have hs30 : w.heap.size < w3.heap.size := by omega
  have hs31 : w.heap.size + 1 < w3.heap.size := by omega
  have hs32 : w.heap.size + 1 + 1 < w3.heap.size := by omega
  go_wp2_with (fail)
  have hB : Below w.heap.size w w3 := below_then (below_then (below_then ((((Below.refl _ _).alloc (Nat.le_refl _) _).alloc (by go_size) _).alloc (by go_size) _) hB1) hB2) hB3
  refine bodyPost_ret (v := .agg #[.int .i64 (-2147483648), .int .i64 2147483648]) (by simp [results, Tryz.results36, go_sem, kc1, hs12, kc2, hs22, kc3]) rfl ⟨rfl, ?_⟩
  go_grown

set_option maxHeartbeats 1000000 in
theorem r2add_2 (a b c d : Int) (w : World) (ha1 : -2147483648 ≤ a) (ha2 : a ≤ 2147483648) (hb1 : -2147483648 ≤ b) (hb2 : b ≤ 2147483648) (hc1 : -2147483648 ≤ c) (hc2 : c ≤ 2147483648) (hd1 : -2147483648 ≤ d) (hd2 : d ≤ 2147483648) (h1 : ¬ Ent a b) (h2 : ¬ Ent c d) :
    Calls Tryz.prog 36 #[.agg #[.int .i64 a, .int .i64 b], .agg #[.int .i64 c, .int .i64 d]] w fun e w' => e = .returned (.agg #[.int .i64 (mkLo (a + c) (b + d)), .int .i64 (mkHi (a + c) (b + d))]) ∧ Below w.heap.size w w' := by
  have h1' := Lib.hid h1
  have h2' := Lib.hid h2
  clear h1 h2
  go_enter Tryz.func36, Tryz.ntmps36
  go_wp2_with (fail)
  refine (r2ent_no a b _ h1'.out).mono ?_
  rintro e1 w1 ⟨rfl, hB1⟩
  obtain ⟨kc1, kf1⟩ := bcell hB1
  have hz1 := hB1.size
  simp only [World.size_alloc] at hz1
  have hs10 : w.heap.size < w1.heap.size := by omega
  have hs11 : w.heap.size + 1 < w1.heap.size := by omega
  have hs12 : w.heap.size + 1 + 1 < w1.heap.size := by omega
  go_wp2_with (fail)
  refine (r2ent_no c d _ h2'.out).mono ?_
  rintro e2 w2 ⟨rfl, hB2⟩
  obtain ⟨kc2, kf2⟩ := bcell hB2
  have hz2 := hB2.size
  have hs20 : w.heap.size < w2.heap.size := by omega
  have hs21 : w.heap.size + 1 < w2.heap.size := by omega
  have hs22 : w.heap.size + 1 + 1 < w2.heap.size := by omega
  go_wp2_with (fail)
  refine (r2new (a + c) (b + d) _).mono ?_
  rintro e3 w3 ⟨rfl, hB3⟩
  obtain ⟨kc3, kf3⟩ := bcell hB3
  have hz3 := hB3.size
  have hs30 : w.heap.size < w3.heap.size := by omega
  have hs31 : w.heap.size + 1 < w3.heap.size := by omega
  have hs32 : w.heap.size + 1 + 1 < w3.heap.size := by omega
  go_wp2_with (fail)
  have hB : Below w.heap.size w w3 := below_then (below_then (below_then ((((Below.refl _ _).alloc (Nat.le_refl _) _).alloc (by go_size) _).alloc (by go_size) _) hB1) hB2) hB3
  refine bodyPost_ret (v := .agg #[.int .i64 (mkLo (a + c) (b + d)), .int .i64 (mkHi (a + c) (b + d))]) (by simp [results, Tryz.results36, go_sem, kc1, hs12, kc2, hs22, kc3]) rfl ⟨rfl, ?_⟩
  go_grown

theorem r2add (a b c d : Int) (w : World) (ha1 : -2147483648 ≤ a) (ha2 : a ≤ 2147483648) (hb1 : -2147483648 ≤ b) (hb2 : b ≤ 2147483648) (hc1 : -2147483648 ≤ c) (hc2 : c ≤ 2147483648) (hd1 : -2147483648 ≤ d) (hd2 : d ≤ 2147483648) :
    Calls Tryz.prog 36 #[.agg #[.int .i64 a, .int .i64 b], .agg #[.int .i64 c, .int .i64 d]] w fun e w' => e = .returned (.agg #[.int .i64 (addLo a b c d), .int .i64 (addHi a b c d)]) ∧ Below w.heap.size w w' := by
  unfold addLo addHi
  by_cases h1 : Ent a b
  · rw [if_pos (.inl h1), if_pos (.inl h1)]
    exact r2add_0 a b c d w ha1 ha2 hb1 hb2 hc1 hc2 hd1 hd2 h1
  by_cases h2 : Ent c d
  · rw [if_pos (.inr h2), if_pos (.inr h2)]
    exact r2add_1 a b c d w ha1 ha2 hb1 hb2 hc1 hc2 hd1 hd2 h1 h2
  · rw [if_neg (by intro h; rcases h with h | h; exact h1 h; exact h2 h), if_neg (by intro h; rcases h with h | h; exact h1 h; exact h2 h)]
    exact r2add_2 a b c d w ha1 ha2 hb1 hb2 hc1 hc2 hd1 hd2 h1 h2
end Go.Proofs.YtbppfohcicepcaaGreat
