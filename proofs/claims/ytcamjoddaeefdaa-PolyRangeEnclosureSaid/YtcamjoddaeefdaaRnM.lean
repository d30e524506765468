/-
  Mathematics: Range and Eval enclose the value at a point.
-/
import Derived.Test.YtcamjoddaeefdaaEvM
import Derived.Test.YtcamjoddaeefdaaLTp
namespace Go.Proofs.Ytcamjoddaeefdaa
open Go.ChangeShapes Go.WideShapes Go.ChangeAt Go.RowKit
set_option linter.unusedVariables false
set_option linter.unusedSimpArgs false
set_option maxRecDepth 100000

theorem abs_powR {a : Int} (h : -2 ≤ a ∧ a ≤ 2) : ∀ n : Nat, -(2 ^ n) ≤ a ^ n ∧ a ^ n ≤ 2 ^ n := abs_pow h
theorem pow_even {a : Int} {n : Nat} (h : n % 2 = 0) : 0 ≤ a ^ n := by
  obtain ⟨m, rfl⟩ : ∃ m, n = m + m := ⟨n / 2, by omega⟩
  rw [Int.pow_add]
  exact sq_nonneg _
theorem pm_even {p e : List Int} (he : ∀ k, 0 ≤ e.getD k 0 ∧ e.getD k 0 % 2 = 0) : ∀ k, 0 ≤ pm p e k
  | 0 => by rw [pm]; decide
  | k + 1 => by
    rw [pm]
    have h := he k
    exact Int.mul_nonneg (pm_even he k) (pow_even (by omega))
theorem pm_zero {p e : List Int} (he : ∀ k, e.getD k 0 = 0) : ∀ k, pm p e k = 1
  | 0 => rfl
  | k + 1 => by rw [pm, pm_zero he k, he k]; simp
/-- A term's value lies in its range. -/
theorem valAt_in {p : List Int} (hp : ∀ k, -2 ≤ p.getD k 0 ∧ p.getD k 0 ≤ 2) {t : Tm} (h : TV t ∧ Num t.1 ∧ degE t.2 ≤ 6) : 4096 * (trg t).1 ≤ valAt p t ∧ valAt p t ≤ 4096 * (trg t).2 := by
  have h1 := pm_bd (e := t.2) hp 6
  have h2 : (sm t.2 6 : Int) = degE t.2 := sm_six h.1.1
  have h3 := two_pos (12 - (degE t.2).toNat)
  obtain ⟨Y, hY⟩ : ∃ Y, pm p t.2 6 * 2 ^ (12 - (degE t.2).toNat) = Y := ⟨_, rfl⟩
  have h4 := mul_bd h1 (b := 2 ^ (12 - (degE t.2).toNat)) (Q := 2 ^ (12 - (degE t.2).toNat)) ⟨by omega, Int.le_refl _⟩ (two_pos _) h3
  rw [← Int.pow_add, show sm t.2 6 + (12 - (degE t.2).toNat) = 12 by omega, hY, show (2 : Int) ^ 12 = 4096 by decide] at h4
  have hv : valAt p t = t.1 * Y := by unfold valAt; rw [Int.mul_assoc, hY]
  rw [hv]
  have hb := h.1.1.2
  have hge : ∀ k, 0 ≤ t.2.getD k 0 := fun k => by
    rw [List.getD_eq_getElem?_getD]
    cases hk : t.2[k]? with
    | none => exact Int.le_refl 0
    | some x => exact (hb x (List.mem_of_getElem? hk)).1
  unfold trg
  by_cases h0 : degE t.2 = 0
  · rw [if_pos h0]
    have hz : ∀ k, t.2.getD k 0 = 0 := by
      obtain ⟨a, b, c, d, f, g, he⟩ := six_of h.1.1
      rw [he] at h0 hb ⊢
      simp only [List.mem_cons, List.not_mem_nil, or_false, forall_eq_or_imp, forall_eq] at hb
      simp only [degE, List.sum_cons, List.sum_nil] at h0
      intro k
      match k with
      | 0 => show a = 0; omega
      | 1 => show b = 0; omega
      | 2 => show c = 0; omega
      | 3 => show d = 0; omega
      | 4 => show f = 0; omega
      | 5 => show g = 0; omega
      | k + 6 => rfl
    rw [pm_zero hz, h0] at hY
    have : Y = 4096 := by rw [← hY]; decide
    rw [this]
    dsimp only
    omega
  · rw [if_neg h0]
    by_cases hev : evenE t.2 = true
    · rw [if_pos hev]
      have hpe : 0 ≤ pm p t.2 6 := pm_even (fun k => by
        refine ⟨hge k, ?_⟩
        rw [List.getD_eq_getElem?_getD]
        cases hk : t.2[k]? with
        | none => rfl
        | some x =>
          have := List.all_eq_true.1 hev x (List.mem_of_getElem? hk)
          simpa using this) 6
      have hY0 : 0 ≤ Y := by rw [← hY]; exact Int.mul_nonneg hpe h3
      dsimp only
      obtain ⟨c, e⟩ := t
      dsimp only at *
      rcases Int.le_total 0 c with hc | hc
      · have a1 := Int.mul_nonneg hc hY0
        have a2 := Int.mul_le_mul_of_nonneg_left h4.2 hc
        omega
      · have a1 := Int.mul_nonneg (show 0 ≤ -c by omega) hY0
        have a2 := Int.mul_le_mul_of_nonneg_left h4.2 (show 0 ≤ -c by omega)
        rw [Int.neg_mul] at a1 a2
        rw [Int.neg_mul] at a2
        omega
    · rw [if_neg hev]
      dsimp only
      have hm := mul_bd (a := t.1) (P := max t.1 (-t.1)) (b := Y) (Q := 4096) (by omega) h4 (by omega) (by decide)
      omega
theorem sumR_cons_go : ∀ (l : List Tm) (s : Int × Int), l.foldl addR s = (s.1 + (l.foldl addR (0, 0)).1, s.2 + (l.foldl addR (0, 0)).2)
  | [], s => by simp
  | t :: l, s => by
    rw [List.foldl_cons, List.foldl_cons, sumR_cons_go l (addR s t), sumR_cons_go l (addR (0, 0) t)]
    unfold addR
    dsimp only
    rw [Prod.mk.injEq]
    constructor <;> omega
theorem sumR_cons (t : Tm) (l : List Tm) : (sumR (t :: l)).1 = (trg t).1 + (sumR l).1 ∧ (sumR (t :: l)).2 = (trg t).2 + (sumR l).2 := by
  unfold sumR
  rw [List.foldl_cons, sumR_cons_go]
  unfold addR
  dsimp only
  constructor <;> omega
theorem valS_in {p : List Int} (hp : ∀ k, -2 ≤ p.getD k 0 ∧ p.getD k 0 ≤ 2) : ∀ {l : List Tm}, (∀ t ∈ l, TV t ∧ Num t.1 ∧ degE t.2 ≤ 6) → 4096 * (sumR l).1 ≤ valS p l ∧ valS p l ≤ 4096 * (sumR l).2
  | [], _ => by simp [valS, sumR]
  | t :: l, h => by
    have h1 := valAt_in hp (h t (by simp))
    have h2 := valS_in hp (l := l) fun t ht => h t (by simp [ht])
    have h3 := sumR_cons t l
    rw [valS_cons, h3.1, h3.2]
    omega
/-- The range encloses. -/
theorem range_encl {p : List Int} (hp : ∀ k, -2 ≤ p.getD k 0 ∧ p.getD k 0 ≤ 2) {l : List Tm} (h : ∀ t ∈ l, TV t ∧ Num t.1 ∧ degE t.2 ≤ 6) (hn : ¬ Ent (newR (sumR l)).1 (newR (sumR l)).2) : 4096 * (newR (sumR l)).1 ≤ valS p l ∧ valS p l ≤ 4096 * (newR (sumR l)).2 := by
  have h1 := valS_in hp h
  unfold newR mkLo mkHi at hn ⊢
  by_cases q : Num (sumR l).1 ∧ Num (sumR l).2
  · rw [if_pos q, if_pos q]
    exact h1
  · rw [if_neg q, if_neg q] at hn
    exact absurd ⟨rfl, rfl⟩ hn
/-- One term: Eval on the whole domain is the range. -/
theorem one_term {t : Tm} (h : TV t ∧ Num t.1) : evalP [] [t] = newR (sumR [t]) := by
  have hn := trg_num h.2
  have e1 : evalP [] [t] = addI2 (0, 0) (trg t) := by unfold evalP; rw [List.foldl_cons, List.foldl_nil, valI_whole h]
  have e2 : sumR [t] = trg t := by
    have := sumR_cons t []
    rw [show (sumR []).1 = 0 from rfl, show (sumR []).2 = 0 from rfl] at this
    exact Prod.ext (by omega) (by omega)
  rw [e1, e2]
  have hne : ¬ (Ent 0 0 ∨ Ent (trg t).1 (trg t).2) := fun k => k.elim (by unfold Ent; omega) (num_ent hn.1)
  unfold addI2 addLo addHi newR
  dsimp only
  rw [if_neg hne, if_neg hne, Int.zero_add, Int.zero_add]
/-- A point's power, exact. -/
theorem mul_pt {x y z : Int} (h : x * y = z * 65536) (hx : Num x) (hy : Num y) (hz : Num z) : mulI2 (x, x) (y, y) = (z, z) := by
  have n1 : ¬ (Ent x x ∨ Ent y y) := fun k => k.elim (num_ent hx) (num_ent hy)
  have e1 : mn4 x x y y = z * 65536 := by unfold mn4; omega
  have e2 : mx4 x x y y = z * 65536 := by unfold mx4; omega
  unfold mulI2 mulLo mulHi
  dsimp only
  rw [if_neg n1, if_neg n1, e1, e2, dn_mul_self _ (by decide), up_mul_self _ (by decide)]
  unfold mkLo mkHi
  rw [if_pos ⟨hz, hz⟩, if_pos ⟨hz, hz⟩]
def ptP (a : Int) (n : Nat) : Int × Int := (a ^ n * 2 ^ (16 - n), a ^ n * 2 ^ (16 - n))
instance (x : Int) : Decidable (Num x) := inferInstanceAs (Decidable (_ ∧ _))
theorem powX_pt {a : Int} (h : -2 ≤ a ∧ a ≤ 2) : ∀ n : Nat, 1 ≤ n → n ≤ 6 → powX (32768 * a, 32768 * a) n = ptP a n := by
  have key : ∀ a : Int, a ∈ [-2, -1, 0, 1, 2] → ∀ n : Nat, n ∈ [1, 2, 3, 4, 5, 6] → powX (32768 * a, 32768 * a) n = ptP a n := by
    intro a ha n hn
    simp only [List.mem_cons, List.not_mem_nil, or_false] at ha hn
    rcases ha with rfl | rfl | rfl | rfl | rfl <;> rcases hn with rfl | rfl | rfl | rfl | rfl | rfl
    all_goals
      first
      | (rw [powX_one]; decide)
      | (rw [powX_even _ (by decide) (by decide), show (2 : Nat) / 2 = 1 by decide, powX_one]; decide)
      | (rw [powX_odd _ (by decide) (by decide), show (3 : Nat) - 1 = 2 by decide, powX_even _ (by decide) (by decide), show (2 : Nat) / 2 = 1 by decide, powX_one]; decide)
      | (rw [powX_even _ (by decide) (by decide), show (4 : Nat) / 2 = 2 by decide, powX_even _ (by decide) (by decide), show (2 : Nat) / 2 = 1 by decide, powX_one]; decide)
      | (rw [powX_odd _ (by decide) (by decide), show (5 : Nat) - 1 = 4 by decide, powX_even _ (by decide) (by decide), show (4 : Nat) / 2 = 2 by decide, powX_even _ (by decide) (by decide), show (2 : Nat) / 2 = 1 by decide, powX_one]; decide)
      | (rw [powX_even _ (by decide) (by decide), show (6 : Nat) / 2 = 3 by decide, powX_odd _ (by decide) (by decide), show (3 : Nat) - 1 = 2 by decide, powX_even _ (by decide) (by decide), show (2 : Nat) / 2 = 1 by decide, powX_one]; decide)
  intro n h1 h2
  refine key a ?_ n ?_
  · simp only [List.mem_cons, List.not_mem_nil, or_false]; omega
  · simp only [List.mem_cons, List.not_mem_nil, or_false]; omega
theorem betw_lo {lo hi X S A l' : Int} (hS : 0 ≤ S) (h1 : lo * S ≤ X) (h2 : X ≤ hi * S) (k1 : l' ≤ lo * A) (k2 : l' ≤ hi * A) : l' * S ≤ X * A := by
  rcases Int.le_total 0 A with hA | hA
  · have a := Int.mul_le_mul_of_nonneg_right k1 hS
    have b := Int.mul_le_mul_of_nonneg_right h1 hA
    rw [Int.mul_right_comm] at b
    exact Int.le_trans a b
  · have a := Int.mul_le_mul_of_nonneg_right k2 hS
    have b := Int.mul_le_mul_of_nonpos_right h2 hA
    rw [Int.mul_right_comm] at b
    exact Int.le_trans a b
theorem betw_hi {lo hi X S A l' : Int} (hS : 0 ≤ S) (h1 : lo * S ≤ X) (h2 : X ≤ hi * S) (k1 : lo * A ≤ l') (k2 : hi * A ≤ l') : X * A ≤ l' * S := by
  rcases Int.le_total 0 A with hA | hA
  · have a := Int.mul_le_mul_of_nonneg_right k2 hS
    have b := Int.mul_le_mul_of_nonneg_right h2 hA
    rw [Int.mul_right_comm hi S A] at b
    exact Int.le_trans b a
  · have a := Int.mul_le_mul_of_nonneg_right k1 hS
    have b := Int.mul_le_mul_of_nonpos_right h1 hA
    rw [Int.mul_right_comm lo S A] at b
    exact Int.le_trans b a
def EnC (v : Int × Int) (S X : Int) : Prop := Ent v.1 v.2 ∨ (v.1 * S ≤ X ∧ X ≤ v.2 * S)
theorem enc_step {v : Int × Int} {S X a : Int} {n : Nat} (hS : 0 ≤ S) (ha : -2 ≤ a ∧ a ≤ 2) (hn : 1 ≤ n ∧ n ≤ 6) (h : EnC v S X) : EnC (mulI2 v (ptP a n)) (S * 2 ^ n) (X * a ^ n) := by
  by_cases he : Ent v.1 v.2
  · left
    unfold mulI2 mulLo mulHi
    rw [if_pos (.inl he), if_pos (.inl he)]
    exact ⟨rfl, rfl⟩
  · obtain ⟨h1, h2⟩ := h.resolve_left he
    have hT : (0 : Int) < 2 ^ (16 - n) := by
      have := two_mono (m := 0) (n := 16 - n) (Nat.zero_le _)
      rw [Int.pow_zero] at this
      omega
    have hNT : (2 : Int) ^ n * 2 ^ (16 - n) = 65536 := by rw [← Int.pow_add, show n + (16 - n) = 16 by omega]; decide
    have hP : Num (ptP a n).1 := by
      have b := mul_bd (abs_pow ha n) (b := 2 ^ (16 - n)) (Q := 2 ^ (16 - n)) ⟨by omega, Int.le_refl _⟩ (two_pos _) (two_pos _)
      rw [hNT] at b
      unfold Num ptP
      dsimp only
      omega
    have hne : ¬ (Ent v.1 v.2 ∨ Ent (ptP a n).1 (ptP a n).2) := fun k => k.elim he (num_ent hP)
    unfold mulI2 mulLo mulHi
    rw [if_neg hne, if_neg hne]
    have m1 : mn4 v.1 v.2 (ptP a n).1 (ptP a n).2 ≤ v.1 * (ptP a n).1 ∧ mn4 v.1 v.2 (ptP a n).1 (ptP a n).2 ≤ v.2 * (ptP a n).1 := by unfold mn4; omega
    have m2 : v.1 * (ptP a n).1 ≤ mx4 v.1 v.2 (ptP a n).1 (ptP a n).2 ∧ v.2 * (ptP a n).1 ≤ mx4 v.1 v.2 (ptP a n).1 (ptP a n).2 := by unfold mx4; omega
    obtain ⟨p, hp⟩ : ∃ p, mn4 v.1 v.2 (ptP a n).1 (ptP a n).2 = p := ⟨_, rfl⟩
    obtain ⟨q, hq⟩ : ∃ q, mx4 v.1 v.2 (ptP a n).1 (ptP a n).2 = q := ⟨_, rfl⟩
    rw [hp] at m1 ⊢
    rw [hq] at m2 ⊢
    unfold mkLo mkHi
    by_cases hq2 : Num (dn p 65536) ∧ Num (up q 65536)
    · right
      rw [if_pos hq2, if_pos hq2]
      have d1 : dn p 65536 * 65536 ≤ p := (dn_mul p (by decide)).1
      have d2 : q ≤ up q 65536 * 65536 := (up_mul q (by decide)).1
      have cancel : ∀ x y : Int, x * 65536 ≤ y * (a ^ n * 2 ^ (16 - n)) → x * 2 ^ n ≤ y * a ^ n := fun x y hxy => by
        rw [← hNT, ← Int.mul_assoc, ← Int.mul_assoc] at hxy
        exact Int.le_of_mul_le_mul_right hxy hT
      have cancel2 : ∀ x y : Int, y * (a ^ n * 2 ^ (16 - n)) ≤ x * 65536 → y * a ^ n ≤ x * 2 ^ n := fun x y hxy => by
        rw [← hNT, ← Int.mul_assoc, ← Int.mul_assoc] at hxy
        exact Int.le_of_mul_le_mul_right hxy hT
      have r1 := cancel _ _ (Int.le_trans d1 m1.1)
      have r2 := cancel _ _ (Int.le_trans d1 m1.2)
      have r3 := cancel2 _ _ (Int.le_trans m2.1 d2)
      have r4 := cancel2 _ _ (Int.le_trans m2.2 d2)
      have z1 := betw_lo hS h1 h2 r1 r2
      have z2 := betw_hi hS h1 h2 r3 r4
      refine ⟨?_, ?_⟩
      · rw [Int.mul_comm S, ← Int.mul_assoc]; exact z1
      · rw [Int.mul_comm S, ← Int.mul_assoc]; exact z2
    · left
      rw [if_neg hq2, if_neg hq2]
      exact ⟨rfl, rfl⟩
def ptB (p : List Int) : List (Int × Int) := p.map fun a => (32768 * a, 32768 * a)
theorem ptB_at {p : List Int} (hl : p.length = 6) {j : Nat} (hj : j < 6) : varX (ptB p) j = (32768 * p.getD j 0, 32768 * p.getD j 0) := by
  unfold varX ptB
  rw [List.getElem?_map, List.getD_eq_getElem?_getD, List.getElem?_eq_getElem (by omega)]
  rfl
theorem valI_encl {p : List Int} (hl : p.length = 6) (hp : ∀ k, -2 ≤ p.getD k 0 ∧ p.getD k 0 ≤ 2) {t : Tm} (h : TV t ∧ Num t.1 ∧ degE t.2 ≤ 6) : ∀ j : Nat, j ≤ 6 → EnC (valI (ptB p) t j) (2 ^ sm t.2 j) (t.1 * pm p t.2 j)
  | 0, _ => by
    rw [valI_zero, ptI_num h.2.1, sm, pm, Int.pow_zero]
    right
    dsimp only
    omega
  | j + 1, hj => by
    have ih := valI_encl hl hp h j (by omega)
    rw [valI_step, ptB_at hl (show j < 6 by omega)]
    have h6 : sm t.2 (j + 1) ≤ 6 := by
      have h1 := sm_mono t.2 hj
      have h2 : (sm t.2 6 : Int) = degE t.2 := sm_six h.1.1
      have h3 := h.2.2
      omega
    have e1 : sm t.2 (j + 1) = sm t.2 j + (t.2.getD j 0).toNat := by rw [sm]
    have e2 : pm p t.2 (j + 1) = pm p t.2 j * (p.getD j 0) ^ (t.2.getD j 0).toNat := by rw [pm]
    by_cases h0 : 0 < t.2.getD j 0
    · rw [if_pos h0, powX_pt (hp j) _ (by omega) (by omega), e1, e2, Int.pow_add, ← Int.mul_assoc]
      exact enc_step (two_pos _) (hp j) ⟨by omega, by omega⟩ ih
    · rw [if_neg h0, e1, e2, show (t.2.getD j 0).toNat = 0 by omega]
      simpa using ih
def En4 (e : Int × Int) (s : Int) : Prop := Ent e.1 e.2 ∨ (4096 * e.1 ≤ s ∧ s ≤ 4096 * e.2)
theorem valI_en4 {p : List Int} (hl : p.length = 6) (hp : ∀ k, -2 ≤ p.getD k 0 ∧ p.getD k 0 ≤ 2) {t : Tm} (h : TV t ∧ Num t.1 ∧ degE t.2 ≤ 6) : En4 (valI (ptB p) t 6) (valAt p t) := by
  rcases valI_encl hl hp h 6 (Nat.le_refl _) with g | ⟨g1, g2⟩
  · exact .inl g
  · right
    have h2 : (sm t.2 6 : Int) = degE t.2 := sm_six h.1.1
    have h3 := h.2.2
    have hM : (2 : Int) ^ sm t.2 6 * 2 ^ (12 - (degE t.2).toNat) = 4096 := by rw [← Int.pow_add, show sm t.2 6 + (12 - (degE t.2).toNat) = 12 by omega]; decide
    have a := Int.mul_le_mul_of_nonneg_right g1 (two_pos (12 - (degE t.2).toNat))
    have b := Int.mul_le_mul_of_nonneg_right g2 (two_pos (12 - (degE t.2).toNat))
    rw [Int.mul_assoc, hM] at a
    rw [Int.mul_assoc (valI (ptB p) t 6).2, hM] at b
    unfold valAt
    omega
theorem en4_fold {p : List Int} (hl : p.length = 6) (hp : ∀ k, -2 ≤ p.getD k 0 ∧ p.getD k 0 ≤ 2) : ∀ (l : List Tm), (∀ t ∈ l, TV t ∧ Num t.1 ∧ degE t.2 ≤ 6) → ∀ e s, En4 e s → En4 (l.foldl (fun a t => addI2 a (valI (ptB p) t 6)) e) (s + valS p l)
  | [], _, e, s, g => by simpa [valS] using g
  | t :: l, h, e, s, g => by
    rw [List.foldl_cons, valS_cons, ← Int.add_assoc]
    refine en4_fold hl hp l (fun t ht => h t (by simp [ht])) _ _ ?_
    have hv := valI_en4 hl hp (h t (by simp))
    by_cases he : Ent e.1 e.2 ∨ Ent (valI (ptB p) t 6).1 (valI (ptB p) t 6).2
    · left
      unfold addI2 addLo addHi
      rw [if_pos he, if_pos he]
      exact ⟨rfl, rfl⟩
    · have g' := g.resolve_left (fun q => he (.inl q))
      have v' := hv.resolve_left (fun q => he (.inr q))
      unfold En4 addI2 addLo addHi
      dsimp only
      rw [if_neg he, if_neg he]
      unfold mkLo mkHi
      by_cases q : Num (e.1 + (valI (ptB p) t 6).1) ∧ Num (e.2 + (valI (ptB p) t 6).2)
      · right
        rw [if_pos q, if_pos q]
        omega
      · left
        rw [if_neg q, if_neg q]
        exact ⟨rfl, rfl⟩
/-- Eval on a box around the point encloses. -/
theorem eval_encl {p : List Int} (hl : p.length = 6) (hp : ∀ k, -2 ≤ p.getD k 0 ∧ p.getD k 0 ≤ 2) {box : List (Int × Int)} (hb : ∀ q ∈ box, VB2 q) (hs : SbL (ptB p) box) {l : List Tm} (h : ∀ t ∈ l, TV t ∧ Num t.1 ∧ degE t.2 ≤ 6) (hn : ¬ Ent (evalP box l).1 (evalP box l).2) : 4096 * (evalP box l).1 ≤ valS p l ∧ valS p l ≤ 4096 * (evalP box l).2 := by
  have hpb : ∀ q ∈ ptB p, VB2 q := fun q hq => by
    obtain ⟨a, ha, rfl⟩ := List.mem_map.1 hq
    obtain ⟨j, hj, rfl⟩ := List.getElem_of_mem ha
    have := hp j
    rw [List.getD_eq_getElem?_getD, List.getElem?_eq_getElem hj] at this
    have : -2 ≤ p[j] ∧ p[j] ≤ 2 := this
    exact .inr ⟨by unfold Num; dsimp only; omega, by unfold Num; dsimp only; omega, Int.le_refl _⟩
  have iso := evalP_iso hpb hb hs l
  have hne : ¬ Ent (evalP (ptB p) l).1 (evalP (ptB p) l).2 := fun q => hn (ent_up (evalP_vb _ _) (evalP_vb _ _) iso q)
  have g := en4_fold hl hp l h (0, 0) 0 (.inr ⟨by decide, by decide⟩)
  rw [Int.zero_add] at g
  have g' := g.resolve_left hne
  have e1 : evalP (ptB p) l = l.foldl (fun a t => addI2 a (valI (ptB p) t 6)) (0, 0) := rfl
  rw [← e1] at g'
  unfold Sb2 Sb at iso
  omega
end Go.Proofs.Ytcamjoddaeefdaa
