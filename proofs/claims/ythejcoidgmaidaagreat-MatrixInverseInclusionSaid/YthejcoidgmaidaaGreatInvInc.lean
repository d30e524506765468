/-
  The inverse contains the inverses of the rational matrices.
-/
import Derived.Test.YthejcoidgmaidaaGreatElR
namespace Go.Proofs.YthejcoidgmaidaaGreat
open Go.ChangeShapes Go.WideShapes Go.ChangeAt Go.RowKit
set_option linter.unusedVariables false
set_option linter.unusedSimpArgs false
set_option maxRecDepth 100000

theorem sumR_mul : ∀ (n : Nat) (c : Rat) (f : Nat → Rat), (sumR n fun i => c * f i) = c * sumR n f
  | 0, c, f => by unfold sumR; grind
  | n + 1, c, f => by unfold sumR; rw [sumR_mul n c f]; grind
theorem sumR_add : ∀ (n : Nat) (f g : Nat → Rat), (sumR n fun i => f i + g i) = sumR n f + sumR n g
  | 0, f, g => by unfold sumR; grind
  | n + 1, f, g => by unfold sumR; rw [sumR_add n f g]; grind
theorem sumR_comm : ∀ (n m : Nat) (f : Nat → Nat → Rat), (sumR n fun i => sumR m fun j => f i j) = sumR m fun j => sumR n fun i => f i j
  | 0, m, f => by
    show (0 : Rat) = sumR m fun j => sumR 0 fun i => f i j
    exact (sumR_zero m fun i _ => rfl).symm
  | n + 1, m, f => by
    have h := sumR_comm n m f
    show (sumR n fun i => sumR m fun j => f i j) + (sumR m fun j => f n j) = sumR m fun j => sumR (n + 1) fun i => f i j
    rw [h, ← sumR_add]
    rfl
def kro (i j : Nat) : Rat := if i = j then 1 else 0
theorem sumR_kro {n i : Nat} (hi : i < n) (f : Nat → Rat) : (sumR n fun t => kro i t * f t) = f i := by
  have h := sumR_one n (fun t => kro i t * f t) i hi
  rw [h, sumR_zero n fun t _ => by
    by_cases e : t = i
    · rw [if_pos e]
    · rw [if_neg e]
      unfold kro
      rw [if_neg (fun q => e q.symm)]
      grind]
  unfold kro
  grind
/-- A tableau whose left half is its right half times A, and whose first k columns are those of the identity. -/
def Tab (n k : Nat) (A X : Nat → Nat → Rat) : Prop :=
  (∀ i j, i < n → j < n → X i j = sumR n fun t => X i (n + t) * A t j) ∧ ∀ i j, i < n → j < k → X i j = kro i j
theorem tab_swap {n k p : Nat} {A X : Nat → Nat → Rat} (h : Tab n k A X) (hk : k < n) (hp : p < n) (hkp : k ≤ p) : Tab n k A (swR X k p) := by
  refine ⟨fun i j hi hj => h.1 _ j (sw_lt hk hp hi) hj, fun i j hi hj => ?_⟩
  show X (sw k p i) j = _
  rw [h.2 _ j (sw_lt hk hp hi) hj]
  unfold kro sw
  by_cases e : i = p
  · rw [if_pos e, if_neg (by omega), if_neg (by omega)]
  · rw [if_neg e]
    by_cases f : i = k
    · rw [if_pos f, if_neg (by omega), if_neg (by omega)]
    · rw [if_neg f]
theorem tab_elim {n k : Nat} {A X : Nat → Nat → Rat} (h : Tab n k A X) (hk : k < n) (hp : X k k ≠ 0) : Tab n (k + 1) A (elR X k) := by
  have hrow : ∀ j, j < n → X k j / X k k = sumR n fun t => X k (n + t) / X k k * A t j := fun j hj => by
    have e : (sumR n fun t => X k (n + t) / X k k * A t j) = (1 / X k k) * sumR n fun t => X k (n + t) * A t j := by
      rw [← sumR_mul]
      exact sumR_congr n fun t _ => by grind
    rw [e, ← h.1 k j hk hj]
    grind
  refine ⟨fun i j hi hj => ?_, fun i j hi hj => ?_⟩
  · unfold elR
    by_cases e : i = k
    · simp only [if_pos e]
      exact hrow j hj
    · simp only [if_neg e]
      have e2 : (sumR n fun t => (X i (n + t) - X i k * (X k (n + t) / X k k)) * A t j) = sumR n fun t => X i (n + t) * A t j - X i k * (X k (n + t) / X k k * A t j) := sumR_congr n fun t _ => by grind
      rw [e2, sumR_sub n (X i k) (fun t => X i (n + t) * A t j) (fun t => X k (n + t) / X k k * A t j), ← h.1 i j hi hj, ← hrow j hj]
  · unfold elR
    by_cases hjk : j = k
    · subst hjk
      by_cases e : i = j
      · rw [if_pos e]
        unfold kro
        rw [if_pos e]
        grind
      · rw [if_neg e]
        unfold kro
        rw [if_neg e]
        grind
    · have hj' : j < k := by omega
      have hz : X k j = 0 := by
        rw [h.2 k j hk hj']
        unfold kro
        rw [if_neg (fun q => hjk q.symm)]
      by_cases e : i = k
      · rw [if_pos e, hz]
        unfold kro
        rw [if_neg (by omega)]
        grind
      · rw [if_neg e, hz, h.2 i j hi hj']
        grind
theorem el_drop {n i j : Nat} {N : List (List (Int × Int))} : elI (N.map fun r => r.drop n) i j = elI N i (n + j) := by
  unfold elI
  rw [List.getElem?_map]
  cases N[i]? with
  | none => rfl
  | some r => simp [List.getElem?_drop]
theorem inv_some (n : Nat) (A : Nat → Nat → Rat) : ∀ (f k : Nat) (N R : List (List (Int × Int))) (X : Nat → Nat → Rat), k + f = n → Wide n N → ContM n (n + n) N X → Tab n k A X → invS n f k N = some R →
    Sq n R ∧ (∀ i j, i < n → j < n → ¬ Ent (elI R i j).1 (elI R i j).2) ∧ ∃ Y : Nat → Nat → Rat, ContM n n R Y ∧ ∀ i j, i < n → j < n → (sumR n fun t => Y i t * A t j) = kro i j
  | 0, k, N, R, X, hkf, hW, hC, hT, h => by
    rw [invS] at h
    by_cases hno : noE n N = true
    · rw [if_pos hno] at h
      have e := Option.some.inj h
      have hR : Sq n R := by
        rw [← e]
        refine ⟨by rw [List.length_map, hW.1], fun r hr => ?_⟩
        rw [List.mem_map] at hr
        obtain ⟨r0, hr0, rfl⟩ := hr
        obtain ⟨h1, h2⟩ := hW.2 r0 hr0
        exact ⟨by rw [List.length_drop]; omega, fun p hp => h2 p (List.mem_of_mem_drop hp)⟩
      refine ⟨hR, fun i j hi hj hE => ?_, fun i j => X i (n + j), fun i j hi hj => ?_, fun i j hi hj => ?_⟩
      · have hil : i < R.length := by rw [hR.1]; exact hi
        have hrl := (hR.2 R[i] (List.getElem_mem hil)).1
        have hj' : j < R[i].length := by rw [hrl]; exact hj
        rw [el_some (List.getElem?_eq_getElem hil) (List.getElem?_eq_getElem hj')] at hE
        have hin : R[i] ∈ N.map fun r => r.drop n := by rw [e]; exact List.getElem_mem hil
        rw [List.mem_map] at hin
        obtain ⟨r0, hr0, e0⟩ := hin
        unfold noE at hno
        have := List.all_eq_true.1 hno r0 hr0
        rw [Bool.not_eq_true', List.any_eq_false] at this
        have hx := this R[i][j] (by rw [e0]; exact List.getElem_mem hj')
        apply hx
        unfold isE
        simp only [Bool.and_eq_true, beq_iff_eq]
        exact hE
      · rw [← e, el_drop]
        exact hC i (n + j) hi (by omega)
      · rw [← hT.1 i j hi hj]
        exact hT.2 i j hi (by omega)
    · rw [if_neg hno] at h
      cases h
  | f + 1, k, N, R, X, hkf, hW, hC, hT, h => by
    have hk : k < n := by omega
    obtain ⟨hpk, hpn⟩ := pv_lt hW.1 hk
    rw [invS] at h
    by_cases hsg : sgI (elI N (pivV N k) k) = 0
    · rw [if_pos hsg] at h
      cases h
    · rw [if_neg hsg] at h
      have hpiv := contR_sg (el_vb hW hpn (show k < n + n by omega)) (hC _ k hpn (by omega)) hsg
      unfold invStep at h
      generalize pivV N k = p at *
      have hWs := swap_wide hW hk hpn
      have hCs := cont_swap hW.1 hC hk hpn
      have ekk : swR X k p k k = X p k := by
        unfold swR sw
        by_cases e : k = p
        · rw [if_pos e, e]
        · rw [if_neg e, if_pos rfl]
      have hkk : swR X k p k k ≠ 0 := by
        rw [ekk]
        exact hpiv
      exact inv_some n A f (k + 1) _ R _ (by omega) (elim_wide hWs hk) (cont_elim hWs hCs hk (by omega) (Nat.le_refl _)) (tab_elim (tab_swap hT hk hpn hpk) hk hkk) h
theorem inv_encl {n : Nat} {M R : List (List (Int × Int))} {A : Nat → Nat → Rat} (h : Sq n M) (hC : ContM n n M A) (hR : invV M n = some R) :
    Sq n R ∧ (∀ i j, i < n → j < n → ¬ Ent (elI R i j).1 (elI R i j).2) ∧ ∃ Y : Nat → Nat → Rat, ContM n n R Y ∧ ∀ i j, i < n → j < n → (sumR n fun t => Y i t * A t j) = kro i j := by
  refine inv_some n A n 0 (augM M n) R (fun i j => if j < n then A i j else kro i (j - n)) (by omega) (aug_wide h) (fun i j hi hj => ?_) ⟨fun i j hi hj => ?_, fun i j _ hj => by omega⟩ hR
  · by_cases hjn : j < n
    · simp only [if_pos hjn]
      rw [el_aug h hi hjn]
      exact hC i j hi hjn
    · simp only [if_neg hjn]
      have e := el_augR (j := j - n) h hi (by omega)
      rw [show n + (j - n) = j by omega] at e
      rw [e]
      right
      unfold idF kro
      by_cases f : i = j - n
      · rw [if_pos f, if_pos f]
        constructor <;> (push_cast; grind)
      · rw [if_neg f, if_neg f]
        constructor <;> (push_cast; grind)
  · simp only [if_pos hj]
    rw [← sumR_kro hi (fun t => A t j)]
    exact sumR_congr n fun t ht => by
      rw [if_neg (by omega), show n + t - n = t by omega]
/-- The product of rationals lies in the product of intervals. -/
theorem contR_dot : ∀ (k : Nat) (f : Nat → (Int × Int) × (Int × Int)) (x y : Nat → Rat), (∀ t, t < k → contR (f t).1 (x t) ∧ contR (f t).2 (y t)) → contR (dotK k f) (sumR k fun t => x t * y t)
  | 0, f, x, y, _ => by
    unfold dotK sumR
    right
    simp [dotI]
  | k + 1, f, x, y, h => by
    have ih := contR_dot k f x y fun t ht => h t (by omega)
    unfold dotK at ih ⊢
    rw [List.range_succ, List.map_append, List.map_singleton, dotI_snoc]
    unfold sumR
    obtain ⟨h1, h2⟩ := h k (by omega)
    exact contR_add ih (contR_mul h1 h2)
/-- What the inverse makes of A x, in intervals: x lies in it. -/
theorem back_in {n k : Nat} {A Y : Nat → Nat → Rat} {x : Nat → Rat} (hk : k < n) (h : ∀ i j, i < n → j < n → (sumR n fun t => Y i t * A t j) = kro i j) : (sumR n fun i => Y k i * sumR n fun t => A i t * x t) = x k := by
  rw [← sumR_kro hk x]
  have e1 : (sumR n fun i => Y k i * sumR n fun t => A i t * x t) = sumR n fun i => sumR n fun t => Y k i * (A i t * x t) := sumR_congr n fun i _ => by rw [sumR_mul]
  rw [e1, sumR_comm]
  exact sumR_congr n fun t ht => by
    rw [← h k t hk ht]
    have e2 : (sumR n fun i => Y k i * (A i t * x t)) = sumR n fun i => x t * (Y k i * A i t) := sumR_congr n fun i _ => by grind
    rw [e2, sumR_mul]
    grind
end Go.Proofs.YthejcoidgmaidaaGreat
