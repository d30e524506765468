/-
  Gauss and Jordan's elimination of rational matrices inside intervals; singular matrices have no inverse.
-/
import Derived.Test.YthejcoidgmaidaaGreatRat
namespace Go.Proofs.YthejcoidgmaidaaGreat
open Go.ChangeShapes Go.WideShapes Go.ChangeAt Go.RowKit
set_option linter.unusedVariables false
set_option linter.unusedSimpArgs false
set_option maxRecDepth 100000

def sumR : Nat → (Nat → Rat) → Rat
  | 0, _ => 0
  | n + 1, f => sumR n f + f n
theorem sumR_congr : ∀ (n : Nat) {f g : Nat → Rat}, (∀ i, i < n → f i = g i) → sumR n f = sumR n g
  | 0, _, _, _ => rfl
  | n + 1, f, g, h => by unfold sumR; rw [sumR_congr n fun i hi => h i (by omega), h n (by omega)]
theorem sumR_zero : ∀ (n : Nat) {f : Nat → Rat}, (∀ i, i < n → f i = 0) → sumR n f = 0
  | 0, _, _ => rfl
  | n + 1, f, h => by unfold sumR; rw [sumR_zero n fun i hi => h i (by omega), h n (by omega)]; grind
theorem sumR_sub : ∀ (n : Nat) (c : Rat) (f g : Nat → Rat), (sumR n fun i => f i - c * g i) = sumR n f - c * sumR n g
  | 0, c, f, g => by unfold sumR; grind
  | n + 1, c, f, g => by unfold sumR; rw [sumR_sub n c f g]; grind
theorem sumR_one : ∀ (n : Nat) (f : Nat → Rat) (k : Nat), k < n → sumR n f = (sumR n fun i => if i = k then 0 else f i) + f k
  | 0, f, k, h => by omega
  | n + 1, f, k, h => by
    unfold sumR
    dsimp only
    by_cases e : n = k
    · subst e
      rw [if_pos rfl, show (sumR n fun i => if i = n then 0 else f i) = sumR n f from sumR_congr n fun i hi => if_neg (by omega)]
      grind
    · rw [if_neg e, sumR_one n f k (by omega)]
      grind
def sw (k p i : Nat) : Nat := if i = p then k else if i = k then p else i
theorem sw_lt {n k p i : Nat} (hk : k < n) (hp : p < n) (hi : i < n) : sw k p i < n := by unfold sw; split <;> (try split) <;> omega
theorem sw_sw (k p i : Nat) : sw k p (sw k p i) = i := by
  unfold sw
  split <;> (try split) <;> (try split) <;> (try split) <;> omega
theorem sumR_sw {n k p : Nat} (f : Nat → Rat) (hk : k < n) (hp : p < n) : (sumR n fun i => f (sw k p i)) = sumR n f := by
  by_cases e : k = p
  · subst e
    exact sumR_congr n fun i _ => by unfold sw; split <;> (try split) <;> (first | rfl | (subst_vars; rfl))
  · have a := sumR_one n f k hk
    have b := sumR_one n (fun i => if i = k then 0 else f i) p hp
    have c := sumR_one n (fun i => f (sw k p i)) k hk
    have d := sumR_one n (fun i => if i = k then 0 else f (sw k p i)) p hp
    have h1 : sw k p k = p := by unfold sw; rw [if_neg e, if_pos rfl]
    have h2 : sw k p p = k := by unfold sw; rw [if_pos rfl]
    rw [if_neg (fun q => e q.symm)] at b d
    rw [h1] at c
    rw [h2] at d
    have : (sumR n fun i => if i = p then 0 else if i = k then 0 else f (sw k p i)) = sumR n fun i => if i = p then 0 else if i = k then 0 else f i := sumR_congr n fun i _ => by
      by_cases a : i = p
      · rw [if_pos a, if_pos a]
      · by_cases b : i = k
        · rw [if_neg a, if_neg a, if_pos b, if_pos b]
        · rw [if_neg a, if_neg a, if_neg b, if_neg b]
          unfold sw
          rw [if_neg a, if_neg b]
    rw [this] at d
    grind
def swR (X : Nat → Nat → Rat) (k p i j : Nat) : Rat := X (sw k p i) j
def elR (X : Nat → Nat → Rat) (k i j : Nat) : Rat := if i = k then X k j / X k k else X i j - X i k * (X k j / X k k)
def ContM (n m : Nat) (N : List (List (Int × Int))) (X : Nat → Nat → Rat) : Prop := ∀ i j, i < n → j < m → contR (elI N i j) (X i j)
theorem el_swap {N : List (List (Int × Int))} {k p i j : Nat} (hk : k < N.length) (hp : p < N.length) : elI (swapM N k p) i j = elI N (sw k p i) j := by
  unfold elI swapM sw
  rw [List.getElem?_eq_getElem hk, List.getElem?_eq_getElem hp, Option.getD_some, Option.getD_some, sw_get (List.getElem?_eq_getElem hk) (List.getElem?_eq_getElem hp)]
theorem el_elim {n : Nat} {N : List (List (Int × Int))} {k i j : Nat} (h : Wide n N) (hk : k < n) (hi : i < n) (hj : j < n + n) :
    elI (elimM N k) i j = if i = k then divJ (elI N k j) (elI N k k) else subI (elI N i j) (mulI (elI N i k, divJ (elI N k j) (elI N k k))) := by
  have hk' : k < N.length := by rw [h.1]; exact hk
  have hi' : i < N.length := by rw [h.1]; exact hi
  have hkl := (h.2 N[k] (List.getElem_mem hk')).1
  have hil := (h.2 N[i] (List.getElem_mem hi')).1
  have hnr : (nrmR N k)[j]? = some (divJ (elI N k j) (elI N k k)) := by
    unfold nrmR
    rw [List.getElem?_eq_getElem hk', Option.getD_some, List.getElem?_map, List.getElem?_eq_getElem (by rw [hkl]; exact hj), Option.map_some]
    congr 2
    exact (el_some (List.getElem?_eq_getElem hk') (List.getElem?_eq_getElem (by rw [hkl]; exact hj))).symm
  have hr := elim_at (M := N) (k := k) hi'
  unfold elimF at hr
  by_cases e : i = k
  · rw [if_pos e] at hr ⊢
    exact el_some hr hnr
  · rw [if_neg e] at hr ⊢
    refine el_some hr ?_
    unfold elimR
    rw [List.getElem?_eq_getElem hi', Option.getD_some, List.getElem?_map, (List.getElem?_zip_eq_some (z := (elI N i j, divJ (elI N k j) (elI N k k)))).2 ⟨?_, hnr⟩]
    · rfl
    · rw [List.getElem?_eq_getElem (by rw [hil]; exact hj)]
      congr 1
      exact (el_some (List.getElem?_eq_getElem hi') (List.getElem?_eq_getElem (by rw [hil]; exact hj))).symm
theorem cont_swap {n m : Nat} {N : List (List (Int × Int))} {X : Nat → Nat → Rat} {k p : Nat} (hl : N.length = n) (h : ContM n m N X) (hk : k < n) (hp : p < n) : ContM n m (swapM N k p) (swR X k p) := fun i j hi hj => by
  rw [el_swap (by omega) (by omega)]
  exact h _ j (sw_lt hk hp hi) hj
theorem cont_elim {n m : Nat} {N : List (List (Int × Int))} {X : Nat → Nat → Rat} {k : Nat} (hW : Wide n N) (h : ContM n m N X) (hk : k < n) (hkm : n ≤ m) (hm : m ≤ n + n) : ContM n m (elimM N k) (elR X k) := fun i j hi hj => by
  rw [el_elim hW hk hi (by omega)]
  unfold elR
  by_cases e : i = k
  · rw [if_pos e, if_pos e]
    exact contR_div (h k j hk hj) (h k k hk (by omega))
  · rw [if_neg e, if_neg e]
    exact contR_sub (h i j hi hj) (contR_mul (h i k hi (by omega)) (contR_div (h k j hk hj) (h k k hk (by omega))))
theorem pv_lt {n : Nat} {N : List (List (Int × Int))} {k : Nat} (hl : N.length = n) (hk : k < n) : k ≤ pivV N k ∧ pivV N k < n := by
  have := bst_le N k (N.length - (k + 1))
  unfold pivV
  omega
/-- Rows with a vanishing combination: the elimination comes to no end. -/
theorem inv_sing (n : Nat) : ∀ (f k : Nat) (N : List (List (Int × Int))) (X : Nat → Nat → Rat) (u : Nat → Rat), k + f = n → Wide n N → ContM n n N X → (∀ i, i < k → u i = 0) → (∃ i, i < n ∧ u i ≠ 0) → (∀ j, j < n → (sumR n fun i => u i * X i j) = 0) → invS n f k N = none
  | 0, k, N, X, u, hkf, _, _, h0, ⟨i, hi, hu⟩, _ => absurd (h0 i (by omega)) hu
  | f + 1, k, N, X, u, hkf, hW, hC, h0, hu, hs => by
    have hk : k < n := by omega
    obtain ⟨hpk, hpn⟩ := pv_lt hW.1 hk
    rw [invS]
    by_cases hsg : sgI (elI N (pivV N k) k) = 0
    · rw [if_pos hsg]
    · rw [if_neg hsg]
      have hpiv := contR_sg (el_vb hW hpn (show k < n + n by omega)) (hC _ k hpn hk) hsg
      unfold invStep
      generalize pivV N k = p at *
      have hWs := swap_wide hW hk hpn
      have hCs := cont_swap hW.1 hC hk hpn
      have hC' := cont_elim hWs hCs hk (Nat.le_refl n) (by omega)
      have hkk : swR X k p k k = X p k := by
        unfold swR sw
        by_cases e : k = p
        · rw [if_pos e, e]
        · rw [if_neg e, if_pos rfl]
      have hss : ∀ j, j < n → (sumR n fun i => u (sw k p i) * swR X k p i j) = 0 := fun j hj => by
        rw [← hs j hj]
        exact sumR_sw (fun i => u i * X i j) hk hpn
      have hπ : swR X k p k k ≠ 0 := by rw [hkk]; exact hpiv
      refine inv_sing n f (k + 1) _ _ (fun i => if i = k then 0 else u (sw k p i)) (by omega) (elim_wide hWs hk) hC' (fun i hi => ?_) ?_ (fun j hj => ?_)
      · by_cases e : i = k
        · simp [e]
        · simp only [if_neg e]
          unfold sw
          rw [if_neg (by omega), if_neg e]
          exact h0 i (by omega)
      · apply Classical.byContradiction
        intro hno
        have hall : ∀ i, i < n → i ≠ k → u (sw k p i) = 0 := fun i hi hne => by
          apply Classical.byContradiction
          intro hq
          exact hno ⟨i, hi, by simp only [if_neg hne]; exact hq⟩
        have h1 := hss k hk
        rw [sumR_one n _ k hk, sumR_zero n (fun i hi => by
          by_cases e : i = k
          · rw [if_pos e]
          · rw [if_neg e, hall i hi e]; grind)] at h1
        have h2 : u (sw k p k) = 0 := by grind
        obtain ⟨i, hi, hui⟩ := hu
        apply hui
        have e := sw_sw k p i
        rw [← e]
        by_cases a : sw k p i = k
        · rw [a]; exact h2
        · exact hall _ (sw_lt hk hpn hi) a
      · rw [sumR_congr n (g := fun i => u (sw k p i) * swR X k p i j - (swR X k p k j / swR X k p k k) * (u (sw k p i) * swR X k p i k)) fun i hi => ?_]
        · rw [sumR_sub, hss j hj, hss k hk]
          grind
        · unfold elR
          by_cases e : i = k
          · rw [e, if_pos rfl]
            grind
          · rw [if_neg e, if_neg e]
            grind
theorem el_aug {M : List (List (Int × Int))} {n i j : Nat} (h : Sq n M) (hi : i < n) (hj : j < n) : elI (augM M n) i j = elI M i j := by
  have hi' : i < M.length := by rw [h.1]; exact hi
  have hl := (h.2 M[i] (List.getElem_mem hi')).1
  have hx := List.getElem?_eq_getElem (show j < M[i].length by rw [hl]; exact hj)
  rw [el_some (List.getElem?_eq_getElem hi') hx]
  refine el_some (r := augF M n i) ?_ ?_
  · unfold augM; rw [List.getElem?_map, List.getElem?_range hi, Option.map_some]
  · unfold augF
    rw [List.getElem?_eq_getElem hi', Option.getD_some, List.getElem?_append_left (by rw [hl]; exact hj), hx]
theorem el_augR {M : List (List (Int × Int))} {n i j : Nat} (h : Sq n M) (hi : i < n) (hj : j < n) : elI (augM M n) i (n + j) = idF i j := by
  have hi' : i < M.length := by rw [h.1]; exact hi
  have hl := (h.2 M[i] (List.getElem_mem hi')).1
  refine el_some (r := augF M n i) ?_ ?_
  · unfold augM; rw [List.getElem?_map, List.getElem?_range hi, Option.map_some]
  · unfold augF
    rw [List.getElem?_eq_getElem hi', Option.getD_some, List.getElem?_append_right (by rw [hl]; omega), hl, show n + j - n = j by omega]
    unfold rowOf
    rw [List.getElem?_map, List.getElem?_range hj, Option.map_some]
theorem inv_none {n : Nat} {M : List (List (Int × Int))} {X : Nat → Nat → Rat} {u : Nat → Rat} (h : Sq n M) (hC : ContM n n M X) (hu : ∃ i, i < n ∧ u i ≠ 0) (hs : ∀ j, j < n → (sumR n fun i => u i * X i j) = 0) : invV M n = none :=
  inv_sing n n 0 (augM M n) X u (by omega) (aug_wide h) (fun i j hi hj => by rw [el_aug h hi hj]; exact hC i j hi hj) (fun i hi => by omega) hu hs
end Go.Proofs.YthejcoidgmaidaaGreat
