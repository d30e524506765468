/-
  Mathematics: a product truncated twice.
  The reference's Halves and Value.
  Mathematics: the sum of two polynomials.
-/
import Derived.Test.YthakeeinhgfbbaaGreatIn
namespace Go.Proofs.YthakeeinhgfbbaaGreat
open Go.ChangeShapes Go.WideShapes Go.ChangeAt Go.RowKit
set_option linter.unusedVariables false
set_option linter.unusedSimpArgs false
set_option maxRecDepth 100000

theorem rnd_sign (p : Tm × Tm) : (rndP p).1 ≤ 0 ∧ 0 ≤ (rndP p).2 := by
  unfold rndP
  split
  · exact ⟨Int.le_refl _, Int.le_refl _⟩
  · unfold rndE
    split <;> decide
theorem missM_sign_go : ∀ (Q : List (Tm × Tm)) (a : Int × Int), a.1 ≤ 0 ∧ 0 ≤ a.2 → (Q.foldl (fun a p => (a.1 + (rndP p).1, a.2 + (rndP p).2)) a).1 ≤ 0 ∧ 0 ≤ (Q.foldl (fun a p => (a.1 + (rndP p).1, a.2 + (rndP p).2)) a).2
  | [], a, h => h
  | p :: Q, a, h => by
    rw [List.foldl_cons]
    have := rnd_sign p
    exact missM_sign_go Q _ ⟨by dsimp only; omega, by dsimp only; omega⟩
theorem missM_sign (Q : List (Tm × Tm)) : (missM Q).1 ≤ 0 ∧ 0 ≤ (missM Q).2 := missM_sign_go Q (0, 0) ⟨Int.le_refl _, Int.le_refl _⟩
theorem trg_sign {t : Tm} (h : degE t.2 ≠ 0) : (trg t).1 ≤ 0 ∧ 0 ≤ (trg t).2 := by
  unfold trg
  rw [if_neg h]
  split
  · dsimp only; omega
  · dsimp only; omega
theorem missP_cons (D : Int) (m : Int × Int) (t : Tm) (l : List Tm) : missP D m (t :: l) = if degE t.2 ≤ D then missP D m l else missP D (addR m t) l := by
  unfold missP
  by_cases h : degE t.2 ≤ D
  · rw [if_pos h, List.filter_cons_of_neg (by simp [h])]
  · rw [if_neg h, List.filter_cons_of_pos (by simp [h]), List.foldl_cons]
theorem keptP_cons (D : Int) (t : Tm) (l : List Tm) : keptP D (t :: l) = if degE t.2 ≤ D then t :: keptP D l else keptP D l := by
  unfold keptP
  by_cases h : degE t.2 ≤ D
  · rw [if_pos h, List.filter_cons_of_pos (by simp [h])]
  · rw [if_neg h, List.filter_cons_of_neg (by simp [h])]
theorem missP_sign {D : Int} (hD : 0 ≤ D) : ∀ (l : List Tm) (m : Int × Int), m.1 ≤ 0 ∧ 0 ≤ m.2 → (missP D m l).1 ≤ 0 ∧ 0 ≤ (missP D m l).2
  | [], m, h => h
  | t :: l, m, h => by
    rw [missP_cons]
    split
    · exact missP_sign hD l m h
    · have := trg_sign (t := t) (by omega)
      exact missP_sign hD l _ ⟨by unfold addR; dsimp only; omega, by unfold addR; dsimp only; omega⟩
theorem kept_kept {L H K : Int} (h : ∀ x : Int, x ≤ K ↔ x ≤ L ∧ x ≤ H) : ∀ l : List Tm, keptP L (keptP H l) = keptP K l
  | [] => rfl
  | t :: l => by
    have ih := kept_kept h l
    have h0 := h (degE t.2)
    rw [keptP_cons H, keptP_cons K]
    by_cases h1 : degE t.2 ≤ H
    · rw [if_pos h1, keptP_cons]
      by_cases h2 : degE t.2 ≤ L
      · rw [if_pos h2, if_pos (h0.2 ⟨h2, h1⟩), ih]
      · rw [if_neg h2, if_neg (fun q => h2 (h0.1 q).1), ih]
    · rw [if_neg h1, if_neg (fun q => h1 (h0.1 q).2), ih]
theorem miss_miss {L H K : Int} (h : ∀ x : Int, x ≤ K ↔ x ≤ L ∧ x ≤ H) : ∀ (l : List Tm) (a b : Int × Int), (missP K (a.1 + b.1, a.2 + b.2) l).1 = (missP L a (keptP H l)).1 + (missP H b l).1 ∧ (missP K (a.1 + b.1, a.2 + b.2) l).2 = (missP L a (keptP H l)).2 + (missP H b l).2
  | [], a, b => ⟨rfl, rfl⟩
  | t :: l, a, b => by
    have h0 := h (degE t.2)
    rw [missP_cons K, missP_cons H, keptP_cons H]
    by_cases h1 : degE t.2 ≤ H
    · rw [if_pos h1, if_pos h1, missP_cons L]
      by_cases h2 : degE t.2 ≤ L
      · rw [if_pos h2, if_pos (h0.2 ⟨h2, h1⟩)]
        exact miss_miss h l a b
      · rw [if_neg h2, if_neg (fun q => h2 (h0.1 q).1)]
        have := miss_miss h l (addR a t) b
        rw [show addR (a.1 + b.1, a.2 + b.2) t = ((addR a t).1 + b.1, (addR a t).2 + b.2) by unfold addR; dsimp only; rw [Prod.mk.injEq]; constructor <;> omega]
        exact this
    · rw [if_neg h1, if_neg h1, if_neg (fun q => h1 (h0.1 q).2)]
      have := miss_miss h l a (addR b t)
      rw [show addR (a.1 + b.1, a.2 + b.2) t = (a.1 + (addR b t).1, a.2 + (addR b t).2) by unfold addR; dsimp only; rw [Prod.mk.injEq]; constructor <;> omega]
      exact this
/-- What does not fail. -/
theorem trunc_some {l : List Tm} {D : Int} {m : Int × Int} (h : ¬ Ent (truncP l D m).2.1 (truncP l D m).2.2) : l.any noNum = false ∧ (keptP D l).length ≤ 100 ∧ Num (missP D m l).1 ∧ Num (missP D m l).2 ∧ truncP l D m = (keptP D l, missP D m l) := by
  unfold truncP at h ⊢
  by_cases h1 : l.any noNum = true
  · rw [if_pos h1] at h
    exact absurd ⟨rfl, rfl⟩ h
  · rw [if_neg h1] at h ⊢
    by_cases h2 : 100 < (keptP D l).length ∨ entR (newR (missP D m l)) = true
    · rw [if_pos h2] at h
      exact absurd ⟨rfl, rfl⟩ h
    · rw [if_neg h2] at h ⊢
      dsimp only at h
      have h3 : Num (missP D m l).1 ∧ Num (missP D m l).2 := by
        by_cases q : Num (missP D m l).1 ∧ Num (missP D m l).2
        · exact q
        · refine absurd ?_ h
          unfold newR mkLo mkHi
          rw [if_neg q, if_neg q]
          exact ⟨rfl, rfl⟩
      refine ⟨by simpa using h1, by omega, h3.1, h3.2, ?_⟩
      unfold newR mkLo mkHi
      rw [if_pos h3, if_pos h3]
theorem num_ent {a b : Int} (h : Num a) : ¬ Ent a b := fun e => by
  unfold Num at h
  have := e.1
  omega
theorem trunc_is {l : List Tm} {D : Int} {m : Int × Int} (h1 : l.any noNum = false) (h2 : (keptP D l).length ≤ 100) (h3 : Num (missP D m l).1) (h4 : Num (missP D m l).2) : truncP l D m = (keptP D l, missP D m l) := by
  unfold truncP
  have e : newR (missP D m l) = missP D m l := by
    unfold newR mkLo mkHi
    rw [if_pos ⟨h3, h4⟩, if_pos ⟨h3, h4⟩]
  rw [if_neg (by rw [h1]; decide), e, if_neg]
  rintro (q | q)
  · omega
  · simp only [entR, Bool.and_eq_true, beq_iff_eq] at q
    exact num_ent h3 q
/-- A product truncated twice. -/
theorem twice {l m : List Tm} {L H : Int} (hL : 0 ≤ L) (hLH : L ≤ H) (h1 : ¬ Ent (mulR l m H).2.1 (mulR l m H).2.2) (h2 : ¬ Ent (mulR l m L).2.1 (mulR l m L).2.2) :
    (mulR l m L).1 = (truncP (mulR l m H).1 L (0, 0)).1 ∧ (mulR l m L).2.1 = addLo (mulR l m H).2.1 (mulR l m H).2.2 (truncP (mulR l m H).1 L (0, 0)).2.1 (truncP (mulR l m H).1 L (0, 0)).2.2 ∧ (mulR l m L).2.2 = addHi (mulR l m H).2.1 (mulR l m H).2.2 (truncP (mulR l m H).1 L (0, 0)).2.1 (truncP (mulR l m H).1 L (0, 0)).2.2 := by
  unfold mulR at h1 h2 ⊢
  obtain ⟨a1, a2, a3, a4, a5⟩ := trunc_some h1
  obtain ⟨b1, b2, b3, b4, b5⟩ := trunc_some h2
  have hk : ∀ x : Int, x ≤ min L 6 ↔ x ≤ L ∧ x ≤ min H 6 := fun x => by omega
  have mm : (missP (min L 6) (missM (pairsT l m)) (mulP l m)).1 = (missP L (0, 0) (keptP (min H 6) (mulP l m))).1 + (missP (min H 6) (missM (pairsT l m)) (mulP l m)).1 ∧ (missP (min L 6) (missM (pairsT l m)) (mulP l m)).2 = (missP L (0, 0) (keptP (min H 6) (mulP l m))).2 + (missP (min H 6) (missM (pairsT l m)) (mulP l m)).2 := by
    have := miss_miss hk (mulP l m) (0, 0) (missM (pairsT l m))
    simp only [Int.zero_add] at this
    exact this
  have ms := missM_sign (pairsT l m)
  have s1 := missP_sign (D := min H 6) (by omega) (mulP l m) _ ms
  have s2 := missP_sign hL (keptP (min H 6) (mulP l m)) (0, 0) ⟨Int.le_refl _, Int.le_refl _⟩
  have hk2 := kept_kept hk (mulP l m)
  have n1 : (keptP (min H 6) (mulP l m)).any noNum = false := by
    rw [List.any_eq_false] at a1 ⊢
    exact fun t ht => a1 t (List.mem_filter.1 ht).1
  have b3' := b3
  have b4' := b4
  unfold Num at b3 b4
  have t3 : Num (missP L (0, 0) (keptP (min H 6) (mulP l m))).1 := by unfold Num; omega
  have t4 : Num (missP L (0, 0) (keptP (min H 6) (mulP l m))).2 := by unfold Num; omega
  have tt := trunc_is (D := L) (m := (0, 0)) n1 (by rw [hk2]; exact b2) t3 t4
  rw [a5, b5]
  dsimp only
  rw [tt]
  dsimp only
  have q : ¬ (Ent (missP (min H 6) (missM (pairsT l m)) (mulP l m)).1 (missP (min H 6) (missM (pairsT l m)) (mulP l m)).2 ∨ Ent (missP L (0, 0) (keptP (min H 6) (mulP l m))).1 (missP L (0, 0) (keptP (min H 6) (mulP l m))).2) := by
    rintro (e | e)
    · exact num_ent a3 e
    · exact num_ent t3 e
  unfold addLo addHi mkLo mkHi
  rw [if_neg q, if_neg q]
  have e1 : (missP (min H 6) (missM (pairsT l m)) (mulP l m)).1 + (missP L (0, 0) (keptP (min H 6) (mulP l m))).1 = (missP (min L 6) (missM (pairsT l m)) (mulP l m)).1 := by rw [mm.1]; omega
  have e2 : (missP (min H 6) (missM (pairsT l m)) (mulP l m)).2 + (missP L (0, 0) (keptP (min H 6) (mulP l m))).2 = (missP (min L 6) (missM (pairsT l m)) (mulP l m)).2 := by rw [mm.2]; omega
  rw [e1, e2, if_pos ⟨b3', b4'⟩, if_pos ⟨b3', b4'⟩]
  exact ⟨hk2.symm, rfl, rfl⟩
end Go.Proofs.YthakeeinhgfbbaaGreat

namespace Go.Proofs.YthakeeinhgfbbaaGreat
open Go.ChangeShapes Go.WideShapes Go.ChangeAt Go.RowKit
set_option linter.unusedVariables false
set_option linter.unusedSimpArgs false
set_option maxRecDepth 100000

attribute [local irreducible] Calls
/-- The point's monomial in its first k coordinates, and its degree there. -/
def pm (at' e : List Int) : Nat → Int
  | 0 => 1
  | k + 1 => pm at' e k * (at'.getD k 0) ^ (e.getD k 0).toNat
def sm (e : List Int) : Nat → Nat
  | 0 => 0
  | k + 1 => sm e k + (e.getD k 0).toNat
def valAt (at' : List Int) (t : Tm) : Int := t.1 * pm at' t.2 6 * 2 ^ (12 - (degE t.2).toNat)
def valS (at' : List Int) (l : List Tm) : Int := (l.map (valAt at')).sum
theorem valS_snoc {at' : List Int} {l : List Tm} {k : Nat} {x : Tm} (hx : l[k]? = some x) : valS at' (l.take (k + 1)) = valS at' (l.take k) + valAt at' x := by
  unfold valS
  rw [List.take_add_one, hx, List.map_append, List.sum_append]
  simp
theorem two_pos : ∀ n : Nat, (0 : Int) ≤ 2 ^ n
  | 0 => by rw [Int.pow_zero]; decide
  | n + 1 => by
    have := two_pos n
    rw [Int.pow_succ]
    omega
theorem two_mono {m : Nat} : ∀ {n : Nat}, m ≤ n → (2 : Int) ^ m ≤ 2 ^ n
  | 0, h => by rw [show m = 0 by omega]; exact Int.le_refl _
  | n + 1, h => by
    by_cases q : m = n + 1
    · rw [q]; exact Int.le_refl _
    · have h1 := two_mono (m := m) (n := n) (by omega)
      have h2 := two_pos n
      rw [Int.pow_succ]
      omega
theorem abs_pow {a : Int} (h : -2 ≤ a ∧ a ≤ 2) : ∀ n : Nat, -(2 ^ n) ≤ a ^ n ∧ a ^ n ≤ 2 ^ n
  | 0 => by rw [Int.pow_zero, Int.pow_zero]; decide
  | n + 1 => by
    have ih := abs_pow h n
    rw [Int.pow_succ, Int.pow_succ]
    have hp := two_pos n
    obtain ⟨P, hP⟩ : ∃ P : Int, 2 ^ n = P := ⟨_, rfl⟩
    obtain ⟨Q, hQ⟩ : ∃ Q : Int, a ^ n = Q := ⟨_, rfl⟩
    rw [hP] at ih hp ⊢
    rw [hQ] at ih ⊢
    obtain ⟨h1, h2⟩ := h
    rcases (show a = -2 ∨ a = -1 ∨ a = 0 ∨ a = 1 ∨ a = 2 by omega) with rfl | rfl | rfl | rfl | rfl <;> omega
theorem mul_bd {a b P Q : Int} (h1 : -P ≤ a ∧ a ≤ P) (h2 : -Q ≤ b ∧ b ≤ Q) (hP : 0 ≤ P) (hQ : 0 ≤ Q) : -(P * Q) ≤ a * b ∧ a * b ≤ P * Q := by
  have e1 : 0 ≤ (P - a) * (Q + b) := Int.mul_nonneg (by omega) (by omega)
  have e2 : 0 ≤ (P + a) * (Q - b) := Int.mul_nonneg (by omega) (by omega)
  have e3 : 0 ≤ (P - a) * (Q - b) := Int.mul_nonneg (by omega) (by omega)
  have e4 : 0 ≤ (P + a) * (Q + b) := Int.mul_nonneg (by omega) (by omega)
  simp only [Int.sub_mul, Int.add_mul, Int.mul_sub, Int.mul_add] at e1 e2 e3 e4
  omega
theorem pm_bd {at' e : List Int} (h : ∀ k, -2 ≤ at'.getD k 0 ∧ at'.getD k 0 ≤ 2) : ∀ k : Nat, -(2 ^ sm e k) ≤ pm at' e k ∧ pm at' e k ≤ 2 ^ sm e k
  | 0 => by rw [sm, pm, Int.pow_zero]; decide
  | k + 1 => by
    have ih := pm_bd (e := e) h k
    have h1 := abs_pow (h k) (e.getD k 0).toNat
    have := mul_bd ih h1 (two_pos _) (two_pos _)
    rw [← Int.pow_add] at this
    exact this
theorem getD_bd {at' : List Int} (h : ∀ x ∈ at', -2 ≤ x ∧ x ≤ 2) (k : Nat) : -2 ≤ at'.getD k 0 ∧ at'.getD k 0 ≤ 2 := by
  rw [List.getD_eq_getElem?_getD]
  cases hk : at'[k]? with
  | none => decide
  | some x => exact h x (List.mem_of_getElem? hk)
theorem sm_mono (e : List Int) : ∀ {k n : Nat}, k ≤ n → sm e k ≤ sm e n
  | k, 0, h => by rw [show k = 0 by omega]; exact Nat.le_refl _
  | k, n + 1, h => by
    by_cases q : k = n + 1
    · rw [q]; exact Nat.le_refl _
    · exact Nat.le_trans (sm_mono e (show k ≤ n by omega)) (Nat.le_add_right _ _)
theorem sm_six {e : List Int} (h : EV e) : (sm e 6 : Int) = degE e := by
  obtain ⟨a, b, c, d, f, g, rfl⟩ := six_of h
  have q := h.2
  simp only [List.mem_cons, List.not_mem_nil, or_false, forall_eq_or_imp, forall_eq] at q
  simp only [sm, degE, List.getD_cons_zero, List.getD_cons_succ, List.sum_cons, List.sum_nil]
  omega
theorem big_bd {c B : Int} {n : Nat} (hc : -2147483648 ≤ c ∧ c ≤ 2147483648) (hB : -(2 ^ n) ≤ B ∧ B ≤ 2 ^ n) (hn : n ≤ 12) : -8796093022208 ≤ c * B ∧ c * B ≤ 8796093022208 := by
  have h := mul_bd hc hB (by decide) (two_pos n)
  have h2 := two_mono hn
  have e : (2 : Int) ^ 12 = 4096 := by decide
  omega
end Go.Proofs.YthakeeinhgfbbaaGreat

namespace Go.Proofs.YthakeeinhgfbbaaGreat
open Go.ChangeShapes Go.WideShapes Go.ChangeAt Go.RowKit
set_option linter.unusedVariables false
set_option linter.unusedSimpArgs false
set_option maxRecDepth 100000

theorem merge_all {Q : List Int → Prop} (l m : List Tm) : (∀ t ∈ l, Q t.2) → (∀ t ∈ m, Q t.2) → ∀ t ∈ mergeP l m, Q t.2 := by
  induction l, m using mergeP.induct with
  | case1 m => intro _ h t ht; rw [mergeP] at ht; exact h t ht
  | case2 x l => intro h _ t ht; rw [mergeP] at ht; exact h t ht
  | case3 x l y m h0 ih =>
    intro h1 h2 t ht
    rw [mergeP, if_pos h0] at ht
    rcases List.mem_cons.1 ht with rfl | ht
    · exact h1 _ (by simp)
    · exact ih (fun t ht => h1 t (by simp [ht])) h2 t ht
  | case4 x l y m h0 h3 ih =>
    intro h1 h2 t ht
    rw [mergeP, if_neg h0, if_pos h3] at ht
    rcases List.mem_cons.1 ht with rfl | ht
    · exact h2 _ (by simp)
    · exact ih h1 (fun t ht => h2 t (by simp [ht])) t ht
  | case5 x l y m h0 h3 h4 ih =>
    intro h1 h2 t ht
    rw [mergeP, if_neg h0, if_neg h3, if_pos h4] at ht
    exact ih (fun t ht => h1 t (by simp [ht])) (fun t ht => h2 t (by simp [ht])) t ht
  | case6 x l y m h0 h3 h4 ih =>
    intro h1 h2 t ht
    rw [mergeP, if_neg h0, if_neg h3, if_neg h4] at ht
    rcases List.mem_cons.1 ht with rfl | ht
    · exact h1 x (by simp)
    · exact ih (fun t ht => h1 t (by simp [ht])) (fun t ht => h2 t (by simp [ht])) t ht
theorem merge_len (l m : List Tm) : (mergeP l m).length ≤ l.length + m.length := by
  induction l, m using mergeP.induct with
  | case1 m => rw [mergeP]; simp
  | case2 x l => rw [mergeP]; simp
  | case3 x l y m h0 ih => rw [mergeP, if_pos h0]; simp only [List.length_cons] at ih ⊢; omega
  | case4 x l y m h0 h3 ih => rw [mergeP, if_neg h0, if_pos h3]; simp only [List.length_cons] at ih ⊢; omega
  | case5 x l y m h0 h3 h4 ih => rw [mergeP, if_neg h0, if_neg h3, if_pos h4]; simp only [List.length_cons] at ih ⊢; omega
  | case6 x l y m h0 h3 h4 ih => rw [mergeP, if_neg h0, if_neg h3, if_neg h4]; simp only [List.length_cons] at ih ⊢; omega
theorem merge_nz (l m : List Tm) : (∀ t ∈ l, t.1 ≠ 0) → (∀ t ∈ m, t.1 ≠ 0) → ∀ t ∈ mergeP l m, t.1 ≠ 0 := by
  induction l, m using mergeP.induct with
  | case1 m => intro _ h t ht; rw [mergeP] at ht; exact h t ht
  | case2 x l => intro h _ t ht; rw [mergeP] at ht; exact h t ht
  | case3 x l y m h0 ih =>
    intro h1 h2 t ht
    rw [mergeP, if_pos h0] at ht
    rcases List.mem_cons.1 ht with rfl | ht
    · exact h1 _ (by simp)
    · exact ih (fun t ht => h1 t (by simp [ht])) h2 t ht
  | case4 x l y m h0 h3 ih =>
    intro h1 h2 t ht
    rw [mergeP, if_neg h0, if_pos h3] at ht
    rcases List.mem_cons.1 ht with rfl | ht
    · exact h2 _ (by simp)
    · exact ih h1 (fun t ht => h2 t (by simp [ht])) t ht
  | case5 x l y m h0 h3 h4 ih =>
    intro h1 h2 t ht
    rw [mergeP, if_neg h0, if_neg h3, if_pos h4] at ht
    exact ih (fun t ht => h1 t (by simp [ht])) (fun t ht => h2 t (by simp [ht])) t ht
  | case6 x l y m h0 h3 h4 ih =>
    intro h1 h2 t ht
    rw [mergeP, if_neg h0, if_neg h3, if_neg h4] at ht
    rcases List.mem_cons.1 ht with rfl | ht
    · exact h4
    · exact ih (fun t ht => h1 t (by simp [ht])) (fun t ht => h2 t (by simp [ht])) t ht
theorem merge_bd (l m : List Tm) : (∀ t ∈ l, Num t.1) → (∀ t ∈ m, Num t.1) → ∀ t ∈ mergeP l m, -4294967296 ≤ t.1 ∧ t.1 ≤ 4294967296 := by
  have hn : ∀ {x : Int}, Num x → -4294967296 ≤ x ∧ x ≤ 4294967296 := fun h => by unfold Num at h; omega
  induction l, m using mergeP.induct with
  | case1 m => intro _ h t ht; rw [mergeP] at ht; exact hn (h t ht)
  | case2 x l => intro h _ t ht; rw [mergeP] at ht; exact hn (h t ht)
  | case3 x l y m h0 ih =>
    intro h1 h2 t ht
    rw [mergeP, if_pos h0] at ht
    rcases List.mem_cons.1 ht with rfl | ht
    · exact hn (h1 _ (by simp))
    · exact ih (fun t ht => h1 t (by simp [ht])) h2 t ht
  | case4 x l y m h0 h3 ih =>
    intro h1 h2 t ht
    rw [mergeP, if_neg h0, if_pos h3] at ht
    rcases List.mem_cons.1 ht with rfl | ht
    · exact hn (h2 _ (by simp))
    · exact ih h1 (fun t ht => h2 t (by simp [ht])) t ht
  | case5 x l y m h0 h3 h4 ih =>
    intro h1 h2 t ht
    rw [mergeP, if_neg h0, if_neg h3, if_pos h4] at ht
    exact ih (fun t ht => h1 t (by simp [ht])) (fun t ht => h2 t (by simp [ht])) t ht
  | case6 x l y m h0 h3 h4 ih =>
    intro h1 h2 t ht
    rw [mergeP, if_neg h0, if_neg h3, if_neg h4] at ht
    rcases List.mem_cons.1 ht with rfl | ht
    · have a := h1 x (by simp)
      have b := h2 y (by simp)
      unfold Num at a b
      dsimp only
      omega
    · exact ih (fun t ht => h1 t (by simp [ht])) (fun t ht => h2 t (by simp [ht])) t ht
theorem merge_tv {l m : List Tm} (h1 : ∀ t ∈ l, TV t ∧ Num t.1) (h2 : ∀ t ∈ m, TV t ∧ Num t.1) : ∀ t ∈ mergeP l m, TV t := fun t ht => by
  have a := merge_all (Q := EV) l m (fun t ht => (h1 t ht).1.1) (fun t ht => (h2 t ht).1.1) t ht
  have b := merge_bd l m (fun t ht => (h1 t ht).2) (fun t ht => (h2 t ht).2) t ht
  exact ⟨a, by omega, by omega⟩
theorem cmp_mid {a b : List Int} (h1 : ¬ cmpE a b < 0) (h2 : ¬ 0 < cmpE a b) : a = b := cmp_zero (by omega)
theorem merge_rise (l m : List Tm) : Rise l → Rise m → Rise (mergeP l m) := by
  induction l, m using mergeP.induct with
  | case1 m => intro _ h; rw [mergeP]; exact h
  | case2 x l => intro h _; rw [mergeP]; exact h
  | case3 x l y m h0 ih =>
    intro h1 h2
    rw [mergeP, if_pos h0]
    have a := List.pairwise_cons.1 h1
    have b := List.pairwise_cons.1 h2
    refine List.pairwise_cons.2 ⟨?_, ih a.2 h2⟩
    refine merge_all (Q := fun e => cmpE x.2 e < 0) l (y :: m) a.1 fun t ht => ?_
    rcases List.mem_cons.1 ht with rfl | ht
    · exact h0
    · exact cmp_trans h0 (b.1 t ht)
  | case4 x l y m h0 h3 ih =>
    intro h1 h2
    rw [mergeP, if_neg h0, if_pos h3]
    have a := List.pairwise_cons.1 h1
    have b := List.pairwise_cons.1 h2
    have hyx : cmpE y.2 x.2 < 0 := by rw [cmp_flip x.2 y.2]; omega
    refine List.pairwise_cons.2 ⟨?_, ih h1 b.2⟩
    refine merge_all (Q := fun e => cmpE y.2 e < 0) (x :: l) m (fun t ht => ?_) b.1
    rcases List.mem_cons.1 ht with rfl | ht
    · exact hyx
    · exact cmp_trans hyx (a.1 t ht)
  | case5 x l y m h0 h3 h4 ih =>
    intro h1 h2
    rw [mergeP, if_neg h0, if_neg h3, if_pos h4]
    exact ih (List.pairwise_cons.1 h1).2 (List.pairwise_cons.1 h2).2
  | case6 x l y m h0 h3 h4 ih =>
    intro h1 h2
    rw [mergeP, if_neg h0, if_neg h3, if_neg h4]
    have a := List.pairwise_cons.1 h1
    have b := List.pairwise_cons.1 h2
    have e := cmp_mid h0 h3
    refine List.pairwise_cons.2 ⟨?_, ih a.2 b.2⟩
    exact merge_all (Q := fun f => cmpE x.2 f < 0) l m a.1 (fun t ht => by rw [e]; exact b.1 t ht)
theorem valAt_add (p : List Int) (x y : Int) (e : List Int) : valAt p (x + y, e) = valAt p (x, e) + valAt p (y, e) := by
  unfold valAt
  dsimp only
  rw [Int.add_mul, Int.add_mul]
theorem valS_cons (p : List Int) (t : Tm) (l : List Tm) : valS p (t :: l) = valAt p t + valS p l := by simp [valS]
theorem merge_val (p : List Int) (l m : List Tm) : valS p (mergeP l m) = valS p l + valS p m := by
  induction l, m using mergeP.induct with
  | case1 m => rw [mergeP]; simp [valS]
  | case2 x l => rw [mergeP]; simp [valS]
  | case3 x l y m h0 ih => rw [mergeP, if_pos h0, valS_cons, ih, valS_cons p x l]; omega
  | case4 x l y m h0 h3 ih => rw [mergeP, if_neg h0, if_pos h3, valS_cons, ih, valS_cons p y]; omega
  | case5 x l y m h0 h3 h4 ih =>
    rw [mergeP, if_neg h0, if_neg h3, if_pos h4, ih, valS_cons, valS_cons]
    have e := cmp_mid h0 h3
    have h := valAt_add p x.1 y.1 x.2
    rw [h4] at h
    have z : valAt p (0, x.2) = 0 := by simp [valAt]
    rw [z] at h
    have e2 : valAt p (y.1, x.2) = valAt p y := by rw [e]
    have e1 : valAt p (x.1, x.2) = valAt p x := rfl
    omega
  | case6 x l y m h0 h3 h4 ih =>
    rw [mergeP, if_neg h0, if_neg h3, if_neg h4, valS_cons, ih, valS_cons, valS_cons]
    have e := cmp_mid h0 h3
    have h := valAt_add p x.1 y.1 x.2
    have e2 : valAt p (y.1, x.2) = valAt p y := by rw [e]
    have e1 : valAt p (x.1, x.2) = valAt p x := rfl
    omega
def negT (l : List Tm) : List Tm := l.map fun t => (-t.1, t.2)
theorem merge_neg : ∀ l : List Tm, mergeP l (negT l) = []
  | [] => by simp [negT, mergeP]
  | t :: l => by
    show mergeP (t :: l) ((-t.1, t.2) :: negT l) = []
    rw [mergeP, if_neg (by rw [cmp_self]; decide), if_neg (by rw [cmp_self]; decide), if_pos (by dsimp only; omega)]
    exact merge_neg l
theorem all_of_rise {l : List Tm} (h : Rise l) (h1 : ∀ t ∈ l, t.1 ≠ 0 ∧ degE t.2 ≤ 6) : allT l l.length := fun i hi => by
  have hx := List.getElem?_eq_getElem hi
  have hm := List.mem_of_getElem? hx
  refine ⟨_, hx, (h1 _ hm).1, (h1 _ hm).2, fun h0 => ⟨_, List.getElem?_eq_getElem (show i - 1 < l.length by omega), ?_⟩⟩
  exact List.pairwise_iff_getElem.1 h (i - 1) i (by omega) hi (by omega)
theorem rise_of_all {l : List Tm} (h : allT l l.length) : Rise l := by
  refine List.pairwise_iff_getElem.2 fun i j hi hj hij => ?_
  have key : ∀ (d : Nat) (k : Nat) (hk : k < l.length), k = i + d + 1 → cmpE l[i].2 l[k].2 < 0 := by
    intro d
    induction d with
    | zero =>
      intro k hk e
      obtain ⟨t, ht, _, _, hs⟩ := h k hk
      obtain ⟨s, hs1, hs2⟩ := hs (by omega)
      have e1 : k - 1 = i := by omega
      rw [e1, List.getElem?_eq_getElem hi] at hs1
      rw [List.getElem?_eq_getElem hk] at ht
      rw [Option.some.inj hs1, Option.some.inj ht]
      exact hs2
    | succ d ih =>
      intro k hk e
      obtain ⟨t, ht, _, _, hs⟩ := h k hk
      obtain ⟨s, hs1, hs2⟩ := hs (by omega)
      have hk1 : k - 1 < l.length := by omega
      have q := ih (k - 1) hk1 (by omega)
      rw [List.getElem?_eq_getElem hk1] at hs1
      rw [List.getElem?_eq_getElem hk] at ht
      rw [Option.some.inj hs1] at q
      rw [Option.some.inj ht]
      exact cmp_trans q hs2
  exact key (j - i - 1) j hj (by omega)
theorem vp_parts {l : List Tm} (h : VP l) : Rise l ∧ ∀ t ∈ l, t.1 ≠ 0 ∧ degE t.2 ≤ 6 := by
  refine ⟨rise_of_all h.1, fun t ht => ?_⟩
  obtain ⟨i, hi, rfl⟩ := List.getElem_of_mem ht
  obtain ⟨s, hs, h1, h2, _⟩ := h.1 i hi
  rw [List.getElem?_eq_getElem hi] at hs
  rw [Option.some.inj hs]
  exact ⟨h1, h2⟩
theorem kept_all {D : Int} {l : List Tm} (h : ∀ t ∈ l, degE t.2 ≤ D) : keptP D l = l := List.filter_eq_self.2 fun t ht => by simpa using h t ht
theorem miss_all {D : Int} {l : List Tm} (m : Int × Int) (h : ∀ t ∈ l, degE t.2 ≤ D) : missP D m l = m := by
  unfold missP
  rw [List.filter_eq_nil_iff.2 fun t ht => by simpa using h t ht]
  rfl
theorem trunc_none {l : List Tm} {D : Int} {m : Int × Int} (h : Ent (truncP l D m).2.1 (truncP l D m).2.2) : (truncP l D m).1 = [] := by
  unfold truncP at h ⊢
  by_cases h1 : l.any noNum = true
  · rw [if_pos h1]
  · rw [if_neg h1] at h ⊢
    by_cases h2 : 100 < (keptP D l).length ∨ entR (newR (missP D m l)) = true
    · rw [if_pos h2]
    · rw [if_neg h2] at h
      exfalso
      apply h2
      right
      dsimp only at h
      simp only [entR, Bool.and_eq_true, beq_iff_eq]
      exact h
/-- The sum, where it does not fail. -/
theorem sum_some {l m : List Tm} (h1 : VP l) (h2 : VP m) (h : ¬ Ent (truncP (mergeP l m) 6 (0, 0)).2.1 (truncP (mergeP l m) 6 (0, 0)).2.2) : truncP (mergeP l m) 6 (0, 0) = (mergeP l m, (0, 0)) ∧ VP (mergeP l m) := by
  obtain ⟨a1, a2, a3, a4, a5⟩ := trunc_some h
  have p1 := vp_parts h1
  have p2 := vp_parts h2
  have hd := merge_all (Q := fun e => degE e ≤ 6) l m (fun t ht => (p1.2 t ht).2) (fun t ht => (p2.2 t ht).2)
  have hz := merge_nz l m (fun t ht => (p1.2 t ht).1) (fun t ht => (p2.2 t ht).1)
  rw [kept_all hd, miss_all _ hd] at a5
  rw [kept_all hd] at a2
  exact ⟨a5, all_of_rise (merge_rise l m p1.1 p2.1) fun t ht => ⟨hz t ht, hd t ht⟩, a2, a1⟩
theorem sum_neg (l : List Tm) : truncP (mergeP l (negT l)) 6 (0, 0) = ([], (0, 0)) := by
  rw [merge_neg]
  decide
end Go.Proofs.YthakeeinhgfbbaaGreat
