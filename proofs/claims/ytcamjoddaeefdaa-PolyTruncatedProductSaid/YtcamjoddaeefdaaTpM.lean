/-
  Mathematics: a product truncated twice.
-/
import Derived.Test.YtcamjoddaeefdaaArg5
namespace Go.Proofs.Ytcamjoddaeefdaa
open Go.ChangeShapes Go.WideShapes Go.ChangeAt Go.RowKit
set_option linter.unusedVariables false
set_option linter.unusedSimpArgs false
set_option maxRecDepth 100000

theorem rnd_sign (p : Tm × Tm) : (rndP p).1 ≤ 0 ∧ 0 ≤ (rndP p).2 := by
  unfold rndP
  split
  · exact ⟨Int.le_refl _, Int.le_refl _⟩
  · unfold rndE
    split <;> decide
theorem missM_sign_go : ∀ (Q : List (Tm × Tm)) (a : Int × Int), a.1 ≤ 0 ∧ 0 ≤ a.2 → (Q.foldl (fun a p => (a.1 + (rndP p).1, a.2 + (rndP p).2)) a).1 ≤ 0 ∧ 0 ≤ (Q.foldl (fun a p => (a.1 + (rndP p).1, a.2 + (rndP p).2)) a).2
  | [], a, h => h
  | p :: Q, a, h => by
    rw [List.foldl_cons]
    have := rnd_sign p
    exact missM_sign_go Q _ ⟨by dsimp only; omega, by dsimp only; omega⟩
theorem missM_sign (Q : List (Tm × Tm)) : (missM Q).1 ≤ 0 ∧ 0 ≤ (missM Q).2 := missM_sign_go Q (0, 0) ⟨Int.le_refl _, Int.le_refl _⟩
theorem trg_sign {t : Tm} (h : degE t.2 ≠ 0) : (trg t).1 ≤ 0 ∧ 0 ≤ (trg t).2 := by
  unfold trg
  rw [if_neg h]
  split
  · dsimp only; omega
  · dsimp only; omega
theorem missP_cons (D : Int) (m : Int × Int) (t : Tm) (l : List Tm) : missP D m (t :: l) = if degE t.2 ≤ D then missP D m l else missP D (addR m t) l := by
  unfold missP
  by_cases h : degE t.2 ≤ D
  · rw [if_pos h, List.filter_cons_of_neg (by simp [h])]
  · rw [if_neg h, List.filter_cons_of_pos (by simp [h]), List.foldl_cons]
theorem keptP_cons (D : Int) (t : Tm) (l : List Tm) : keptP D (t :: l) = if degE t.2 ≤ D then t :: keptP D l else keptP D l := by
  unfold keptP
  by_cases h : degE t.2 ≤ D
  · rw [if_pos h, List.filter_cons_of_pos (by simp [h])]
  · rw [if_neg h, List.filter_cons_of_neg (by simp [h])]
theorem missP_sign {D : Int} (hD : 0 ≤ D) : ∀ (l : List Tm) (m : Int × Int), m.1 ≤ 0 ∧ 0 ≤ m.2 → (missP D m l).1 ≤ 0 ∧ 0 ≤ (missP D m l).2
  | [], m, h => h
  | t :: l, m, h => by
    rw [missP_cons]
    split
    · exact missP_sign hD l m h
    · have := trg_sign (t := t) (by omega)
      exact missP_sign hD l _ ⟨by unfold addR; dsimp only; omega, by unfold addR; dsimp only; omega⟩
theorem kept_kept {L H K : Int} (h : ∀ x : Int, x ≤ K ↔ x ≤ L ∧ x ≤ H) : ∀ l : List Tm, keptP L (keptP H l) = keptP K l
  | [] => rfl
  | t :: l => by
    have ih := kept_kept h l
    have h0 := h (degE t.2)
    rw [keptP_cons H, keptP_cons K]
    by_cases h1 : degE t.2 ≤ H
    · rw [if_pos h1, keptP_cons]
      by_cases h2 : degE t.2 ≤ L
      · rw [if_pos h2, if_pos (h0.2 ⟨h2, h1⟩), ih]
      · rw [if_neg h2, if_neg (fun q => h2 (h0.1 q).1), ih]
    · rw [if_neg h1, if_neg (fun q => h1 (h0.1 q).2), ih]
theorem miss_miss {L H K : Int} (h : ∀ x : Int, x ≤ K ↔ x ≤ L ∧ x ≤ H) : ∀ (l : List Tm) (a b : Int × Int), (missP K (a.1 + b.1, a.2 + b.2) l).1 = (missP L a (keptP H l)).1 + (missP H b l).1 ∧ (missP K (a.1 + b.1, a.2 + b.2) l).2 = (missP L a (keptP H l)).2 + (missP H b l).2
  | [], a, b => ⟨rfl, rfl⟩
  | t :: l, a, b => by
    have h0 := h (degE t.2)
    rw [missP_cons K, missP_cons H, keptP_cons H]
    by_cases h1 : degE t.2 ≤ H
    · rw [if_pos h1, if_pos h1, missP_cons L]
      by_cases h2 : degE t.2 ≤ L
      · rw [if_pos h2, if_pos (h0.2 ⟨h2, h1⟩)]
        exact miss_miss h l a b
      · rw [if_neg h2, if_neg (fun q => h2 (h0.1 q).1)]
        have := miss_miss h l (addR a t) b
        rw [show addR (a.1 + b.1, a.2 + b.2) t = ((addR a t).1 + b.1, (addR a t).2 + b.2) by unfold addR; dsimp only; rw [Prod.mk.injEq]; constructor <;> omega]
        exact this
    · rw [if_neg h1, if_neg h1, if_neg (fun q => h1 (h0.1 q).2)]
      have := miss_miss h l a (addR b t)
      rw [show addR (a.1 + b.1, a.2 + b.2) t = (a.1 + (addR b t).1, a.2 + (addR b t).2) by unfold addR; dsimp only; rw [Prod.mk.injEq]; constructor <;> omega]
      exact this
/-- What does not fail. -/
theorem trunc_some {l : List Tm} {D : Int} {m : Int × Int} (h : ¬ Ent (truncP l D m).2.1 (truncP l D m).2.2) : l.any noNum = false ∧ (keptP D l).length ≤ 100 ∧ Num (missP D m l).1 ∧ Num (missP D m l).2 ∧ truncP l D m = (keptP D l, missP D m l) := by
  unfold truncP at h ⊢
  by_cases h1 : l.any noNum = true
  · rw [if_pos h1] at h
    exact absurd ⟨rfl, rfl⟩ h
  · rw [if_neg h1] at h ⊢
    by_cases h2 : 100 < (keptP D l).length ∨ entR (newR (missP D m l)) = true
    · rw [if_pos h2] at h
      exact absurd ⟨rfl, rfl⟩ h
    · rw [if_neg h2] at h ⊢
      dsimp only at h
      have h3 : Num (missP D m l).1 ∧ Num (missP D m l).2 := by
        by_cases q : Num (missP D m l).1 ∧ Num (missP D m l).2
        · exact q
        · refine absurd ?_ h
          unfold newR mkLo mkHi
          rw [if_neg q, if_neg q]
          exact ⟨rfl, rfl⟩
      refine ⟨by simpa using h1, by omega, h3.1, h3.2, ?_⟩
      unfold newR mkLo mkHi
      rw [if_pos h3, if_pos h3]
theorem num_ent {a b : Int} (h : Num a) : ¬ Ent a b := fun e => by
  unfold Num at h
  have := e.1
  omega
theorem trunc_is {l : List Tm} {D : Int} {m : Int × Int} (h1 : l.any noNum = false) (h2 : (keptP D l).length ≤ 100) (h3 : Num (missP D m l).1) (h4 : Num (missP D m l).2) : truncP l D m = (keptP D l, missP D m l) := by
  unfold truncP
  have e : newR (missP D m l) = missP D m l := by
    unfold newR mkLo mkHi
    rw [if_pos ⟨h3, h4⟩, if_pos ⟨h3, h4⟩]
  rw [if_neg (by rw [h1]; decide), e, if_neg]
  rintro (q | q)
  · omega
  · simp only [entR, Bool.and_eq_true, beq_iff_eq] at q
    exact num_ent h3 q
/-- A product truncated twice. -/
theorem twice {l m : List Tm} {L H : Int} (hL : 0 ≤ L) (hLH : L ≤ H) (h1 : ¬ Ent (mulR l m H).2.1 (mulR l m H).2.2) (h2 : ¬ Ent (mulR l m L).2.1 (mulR l m L).2.2) :
    (mulR l m L).1 = (truncP (mulR l m H).1 L (0, 0)).1 ∧ (mulR l m L).2.1 = addLo (mulR l m H).2.1 (mulR l m H).2.2 (truncP (mulR l m H).1 L (0, 0)).2.1 (truncP (mulR l m H).1 L (0, 0)).2.2 ∧ (mulR l m L).2.2 = addHi (mulR l m H).2.1 (mulR l m H).2.2 (truncP (mulR l m H).1 L (0, 0)).2.1 (truncP (mulR l m H).1 L (0, 0)).2.2 := by
  unfold mulR at h1 h2 ⊢
  obtain ⟨a1, a2, a3, a4, a5⟩ := trunc_some h1
  obtain ⟨b1, b2, b3, b4, b5⟩ := trunc_some h2
  have hk : ∀ x : Int, x ≤ min L 6 ↔ x ≤ L ∧ x ≤ min H 6 := fun x => by omega
  have mm : (missP (min L 6) (missM (pairsT l m)) (mulP l m)).1 = (missP L (0, 0) (keptP (min H 6) (mulP l m))).1 + (missP (min H 6) (missM (pairsT l m)) (mulP l m)).1 ∧ (missP (min L 6) (missM (pairsT l m)) (mulP l m)).2 = (missP L (0, 0) (keptP (min H 6) (mulP l m))).2 + (missP (min H 6) (missM (pairsT l m)) (mulP l m)).2 := by
    have := miss_miss hk (mulP l m) (0, 0) (missM (pairsT l m))
    simp only [Int.zero_add] at this
    exact this
  have ms := missM_sign (pairsT l m)
  have s1 := missP_sign (D := min H 6) (by omega) (mulP l m) _ ms
  have s2 := missP_sign hL (keptP (min H 6) (mulP l m)) (0, 0) ⟨Int.le_refl _, Int.le_refl _⟩
  have hk2 := kept_kept hk (mulP l m)
  have n1 : (keptP (min H 6) (mulP l m)).any noNum = false := by
    rw [List.any_eq_false] at a1 ⊢
    exact fun t ht => a1 t (List.mem_filter.1 ht).1
  have b3' := b3
  have b4' := b4
  unfold Num at b3 b4
  have t3 : Num (missP L (0, 0) (keptP (min H 6) (mulP l m))).1 := by unfold Num; omega
  have t4 : Num (missP L (0, 0) (keptP (min H 6) (mulP l m))).2 := by unfold Num; omega
  have tt := trunc_is (D := L) (m := (0, 0)) n1 (by rw [hk2]; exact b2) t3 t4
  rw [a5, b5]
  dsimp only
  rw [tt]
  dsimp only
  have q : ¬ (Ent (missP (min H 6) (missM (pairsT l m)) (mulP l m)).1 (missP (min H 6) (missM (pairsT l m)) (mulP l m)).2 ∨ Ent (missP L (0, 0) (keptP (min H 6) (mulP l m))).1 (missP L (0, 0) (keptP (min H 6) (mulP l m))).2) := by
    rintro (e | e)
    · exact num_ent a3 e
    · exact num_ent t3 e
  unfold addLo addHi mkLo mkHi
  rw [if_neg q, if_neg q]
  have e1 : (missP (min H 6) (missM (pairsT l m)) (mulP l m)).1 + (missP L (0, 0) (keptP (min H 6) (mulP l m))).1 = (missP (min L 6) (missM (pairsT l m)) (mulP l m)).1 := by rw [mm.1]; omega
  have e2 : (missP (min H 6) (missM (pairsT l m)) (mulP l m)).2 + (missP L (0, 0) (keptP (min H 6) (mulP l m))).2 = (missP (min L 6) (missM (pairsT l m)) (mulP l m)).2 := by rw [mm.2]; omega
  rw [e1, e2, if_pos ⟨b3', b4'⟩, if_pos ⟨b3', b4'⟩]
  exact ⟨hk2.symm, rfl, rfl⟩
end Go.Proofs.Ytcamjoddaeefdaa
