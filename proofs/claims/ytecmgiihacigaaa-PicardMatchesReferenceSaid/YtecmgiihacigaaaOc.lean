/-
  The values of a tape are isotone.
-/
import Derived.Test.YtecmgiihacigaaaU8
import Derived.Test.YtecmgiihacigaaaIsoMath
namespace Go.Proofs.Ytecmgiihacigaaa
set_option linter.unusedVariables false
set_option linter.unusedSimpArgs false
set_option maxRecDepth 100000
/-- p lies in q. -/
def SbI (p q : Int × Int) : Prop := Sb p.1 p.2 q.1 q.2
theorem rtI_iso {p q : Int × Int} (hp : VI p.1 p.2) (hq : VI q.1 q.2) (h : SbI p q) : SbI (rtI p) (rtI q) := by
  have bp := hp.bd
  have h1 := rtI_vi hp
  have b1 := h1.bd
  have hs : q.1 ≤ p.1 ∧ p.2 ≤ q.2 := h
  by_cases hq0 : q.1 < 0
  · have e : rtI q = (-2147483648, 2147483648) := if_pos hq0
    rw [e]
    unfold SbI Sb
    dsimp only
    omega
  · have hp0 : ¬ p.1 < 0 := by omega
    have e1 : rtI p = (mkLo (rt1 p.1) (rt2 p.2), mkHi (rt1 p.1) (rt2 p.2)) := if_neg hp0
    have e2 : rtI q = (mkLo (rt1 q.1) (rt2 q.2), mkHi (rt1 q.1) (rt2 q.2)) := if_neg hq0
    rw [e1, e2]
    have hbp : p.1 ≤ p.2 := bp.2.2.2.2
    have h2 : 0 ≤ p.2 := by omega
    have hh : Sb p.1 p.2 q.1 q.2 := h
    have hr := rt_iso (a := p.1) (b := p.2) (i := q.1) (j := q.2) hbp h2 hh
    unfold SbI
    dsimp only
    exact hr
theorem opI_iso (op : Int) {p q p' q' : Int × Int} (hp : VI p.1 p.2) (hq : VI q.1 q.2) (hp' : VI p'.1 p'.2) (hq' : VI q'.1 q'.2) (h : SbI p p') (g : SbI q q') : SbI (opI op p q) (opI op p' q') := by
  unfold opI
  by_cases h4 : op = 4
  · rw [if_pos h4, if_pos h4]; exact neg_iso h
  rw [if_neg h4, if_neg h4]
  by_cases h5 : op = 5
  · rw [if_pos h5, if_pos h5]; exact sq_iso hp hp' h
  rw [if_neg h5, if_neg h5]
  by_cases h6 : op = 6
  · rw [if_pos h6, if_pos h6]; exact rtI_iso hp hp' h
  rw [if_neg h6, if_neg h6]
  by_cases h7 : op = 7
  · rw [if_pos h7, if_pos h7]; exact add_iso hp hq hp' hq' h g
  rw [if_neg h7, if_neg h7]
  by_cases h8 : op = 8
  · rw [if_pos h8, if_pos h8]; exact add_iso hp hq.neg hp' hq'.neg h (neg_iso g)
  rw [if_neg h8, if_neg h8]
  by_cases h9 : op = 9
  · rw [if_pos h9, if_pos h9]; exact mul_iso hp hq hp' hq' h g
  · rw [if_neg h9, if_neg h9]; exact div_iso hp hq hp' hq' h g
/-- Pointwise: valid, and the first lies in the second. -/
def SbL (l m : List (Int × Int)) : Prop := l.length = m.length ∧ ∀ (i : Nat) (p q : Int × Int), l[i]? = some p → m[i]? = some q → VI p.1 p.2 ∧ VI q.1 q.2 ∧ SbI p q
theorem sbL_getD {l m : List (Int × Int)} (h : SbL l m) (j : Nat) : VI (l.getD j (0, 0)).1 (l.getD j (0, 0)).2 ∧ VI (m.getD j (0, 0)).1 (m.getD j (0, 0)).2 ∧ SbI (l.getD j (0, 0)) (m.getD j (0, 0)) := by
  rw [List.getD_eq_getElem?_getD, List.getD_eq_getElem?_getD]
  by_cases hj : j < l.length
  · obtain ⟨p, hp⟩ : ∃ p, l[j]? = some p := ⟨_, List.getElem?_eq_getElem hj⟩
    obtain ⟨q, hq⟩ : ∃ q, m[j]? = some q := ⟨_, List.getElem?_eq_getElem (by rw [← h.1]; exact hj)⟩
    rw [hp, hq]
    exact h.2 j p q hp hq
  · rw [List.getElem?_eq_none (by omega), List.getElem?_eq_none (by have := h.1; omega)]
    exact ⟨.inr (by decide), .inr (by decide), ⟨Int.le_refl _, Int.le_refl _⟩⟩
theorem sbL_snoc {l m : List (Int × Int)} (h : SbL l m) {p q : Int × Int} (hp : VI p.1 p.2) (hq : VI q.1 q.2) (g : SbI p q) : SbL (l ++ [p]) (m ++ [q]) := by
  refine ⟨by simp [h.1], fun i a b ha hb => ?_⟩
  by_cases hi : i < l.length
  · rw [List.getElem?_append_left hi] at ha
    rw [List.getElem?_append_left (by rw [← h.1]; exact hi)] at hb
    exact h.2 i a b ha hb
  · have hi2 := (List.getElem?_eq_some_iff.1 ha).1
    simp only [List.length_append, List.length_singleton] at hi2
    obtain rfl : i = l.length := by omega
    rw [List.getElem?_append_right (Nat.le_refl _), Nat.sub_self] at ha
    rw [List.getElem?_append_right (by rw [h.1]; exact Nat.le_refl _), h.1, Nat.sub_self] at hb
    simp only [List.getElem?_cons_zero, Option.some.injEq] at ha hb
    subst ha hb
    exact ⟨hp, hq, g⟩
/-- Larger coordinates and times give larger values. -/
theorem evL_iso {X X' : List (Int × Int)} {t t' : Int × Int} {L : List Is} {n : Int} (hX : SbL X X') (ht : VI t.1 t.2) (ht' : VI t'.1 t'.2) (hs : SbI t t') (hL : ∀ (k : Nat) (x : Is), L[k]? = some x → vinB k n x = true) : SbL (evL X t L) (evL X' t' L) := by
  have key : ∀ k, k ≤ L.length → SbL (evL X t (L.take k)) (evL X' t' (L.take k)) := by
    intro k
    induction k with
    | zero => intro _; exact ⟨rfl, fun i a b ha => by simp [evL] at ha⟩
    | succ k ih =>
      intro hk
      obtain ⟨x, hx⟩ : ∃ x, L[k]? = some x := ⟨_, List.getElem?_eq_getElem (by omega)⟩
      have h0 := ih (by omega)
      rw [evL_snoc hx, evL_snoc hx]
      have hv := hL k x hx
      have hc := vin_cases hv
      suffices h : VI (evI X t (evL X t (L.take k)) x).1 (evI X t (evL X t (L.take k)) x).2 ∧ VI (evI X' t' (evL X' t' (L.take k)) x).1 (evI X' t' (evL X' t' (L.take k)) x).2 ∧ SbI (evI X t (evL X t (L.take k)) x) (evI X' t' (evL X' t' (L.take k)) x) from sbL_snoc h0 h.1 h.2.1 h.2.2
      unfold evI
      by_cases e1 : x.op = 1
      · rw [if_pos e1, if_pos e1]
        have hvi : VI x.lo x.hi := by
          rcases hc with h | h | h | h | h
          · exact h.2
          all_goals omega
        exact ⟨hvi, hvi, Int.le_refl _, Int.le_refl _⟩
      rw [if_neg e1, if_neg e1]
      by_cases e2 : x.op = 2
      · rw [if_pos e2, if_pos e2]; exact sbL_getD hX _
      rw [if_neg e2, if_neg e2]
      by_cases e3 : x.op = 3
      · rw [if_pos e3, if_pos e3]; exact ⟨ht, ht', hs⟩
      rw [if_neg e3, if_neg e3]
      have ga := sbL_getD h0 x.a.toNat
      have gb := sbL_getD h0 x.b.toNat
      exact ⟨opI_vi _ ga.1 gb.1, opI_vi _ ga.2.1 gb.2.1, opI_iso _ ga.1 gb.1 ga.2.1 gb.2.1 ga.2.2 gb.2.2⟩
  have := key L.length (Nat.le_refl _)
  rwa [List.take_length] at this
end Go.Proofs.Ytecmgiihacigaaa
