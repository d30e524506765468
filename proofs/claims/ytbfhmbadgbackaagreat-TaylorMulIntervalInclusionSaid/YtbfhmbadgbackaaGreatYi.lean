/-
  Truncated models keep their values.
-/
import Derived.Test.YtbfhmbadgbackaaGreatYh
import Derived.Test.YtbfhmbadgbackaaGreatYg
namespace Go.Proofs.YtbfhmbadgbackaaGreat
open Go.ChangeShapes Go.WideShapes Go.ChangeAt Go.RowKit
set_option linter.unusedVariables false
set_option linter.unusedSimpArgs false

theorem even_pow {v : Int} (hv : -1 ≤ v ∧ v ≤ 1) {n : Nat} (hn : n % 2 = 0) : 0 ≤ v ^ n ∧ v ^ n ≤ 1 := by
  obtain ⟨m, rfl⟩ : ∃ m, n = 2 * m := ⟨n / 2, by omega⟩
  rw [Int.pow_mul]
  have h2 : v ^ 2 = 0 ∨ v ^ 2 = 1 := by
    rcases (show v = -1 ∨ v = 0 ∨ v = 1 by omega) with rfl | rfl | rfl
    · exact .inr (by decide)
    · exact .inl (by decide)
    · exact .inr (by decide)
  have : ∀ m : Nat, 0 ≤ (v ^ 2) ^ m ∧ (v ^ 2) ^ m ≤ 1 := by
    intro m
    induction m with
    | zero => simp
    | succ m ih =>
      rw [Int.pow_succ]
      rcases h2 with h | h <;> rw [h] at ih ⊢ <;> omega
  exact this m
theorem get_ev {e : List Int} (he : EV e) (j : Nat) : 0 ≤ e.getD j 0 := by
  rw [List.getD_eq_getElem?_getD]
  cases h : e[j]? with
  | none => simp
  | some x => exact (he.2 x (List.mem_of_getElem? h)).1
theorem pmC_even (s : List Int) {e : List Int} (he : EV e) (hv : evenE e = true) : ∀ j, 0 ≤ pmC s e j ∧ pmC s e j ≤ 1
  | 0 => by unfold pmC; omega
  | j + 1 => by
    unfold pmC
    have h1 := pmC_even s he hv j
    have h2 : (e.getD j 0).toNat % 2 = 0 := by
      rw [List.getD_eq_getElem?_getD]
      cases h : e[j]? with
      | none => simp
      | some x =>
        have hx := List.all_eq_true.1 hv x (List.mem_of_getElem? h)
        have h0 := (he.2 x (List.mem_of_getElem? h)).1
        simp only [beq_iff_eq] at hx
        simp only [Option.getD_some]
        omega
    have h3 := even_pow (cnr_bd s j) h2
    rcases (show pmC s e j = 0 ∨ pmC s e j = 1 by omega) with h | h <;> rw [h] <;> omega
theorem deg_zero {e : List Int} (he : EV e) (h : degE e = 0) : ∀ x ∈ e, x = 0 := by
  obtain ⟨a, b, c, d, f, g, rfl⟩ := six_of he
  have hb := he.2
  simp only [List.mem_cons, List.not_mem_nil, or_false, forall_eq_or_imp, forall_eq] at hb
  simp only [degE, List.sum_cons, List.sum_nil] at h
  intro x hx
  simp only [List.mem_cons, List.not_mem_nil, or_false] at hx
  omega
theorem pmC_zero (s : List Int) {e : List Int} (h : ∀ x ∈ e, x = 0) : ∀ j, pmC s e j = 1
  | 0 => rfl
  | j + 1 => by
    unfold pmC
    rw [pmC_zero s h j]
    have : e.getD j 0 = 0 := by
      rw [List.getD_eq_getElem?_getD]
      cases q : e[j]? with
      | none => rfl
      | some x => exact h x (List.mem_of_getElem? q)
    rw [this]
    simp
theorem trg_cv (s : List Int) {t : Tm} (he : EV t.2) : (trg t).1 ≤ cvT s t ∧ cvT s t ≤ (trg t).2 := by
  unfold trg cvT
  by_cases h0 : degE t.2 = 0
  · rw [if_pos h0, pmC_zero s (deg_zero he h0) 6]
    dsimp only
    omega
  · rw [if_neg h0]
    by_cases h1 : evenE t.2 = true
    · rw [if_pos h1]
      have := pmC_even s he h1 6
      rcases (show pmC s t.2 6 = 0 ∨ pmC s t.2 6 = 1 by omega) with h | h <;> rw [h] <;> dsimp only <;> omega
    · rw [if_neg h1]
      have := pmC_one s t.2 6
      rcases (show pmC s t.2 6 = -1 ∨ pmC s t.2 6 = 0 ∨ pmC s t.2 6 = 1 by omega) with h | h | h <;> rw [h] <;> dsimp only <;> omega
theorem cvS_cons (s : List Int) (t : Tm) (l : List Tm) : cvS s (t :: l) = cvT s t + cvS s l := by simp [cvS]
theorem foldR_cv (s : List Int) : ∀ (l : List Tm) (m : Int × Int) (x : Int), m.1 ≤ x ∧ x ≤ m.2 → (∀ t ∈ l, EV t.2) → (l.foldl addR m).1 ≤ x + cvS s l ∧ x + cvS s l ≤ (l.foldl addR m).2
  | [], m, x, h, _ => by simpa [cvS] using h
  | t :: l, m, x, h, hl => by
    have h1 := trg_cv s (hl t (by simp))
    have h2 := foldR_cv s l (addR m t) (x + cvT s t) (by unfold addR; dsimp only; omega) fun u hu => hl u (by simp [hu])
    rw [List.foldl_cons, cvS_cons]
    omega
theorem cv_split (s : List Int) (f : Tm → Bool) : ∀ l : List Tm, cvS s l = cvS s (l.filter f) + cvS s (l.filter fun t => !f t)
  | [] => by simp [cvS]
  | t :: l => by
    have := cv_split s f l
    rw [cvS_cons]
    by_cases h : f t = true
    · rw [List.filter_cons_of_pos h, List.filter_cons_of_neg (by simp [h]), cvS_cons]
      omega
    · rw [List.filter_cons_of_neg h, List.filter_cons_of_pos (by simp [h]), cvS_cons]
      omega
theorem trunc_cv (s : List Int) {l : List Tm} {D : Int} (hl : ∀ t ∈ l, EV t.2) (h : ¬ Ent (truncP l D (0, 0)).2.1 (truncP l D (0, 0)).2.2) : cvS s (truncP l D (0, 0)).1 + (truncP l D (0, 0)).2.1 ≤ cvS s l ∧ cvS s l ≤ cvS s (truncP l D (0, 0)).1 + (truncP l D (0, 0)).2.2 := by
  obtain ⟨_, _, _, _, e⟩ := trunc_some h
  rw [e]
  dsimp only
  have h1 := cv_split s (fun t => decide (degE t.2 ≤ D)) l
  have h2 := foldR_cv s (l.filter fun t => !decide (degE t.2 ≤ D)) (0, 0) 0 ⟨Int.le_refl _, Int.le_refl _⟩ fun t ht => hl t (List.mem_filter.1 ht).1
  unfold keptP missP
  omega
theorem truncM_val (s : List Int) {a : Mo} {d x : Int} (hl : ∀ t ∈ a.1, EV t.2) (hx : a.2.1 ≤ x ∧ x ≤ a.2.2) : Ent (truncM a d).2.1 (truncM a d).2.2 ∨ cvS s (truncM a d).1 + (truncM a d).2.1 ≤ cvS s a.1 + x ∧ cvS s a.1 + x ≤ cvS s (truncM a d).1 + (truncM a d).2.2 := by
  by_cases h : Ent (truncM a d).2.1 (truncM a d).2.2
  · exact .inl h
  · refine .inr ?_
    unfold truncM at *
    obtain ⟨e1, f1⟩ := normM_ent h
    obtain ⟨g1, g2, g3⟩ := addI2_fin f1
    have h2 := trunc_cv s hl g1
    rw [e1, g3]
    dsimp only
    omega
theorem add_zero {r : Int × Int} (hv : VB2 r) : addI2 (0, 0) r = r := by
  unfold VB2 VI at hv
  unfold addI2 addLo addHi
  dsimp only
  by_cases hE : Ent r.1 r.2
  · rw [if_pos (.inr hE), if_pos (.inr hE)]
    obtain ⟨h1, h2⟩ := hE
    exact Prod.ext h1.symm h2.symm
  · rw [if_neg (by rintro (q | q); exact absurd q (by decide); exact hE q), if_neg (by rintro (q | q); exact absurd q (by decide); exact hE q)]
    obtain ⟨n1, n2, _⟩ := hv.resolve_left hE
    unfold mkLo mkHi
    rw [Int.zero_add, Int.zero_add, if_pos ⟨n1, n2⟩, if_pos ⟨n1, n2⟩]
theorem normM_self {l : List Tm} {r : Int × Int} (h : Ent r.1 r.2 → l = []) : normM l r = (l, r) := by
  unfold normM
  split
  · rename_i q
    simp only [entR, Bool.and_eq_true, beq_iff_eq] at q
    rw [h q]
    exact Prod.ext rfl (Prod.ext q.1.symm q.2.symm)
  · rfl
theorem truncM_fix {a : Mo} {d : Int} (hl : VP a.1) (hd : ∀ t ∈ a.1, degE t.2 ≤ d) (hv : VB2 a.2) (hn : Ent a.2.1 a.2.2 → a.1 = []) : truncM a d = a := by
  have e : truncP a.1 d (0, 0) = (a.1, (0, 0)) := by
    have := trunc_is (l := a.1) (D := d) (m := (0, 0)) hl.2.2 (by rw [kept_all hd]; exact hl.2.1) (by rw [miss_all _ hd]; unfold Num; decide) (by rw [miss_all _ hd]; unfold Num; decide)
    rw [kept_all hd, miss_all _ hd] at this
    exact this
  unfold truncM
  rw [e]
  dsimp only
  rw [add_zero hv, normM_self hn]
theorem vp_filter {l : List Tm} (h : VP l) (f : Tm → Bool) : VP (l.filter f) := by
  have p := vp_parts h
  refine ⟨all_of_rise (rise_filter p.1 f) fun t ht => p.2 t (List.mem_filter.1 ht).1, Nat.le_trans (List.length_filter_le _ _) h.2.1, ?_⟩
  rw [List.any_eq_false]
  intro t ht
  have := List.any_eq_false.1 h.2.2 t (List.mem_filter.1 ht).1
  exact this
theorem trunc_vp {l : List Tm} {D : Int} {m : Int × Int} (h : VP l) : VP (truncP l D m).1 := by
  unfold truncP
  split
  · exact vp_nil
  · split
    · exact vp_nil
    · exact vp_filter h _
theorem trunc_deg {l : List Tm} {D : Int} {m : Int × Int} : ∀ t ∈ (truncP l D m).1, degE t.2 ≤ D := by
  unfold truncP
  split
  · simp
  · split
    · simp
    · intro t ht
      simpa using (List.mem_filter.1 ht).2
theorem normM_all {Q : Tm → Prop} {l : List Tm} {p : Int × Int} (h : ∀ t ∈ l, Q t) : ∀ t ∈ (normM l p).1, Q t := by
  unfold normM
  split
  · simp
  · exact h
theorem normM_vp {l : List Tm} {p : Int × Int} (h : VP l) : VP (normM l p).1 := by
  unfold normM
  split
  · exact vp_nil
  · exact h
theorem normM_emp {l : List Tm} {p : Int × Int} (h : Ent (normM l p).2.1 (normM l p).2.2) : (normM l p).1 = [] := by
  unfold normM at *
  split
  · rfl
  · rename_i q
    rw [if_neg q] at h
    exact absurd (by simp [entR, show p.1 = _ from h.1, show p.2 = _ from h.2]) q
theorem normM_vbY {l : List Tm} {p : Int × Int} (h : VB2 p) : VB2 (normM l p).2 := by
  unfold normM
  split
  · exact .inl ⟨rfl, rfl⟩
  · exact h
theorem degP_le {l : List Tm} {d : Int} (h : ∀ t ∈ l, degE t.2 ≤ d) (hd : -1 ≤ d) : degP l ≤ d := by
  have : ∀ (l : List Tm) (a : Int), a ≤ d → (∀ t ∈ l, degE t.2 ≤ d) → l.foldl (fun d t => max d (degE t.2)) a ≤ d := by
    intro l
    induction l with
    | nil => exact fun a h _ => h
    | cons t l ih => exact fun a ha hl => ih _ (Int.max_le.2 ⟨ha, hl t (by simp)⟩) fun u hu => hl u (by simp [hu])
  exact this l (-1) hd h
/-- A truncated model is a model. -/
theorem truncM_good {a : Mo} {d : Int} (hl : VP a.1) (ht : ∀ t ∈ a.1, TV t) (hv : VB2 a.2) : VP (truncM a d).1 ∧ (∀ t ∈ (truncM a d).1, TV t) ∧ VB2 (truncM a d).2 ∧ (∀ t ∈ (truncM a d).1, degE t.2 ≤ d) ∧ (Ent (truncM a d).2.1 (truncM a d).2.2 → (truncM a d).1 = []) := by
  unfold truncM
  exact ⟨normM_vp (trunc_vp hl), normM_tv (truncP_tvY ht), normM_vbY (addI2_vb (trunc_vb (Int.le_refl _)) hv), normM_all trunc_deg, normM_emp⟩
theorem ev_six {l : List Tm} (h : VP l) (ht : ∀ t ∈ l, TV t) : ∀ t ∈ l, TV t ∧ Num t.1 ∧ ∀ x ∈ t.2, x ≤ 6 := fun t m => by
  refine ⟨ht t m, vp_num h t m, ?_⟩
  have hd := ((vp_parts h).2 t m).2
  have he := (ht t m).1
  obtain ⟨a, b, c, d, f, g, e⟩ := six_of he
  rw [e] at hd he ⊢
  have hb := he.2
  simp only [List.mem_cons, List.not_mem_nil, or_false, forall_eq_or_imp, forall_eq] at hb
  simp only [degE, List.sum_cons, List.sum_nil] at hd
  intro x hx
  simp only [List.mem_cons, List.not_mem_nil, or_false] at hx
  omega
end Go.Proofs.YtbfhmbadgbackaaGreat
