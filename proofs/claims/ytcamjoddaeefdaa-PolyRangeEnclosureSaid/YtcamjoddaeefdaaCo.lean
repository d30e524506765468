/-
  Collected terms: insertion into a sorted list, sums by key; one sorted list holds them.
-/
import Derived.Test.YtcamjoddaeefdaaTw
import Derived.Test.YtcamjoddaeefdaaKy
namespace Go.Proofs.Ytcamjoddaeefdaa
open Go.ChangeShapes Go.WideShapes Go.ChangeAt Go.RowKit
set_option linter.unusedVariables false
set_option linter.unusedSimpArgs false

theorem cmp_three : ∀ d e : List Int, cmpE d e = -1 ∨ cmpE d e = 0 ∨ cmpE d e = 1
  | [], [] => .inr (.inl rfl)
  | [], _ :: _ => .inl rfl
  | _ :: _, [] => .inr (.inr rfl)
  | a :: l, b :: m => by
    rw [cmpE]
    split
    · exact .inl rfl
    · split
      · exact .inr (.inr rfl)
      · exact cmp_three l m
theorem cmp_flip : ∀ d e : List Int, cmpE e d = -cmpE d e
  | [], [] => rfl
  | [], _ :: _ => rfl
  | _ :: _, [] => rfl
  | a :: l, b :: m => by
    rw [cmpE, cmpE]
    by_cases h1 : a < b
    · rw [if_neg (by omega), if_pos h1, if_pos h1]
      rfl
    · by_cases h2 : b < a
      · rw [if_pos h2, if_neg h1, if_pos h2]
      · rw [if_neg h2, if_neg h1, if_neg h1, if_neg h2]; exact cmp_flip l m
theorem cmp_trans : ∀ {d e f : List Int}, cmpE d e < 0 → cmpE e f < 0 → cmpE d f < 0
  | [], [], _, h, _ => by simp [cmpE] at h
  | [], _ :: _, [], _, h => by simp [cmpE] at h
  | [], _ :: _, _ :: _, _, _ => by simp [cmpE]
  | _ :: _, [], _, h, _ => by simp [cmpE] at h
  | _ :: _, _ :: _, [], _, h => by simp [cmpE] at h
  | a :: l, b :: m, c :: n, h, k => by
    rw [cmpE] at h k ⊢
    by_cases h1 : a < b
    · by_cases k1 : b < c
      · rw [if_pos (by omega)]; decide
      · rw [if_neg k1] at k
        by_cases k2 : c < b
        · rw [if_pos k2] at k; omega
        · rw [if_pos (by omega)]; decide
    · rw [if_neg h1] at h
      by_cases h2 : b < a
      · rw [if_pos h2] at h; omega
      · rw [if_neg h2] at h
        have : a = b := by omega
        subst this
        by_cases k1 : a < c
        · rw [if_pos k1]; decide
        · rw [if_neg k1] at k ⊢
          by_cases k2 : c < a
          · rw [if_pos k2] at k; omega
          · rw [if_neg k2] at k ⊢
            exact cmp_trans h k
def Rise (l : List Tm) : Prop := l.Pairwise fun a b => cmpE a.2 b.2 < 0
/-- The reference's insert. -/
def insT (x : Tm) : List Tm → List Tm
  | [] => [x]
  | q :: r => if cmpE q.2 x.2 < 0 then q :: insT x r else if cmpE q.2 x.2 = 0 then (x.1 + q.1, x.2) :: r else x :: q :: r
def collT (S : List Tm) : List Tm := S.foldl (fun l x => insT x l) []
theorem collT_snoc (S : List Tm) (x : Tm) : collT (S ++ [x]) = insT x (collT S) := by simp [collT, List.foldl_append]
theorem ins_key {x : Tm} : ∀ {l : List Tm} {e : List Int}, e ∈ (insT x l).map (·.2) ↔ e = x.2 ∨ e ∈ l.map (·.2)
  | [], e => by simp [insT]
  | q :: r, e => by
    unfold insT
    split
    · rw [List.map_cons, List.mem_cons, ins_key, List.map_cons, List.mem_cons]
      constructor <;> (rintro (h | h | h) <;> simp [h])
    · split
      · rename_i h0
        have := cmp_zero h0
        simp [this]
      · simp
theorem ins_rise {x : Tm} : ∀ {l : List Tm}, Rise l → Rise (insT x l)
  | [], _ => List.pairwise_singleton _ _
  | q :: r, h => by
    obtain ⟨h1, h2⟩ := List.pairwise_cons.1 h
    unfold insT
    split
    · rename_i hq
      refine List.pairwise_cons.2 ⟨fun t ht => ?_, ins_rise h2⟩
      have : t.2 ∈ (insT x r).map (·.2) := List.mem_map.2 ⟨t, ht, rfl⟩
      rcases ins_key.1 this with e | e
      · rw [e]; exact hq
      · obtain ⟨s, hs, e⟩ := List.mem_map.1 e
        rw [← e]; exact h1 s hs
    · split
      · rename_i h0
        have e := cmp_zero h0
        refine List.pairwise_cons.2 ⟨fun t ht => ?_, h2⟩
        show cmpE x.2 t.2 < 0
        rw [← e]; exact h1 t ht
      · rename_i hn h0
        have hx : cmpE x.2 q.2 < 0 := by rw [cmp_flip q.2 x.2]; have := cmp_three q.2 x.2; omega
        refine List.pairwise_cons.2 ⟨fun t ht => ?_, h⟩
        rcases List.mem_cons.1 ht with rfl | ht
        · exact hx
        · exact cmp_trans hx (h1 t ht)
theorem coll_rise (S : List Tm) : Rise (collT S) := by
  have : ∀ (S : List Tm) (l : List Tm), Rise l → Rise (S.foldl (fun l x => insT x l) l) := by
    intro S
    induction S with
    | nil => exact fun l h => h
    | cons x S ih => exact fun l h => ih _ (ins_rise h)
  exact this S [] List.Pairwise.nil
/-- What a list holds at a key: the sum. -/
theorem sumK_cons (q : Tm) (r : List Tm) (e : List Int) : sumK (q :: r) e = (if q.2 = e then q.1 else 0) + sumK r e := by
  unfold sumK
  by_cases h : q.2 = e
  · simp [h]
  · simp [h]
theorem ins_sum {x : Tm} : ∀ {l : List Tm} {e : List Int}, sumK (insT x l) e = sumK l e + if x.2 = e then x.1 else 0
  | [], e => by unfold insT; rw [sumK_cons]; simp [sumK]
  | q :: r, e => by
    unfold insT
    split
    · rw [sumK_cons, sumK_cons, ins_sum]; omega
    · split
      · rename_i h0
        have := cmp_zero h0
        rw [sumK_cons, sumK_cons]
        by_cases h : x.2 = e
        · rw [if_pos h, if_pos h, if_pos (this.trans h)]; omega
        · rw [if_neg h, if_neg h, if_neg (fun z => h (this ▸ z))]; omega
      · rw [sumK_cons]
        omega
theorem coll_sum (S : List Tm) (e : List Int) : sumK (collT S) e = sumK S e := by
  have : ∀ (S l : List Tm), sumK (S.foldl (fun l x => insT x l) l) e = sumK l e + sumK S e := by
    intro S
    induction S with
    | nil => intro l; simp [sumK]
    | cons x S ih =>
      intro l
      rw [List.foldl_cons, ih, ins_sum, sumK_cons]
      omega
  rw [collT, this]
  simp [sumK]
theorem coll_key (S : List Tm) (e : List Int) : e ∈ (collT S).map (·.2) ↔ e ∈ S.map (·.2) := by
  have : ∀ (S l : List Tm), e ∈ (S.foldl (fun l x => insT x l) l).map (·.2) ↔ e ∈ l.map (·.2) ∨ e ∈ S.map (·.2) := by
    intro S
    induction S with
    | nil => intro l; simp
    | cons x S ih =>
      intro l
      rw [List.foldl_cons, ih, ins_key, List.map_cons, List.mem_cons]
      constructor
      · rintro ((h | h) | h)
        · exact .inr (.inl h)
        · exact .inl h
        · exact .inr (.inr h)
      · rintro (h | h | h)
        · exact .inl (.inr h)
        · exact .inl (.inl h)
        · exact .inr h
  rw [collT, this]
  simp
theorem rise_sum : ∀ {l : List Tm}, Rise l → ∀ t ∈ l, sumK l t.2 = t.1
  | [], _, t, h => by simp at h
  | q :: r, h, t, ht => by
    obtain ⟨h1, h2⟩ := List.pairwise_cons.1 h
    rw [sumK_cons]
    rcases List.mem_cons.1 ht with rfl | ht
    · rw [if_pos rfl]
      have : sumK r t.2 = 0 := by
        unfold sumK
        rw [List.filter_eq_nil_iff.2 (fun s hs => by
          have := h1 s hs
          intro e
          have e := beq_iff_eq.1 e
          rw [e, cmp_self] at this
          omega)]
        rfl
      omega
    · have := h1 t ht
      rw [if_neg (fun e => by rw [e, cmp_self] at this; omega), rise_sum h2 t ht]
      omega
/-- Strictly rising lists with the same keys are one. -/
theorem rise_uniq : ∀ {a b : List (List Int)}, a.Pairwise (fun x y => cmpE x y < 0) → b.Pairwise (fun x y => cmpE x y < 0) → (∀ e, e ∈ a ↔ e ∈ b) → a = b
  | [], [], _, _, _ => rfl
  | [], y :: b, _, _, h => by have := (h y).2 (by simp); simp at this
  | x :: a, [], _, _, h => by have := (h x).1 (by simp); simp at this
  | x :: a, y :: b, ha, hb, h => by
    obtain ⟨a1, a2⟩ := List.pairwise_cons.1 ha
    obtain ⟨b1, b2⟩ := List.pairwise_cons.1 hb
    have irr : ∀ z : List Int, ¬ cmpE z z < 0 := fun z hz => by rw [cmp_self] at hz; omega
    have exy : x = y := by
      rcases List.mem_cons.1 ((h x).1 (by simp)) with e | e
      · exact e
      · rcases List.mem_cons.1 ((h y).2 (by simp)) with e' | e'
        · exact e'.symm
        · exact absurd (cmp_trans (a1 y e') (b1 x e)) (irr x)
    subst exy
    refine congrArg _ (rise_uniq a2 b2 fun e => ⟨fun he => ?_, fun he => ?_⟩)
    · rcases List.mem_cons.1 ((h e).1 (by simp [he])) with e1 | e1
      · subst e1; exact absurd (a1 e he) (irr e)
      · exact e1
    · rcases List.mem_cons.1 ((h e).2 (by simp [he])) with e1 | e1
      · subst e1; exact absurd (b1 e he) (irr e)
      · exact e1
/-- THE SORTED KEYS WITH THEIR SUMS ARE THE COLLECTED TERMS. -/
theorem keys_coll {S : List Tm} {ks : List (List Int)} (hS : ∀ t ∈ S, EV t.2) (hk : KeysE S ks) (hr : ks.Pairwise fun x y => cmpE x y < 0) : ks.map (fun e => (sumK S e, e)) = collT S := by
  have h1 : ks = (collT S).map (·.2) := by
    refine rise_uniq hr (List.pairwise_map.2 (coll_rise S)) fun e => ?_
    rw [coll_key]
    constructor
    · intro he
      have := (hk.2.2 e (hk.2.1 e he)).1 he
      rw [List.any_eq_true] at this
      obtain ⟨t, ht, e1⟩ := this
      exact List.mem_map.2 ⟨t, ht, beq_iff_eq.1 e1⟩
    · intro he
      obtain ⟨t, ht, e1⟩ := List.mem_map.1 he
      refine (hk.2.2 e (e1 ▸ hS t ht)).2 ?_
      rw [List.any_eq_true]
      exact ⟨t, ht, beq_iff_eq.2 e1⟩
  rw [h1, List.map_map]
  conv => rhs; rw [← List.map_id (collT S)]
  refine List.map_congr_left fun t ht => ?_
  show (sumK S t.2, t.2) = t
  rw [← coll_sum, rise_sum (coll_rise S) t ht]
end Go.Proofs.Ytcamjoddaeefdaa
