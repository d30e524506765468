/-
  Tapes and expressions: where expressions lie, what emitting them again does, what Optimize makes.
  The tape's reference: Made.
-/
import Derived.Test.YtecmgiihacigaaaU8
import Derived.Laws.Bits128
import Derived.Deep.CutRange
namespace Go.Proofs.Ytecmgiihacigaaa
set_option linter.unusedVariables false
set_option linter.unusedSimpArgs false
set_option maxRecDepth 100000
/-- Where an expression lies in a list of instructions. -/
def Rep : Ex → List Is → Nat → Prop
  | .e0 x, T, k => T[k]? = some ⟨x.op, x.n, 0, x.lo, x.hi⟩
  | .e1 x a, T, k => ∃ i, Rep a T i ∧ T[k]? = some ⟨x.op, i, 0, x.lo, x.hi⟩
  | .e2 x a b, T, k => ∃ i j, Rep a T i ∧ Rep b T j ∧ T[k]? = some ⟨x.op, i, j, x.lo, x.hi⟩
/-- Expressions of valid nodes. -/
def EV (N : Int) : Ex → Prop
  | .e0 x => arI x.op = 0 ∧ vnB N x = true
  | .e1 x a => (arI x.op = 1 ∧ vnB N x = true) ∧ EV N a
  | .e2 x a b => (arI x.op = 2 ∧ vnB N x = true) ∧ EV N a ∧ EV N b
theorem EV.ar {N : Int} : ∀ {t : Ex}, EV N t → Ar t
  | .e0 _, h => h.1
  | .e1 _ _, h => ⟨h.1.1, h.2.ar⟩
  | .e2 _ _ _, h => ⟨h.1.1, h.2.1.ar, h.2.2.ar⟩
theorem emitI_pre (T : List Is) (x : Is) : T <+: emitI T x := by
  unfold emitI
  split
  · exact List.prefix_refl _
  · exact List.prefix_append _ _
theorem pre_at {T T' : List Is} (h : T <+: T') {k : Nat} {x : Is} (hx : T[k]? = some x) : T'[k]? = some x := by
  obtain ⟨S, rfl⟩ := h
  rw [List.getElem?_append_left (List.getElem?_eq_some_iff.1 hx).1]
  exact hx
theorem idxI_at {T : List Is} {x : Is} (h : x ∈ T) : T[idxI T x]? = some x := by
  have hl := idxI_mem.2 h
  rw [List.getElem?_eq_getElem hl]
  have := List.findIdx_getElem (xs := T) (p := fun y => decide (y = x)) (w := hl)
  simp only [decide_eq_true_eq] at this
  exact congrArg some this
theorem emitI_mem (T : List Is) (x : Is) : x ∈ emitI T x := by
  unfold emitI
  split
  · assumption
  · simp
theorem emitI_at (T : List Is) (x : Is) : (emitI T x)[idxI (emitI T x) x]? = some x := idxI_at (emitI_mem T x)
theorem nodup_at {T : List Is} (h : T.Nodup) {i j : Nat} {x : Is} (hi : T[i]? = some x) (hj : T[j]? = some x) : i = j := by
  obtain ⟨h1, h2⟩ := List.getElem?_eq_some_iff.1 hi
  obtain ⟨h3, h4⟩ := List.getElem?_eq_some_iff.1 hj
  exact (List.getElem_inj (h₀ := h1) (h₁ := h3) h).1 (h2.trans h4.symm)
theorem idxI_is {T : List Is} (h : T.Nodup) {k : Nat} {x : Is} (hx : T[k]? = some x) : idxI T x = k := nodup_at h (idxI_at (List.mem_of_getElem? hx)) hx
theorem emitI_nodup {T : List Is} (h : T.Nodup) (x : Is) : (emitI T x).Nodup := by
  unfold emitI
  split
  · exact h
  · rename_i hx
    rw [List.nodup_append]
    exact ⟨h, by simp, fun a ha b hb => by simp at hb; subst hb; rintro rfl; exact hx ha⟩
theorem emitT_pre : ∀ (t : Ex) (T : List Is), T <+: (emitT t T).1
  | .e0 x, T => emitI_pre _ _
  | .e1 x a, T => (emitT_pre a T).trans (emitI_pre _ _)
  | .e2 x a b, T => ((emitT_pre a T).trans (emitT_pre b _)).trans (emitI_pre _ _)
theorem emitT_nodup : ∀ (t : Ex) {T : List Is}, T.Nodup → (emitT t T).1.Nodup
  | .e0 x, T, h => emitI_nodup h _
  | .e1 x a, T, h => emitI_nodup (emitT_nodup a h) _
  | .e2 x a b, T, h => emitI_nodup (emitT_nodup b (emitT_nodup a h)) _
theorem rep_pre : ∀ {t : Ex} {T T' : List Is} {k : Nat}, T <+: T' → Rep t T k → Rep t T' k
  | .e0 x, T, T', k, h, hr => pre_at h hr
  | .e1 x a, T, T', k, h, ⟨i, h1, h2⟩ => ⟨i, rep_pre h h1, pre_at h h2⟩
  | .e2 x a b, T, T', k, h, ⟨i, j, h1, h2, h3⟩ => ⟨i, j, rep_pre h h1, rep_pre h h2, pre_at h h3⟩
theorem emit_rep : ∀ (t : Ex) (T : List Is), Rep t (emitT t T).1 (emitT t T).2
  | .e0 x, T => emitI_at _ _
  | .e1 x a, T => ⟨_, rep_pre (emitI_pre _ _) (emit_rep a T), emitI_at _ _⟩
  | .e2 x a b, T => ⟨_, _, rep_pre ((emitT_pre b _).trans (emitI_pre _ _)) (emit_rep a T), rep_pre (emitI_pre _ _) (emit_rep b _), emitI_at _ _⟩
theorem rep_emit : ∀ {t : Ex} {T : List Is} {k : Nat}, T.Nodup → Rep t T k → emitT t T = (T, k)
  | .e0 x, T, k, h, hr => by
    have hr : T[k]? = some _ := hr
    have e := emitI_in (List.mem_of_getElem? hr)
    unfold emitT
    rw [e, idxI_is h hr]
  | .e1 x a, T, k, h, ⟨i, h1, h2⟩ => by
    have e := emitI_in (List.mem_of_getElem? h2)
    unfold emitT
    rw [rep_emit h h1, e, idxI_is h h2]
  | .e2 x a b, T, k, h, ⟨i, j, h1, h2, h3⟩ => by
    have e := emitI_in (List.mem_of_getElem? h3)
    unfold emitT
    rw [rep_emit h h1, rep_emit h h2, e, idxI_is h h3]
theorem rep_inj {t : Ex} {T : List Is} {k j : Nat} (h : T.Nodup) (hk : Rep t T k) (hj : Rep t T j) : k = j := by
  have := (rep_emit h hk).symm.trans (rep_emit h hj)
  exact (Prod.mk.inj this).2
theorem vn_n {N : Int} {x : Nd} (h : vnB N x = true) (ha : 0 < arI x.op) : x.n = 0 ∧ x.lo = 0 ∧ x.hi = 0 := by
  unfold arI at ha
  unfold vnB at h
  rw [if_neg, if_neg] at h
  · split at h
    · simp only [Bool.and_eq_true, decide_eq_true_eq] at h
      exact ⟨h.1.1, h.1.2, h.2⟩
    · cases h
  · intro e; rw [e] at ha; simp at ha
  · intro e; rw [e] at ha; simp at ha
theorem rep_fun {N : Int} : ∀ {t s : Ex} {T : List Is} {k : Nat}, EV N t → EV N s → Rep t T k → Rep s T k → t = s := by
  have nde : ∀ {x y : Nd} {T : List Is} {k : Nat} {i j i' j' : Int}, T[k]? = some ⟨x.op, i, j, x.lo, x.hi⟩ → T[k]? = some ⟨y.op, i', j', y.lo, y.hi⟩ → x.op = y.op ∧ i = i' ∧ j = j' ∧ x.lo = y.lo ∧ x.hi = y.hi := by
    intro x y T k i j i' j' h1 h2
    rw [h1] at h2
    simpa using h2
  intro t
  induction t with
  | e0 x =>
    intro s T k ht hs h1 h2
    match s, hs, h2 with
    | .e0 y, hs, h2 =>
      have := nde h1 h2
      cases x; cases y
      simp at this ⊢
      simp [this]
    | .e1 y b, hs, ⟨i, _, h2⟩ =>
      have := nde h1 h2
      have e := ht.1
      rw [this.1, hs.1.1] at e
      cases e
    | .e2 y b c, hs, ⟨i, j, _, _, h2⟩ =>
      have := nde h1 h2
      have e := ht.1
      rw [this.1, hs.1.1] at e
      cases e
  | e1 x a iha =>
    intro s T k ht hs h1 h2
    obtain ⟨i, h3, h1⟩ := h1
    match s, hs, h2 with
    | .e0 y, hs, h2 =>
      have := nde h1 h2
      have e := ht.1.1
      rw [this.1, hs.1] at e
      cases e
    | .e1 y b, hs, ⟨i', h4, h2⟩ =>
      have := nde h1 h2
      have e : i = i' := by omega
      subst e
      have hx := vn_n ht.1.2 (by rw [ht.1.1]; decide)
      have hy := vn_n hs.1.2 (by rw [hs.1.1]; decide)
      rw [iha ht.2 hs.2 h3 h4]
      cases x; cases y
      simp at this hx hy ⊢
      simp [this, hx, hy]
    | .e2 y b c, hs, ⟨i, j, _, _, h2⟩ =>
      have := nde h1 h2
      have e := ht.1.1
      rw [this.1, hs.1.1] at e
      cases e
  | e2 x a b iha ihb =>
    intro s T k ht hs h1 h2
    obtain ⟨i, j, h3, h5, h1⟩ := h1
    match s, hs, h2 with
    | .e0 y, hs, h2 =>
      have := nde h1 h2
      have e := ht.1.1
      rw [this.1, hs.1] at e
      cases e
    | .e1 y b, hs, ⟨i', h4, h2⟩ =>
      have := nde h1 h2
      have e := ht.1.1
      rw [this.1, hs.1.1] at e
      cases e
    | .e2 y c d, hs, ⟨i', j', h4, h6, h2⟩ =>
      have := nde h1 h2
      have e : i = i' := by omega
      subst e
      have e : j = j' := by omega
      subst e
      have hx := vn_n ht.1.2 (by rw [ht.1.1]; decide)
      have hy := vn_n hs.1.2 (by rw [hs.1.1]; decide)
      rw [iha ht.2.1 hs.2.1 h3 h4, ihb ht.2.2 hs.2.2 h5 h6]
      cases x; cases y
      simp at this hx hy ⊢
      simp [this, hx, hy]
/-- Repetition: an expression emitted lies in the list, and emitting it again leaves the list. -/
theorem emit_again {t : Ex} {T T' : List Is} {k : Nat} (hd : T'.Nodup) (h : Rep t T k) (hp : T <+: T') : emitT t T' = (T', k) := rep_emit hd (rep_pre hp h)
theorem compT_pre : ∀ (ts : List Ex) (T : List Is), T <+: (compT ts T).1
  | [], T => List.prefix_refl _
  | t :: ts, T => (emitT_pre t T).trans (compT_pre ts _)
theorem compT_nodup : ∀ (ts : List Ex) {T : List Is}, T.Nodup → (compT ts T).1.Nodup
  | [], T, h => h
  | t :: ts, T, h => compT_nodup ts (emitT_nodup t h)
theorem comp_rep : ∀ (ts : List Ex) (T : List Is) (i : Nat) (t : Ex), ts[i]? = some t → ∃ k : Nat, (compT ts T).2[i]? = some (k : Int) ∧ Rep t (compT ts T).1 k
  | [], T, i, t, h => by simp at h
  | s :: ts, T, 0, t, h => by
    simp at h
    subst h
    exact ⟨_, rfl, rep_pre (compT_pre ts _) (emit_rep s T)⟩
  | s :: ts, T, i + 1, t, h => comp_rep ts (emitT s T).1 i t (by simpa using h)
theorem comp_again : ∀ (ts : List Ex) {T : List Is}, T.Nodup → (∀ t ∈ ts, ∃ k, Rep t T k) → (compT ts T).1 = T
  | [], T, h, hr => rfl
  | t :: ts, T, h, hr => by
    obtain ⟨k, hk⟩ := hr t (by simp)
    show (compT ts (emitT t T).1).1 = T
    rw [rep_emit h hk]
    exact comp_again ts h (fun s hs => hr s (by simp [hs]))
theorem comp_outs : ∀ (ts : List Ex) {T : List Is} (out : List Int), T.Nodup → out.length = ts.length → (∀ (i : Nat) (t : Ex) (y : Int), ts[i]? = some t → out[i]? = some y → ∃ k : Nat, y = k ∧ Rep t T k) → compT ts T = (T, out)
  | [], T, [], h, hl, hr => rfl
  | [], T, y :: out, h, hl, hr => by simp at hl
  | t :: ts, T, [], h, hl, hr => by simp at hl
  | t :: ts, T, y :: out, h, hl, hr => by
    obtain ⟨k, rfl, hk⟩ := hr 0 t y rfl rfl
    show ((compT ts (emitT t T).1).1, ((emitT t T).2 : Int) :: (compT ts (emitT t T).1).2) = _
    rw [rep_emit h hk, comp_outs ts out h (by simpa using hl) (fun i s z h1 h2 => hr (i + 1) s z h1 h2)]
/-- Valid lists of instructions. -/
def VL (N : Int) (T : List Is) : Prop := ∀ (k : Nat) (x : Is), T[k]? = some x → vinB k N x = true
theorem ixB_lt {k n m : Int} (h : ixB k n = true) (hm : n ≤ m) : ixB k m = true := by
  unfold ixB at *
  simp only [Bool.and_eq_true, decide_eq_true_eq] at *
  omega
theorem vl_pre {N : Int} {T T' : List Is} (h : VL N T') (hp : T <+: T') : VL N T := fun k x hx => h k x (pre_at hp hx)
theorem vl_emitI {N : Int} {T : List Is} {x : Is} (h : VL N T) (hx : vinB T.length N x = true) : VL N (emitI T x) := by
  unfold emitI
  split
  · exact h
  · intro k y hy
    by_cases hk : k < T.length
    · rw [List.getElem?_append_left hk] at hy
      exact h k y hy
    · rw [List.getElem?_append_right (by omega)] at hy
      have hl := (List.getElem?_eq_some_iff.1 hy).1
      simp at hl
      obtain rfl : k = T.length := by omega
      simp at hy
      subst hy
      exact hx
theorem vn_v0 {N : Int} {x : Nd} (h : vnB N x = true) (ha : arI x.op = 0) (k : Int) : vinB k N ⟨x.op, x.n, 0, x.lo, x.hi⟩ = true := by
  unfold vnB at h
  unfold vinB ixB
  dsimp only
  unfold arI at ha
  by_cases h1 : x.op = 1
  · rw [if_pos h1] at h ⊢
    simpa using h
  rw [if_neg h1] at h ⊢
  by_cases h2 : x.op = 2
  · rw [if_pos h2] at h ⊢
    simp at h ⊢
    exact ⟨h.1.1, h.1.2, h.2.1, h.2.2⟩
  rw [if_neg h2] at h ⊢
  split at h
  · have h3 : x.op = 3 := by
      split at ha
      · cases ha
      · split at ha
        · cases ha
        · omega
    rw [if_pos h3]
    simp at h ⊢
    exact ⟨h.1.1, h.1.2, h.2⟩
  · cases h
theorem ar_one {op : Int} (h : arI op = 1) : op = 4 ∨ op = 5 ∨ op = 6 := by
  unfold arI at h
  split at h
  · assumption
  · split at h <;> cases h
theorem ar_two {op : Int} (h : arI op = 2) : op = 7 ∨ op = 8 ∨ op = 9 ∨ op = 10 := by
  unfold arI at h
  split at h
  · cases h
  · split at h
    · assumption
    · cases h
theorem vn_v1 {N : Int} {x : Nd} (h : vnB N x = true) (ha : arI x.op = 1) {i k : Nat} (hi : i < k) : vinB k N ⟨x.op, i, 0, x.lo, x.hi⟩ = true := by
  have hz := vn_n h (by rw [ha]; decide)
  have h4 := ar_one ha
  unfold vinB ixB
  dsimp only
  rw [if_neg (by omega), if_neg (by omega), if_neg (by omega), if_pos h4, hz.2.1, hz.2.2]
  simp
  omega
theorem vn_v2 {N : Int} {x : Nd} (h : vnB N x = true) (ha : arI x.op = 2) {i j k : Nat} (hi : i < k) (hj : j < k) : vinB k N ⟨x.op, i, j, x.lo, x.hi⟩ = true := by
  have hz := vn_n h (by rw [ha]; decide)
  have h4 := ar_two ha
  unfold vinB ixB
  dsimp only
  rw [if_neg (by omega), if_neg (by omega), if_neg (by omega), if_neg (by omega), if_pos h4, hz.2.1, hz.2.2]
  simp
  omega
theorem rep_lt : ∀ {t : Ex} {T : List Is} {k : Nat}, Rep t T k → k < T.length
  | .e0 _, T, k, h => (List.getElem?_eq_some_iff.1 h).1
  | .e1 _ _, T, k, ⟨_, _, h⟩ => (List.getElem?_eq_some_iff.1 h).1
  | .e2 _ _ _, T, k, ⟨_, _, _, _, h⟩ => (List.getElem?_eq_some_iff.1 h).1
theorem emitT_vl {N : Int} : ∀ {t : Ex} {T : List Is}, EV N t → VL N T → VL N (emitT t T).1
  | .e0 x, T, ht, h => vl_emitI h (vn_v0 ht.2 ht.1 _)
  | .e1 x a, T, ht, h => vl_emitI (emitT_vl ht.2 h) (vn_v1 ht.1.2 ht.1.1 (rep_lt (emit_rep a T)))
  | .e2 x a b, T, ht, h => vl_emitI (emitT_vl ht.2.2 (emitT_vl ht.2.1 h)) (vn_v2 ht.1.2 ht.1.1 (rep_lt (rep_pre (emitT_pre b _) (emit_rep a T))) (rep_lt (emit_rep b _)))
theorem compT_vl {N : Int} : ∀ {ts : List Ex} {T : List Is}, (∀ t ∈ ts, EV N t) → VL N T → VL N (compT ts T).1
  | [], T, ht, h => h
  | t :: ts, T, ht, h => by
    show VL N (compT ts (emitT t T).1).1
    exact compT_vl (fun s hs => ht s (by simp [hs])) (emitT_vl (ht t (by simp)) h)
/-- The expression of an instruction. -/
def trL (L : List Is) : Nat → Int → Ex
  | 0, _ => .e0 ⟨3, 0, 0, 0⟩
  | f + 1, i => match L[i.toNat]? with
    | none => .e0 ⟨3, 0, 0, 0⟩
    | some x => match opsI x with
      | [a] => .e1 (ndI x) (trL L f a)
      | [a, b] => .e2 (ndI x) (trL L f a) (trL L f b)
      | _ => .e0 (ndI x)
theorem trL_at {L : List Is} {f : Nat} {i : Int} {x : Is} (h : L[i.toNat]? = some x) : trL L (f + 1) i = match opsI x with
      | [a] => .e1 (ndI x) (trL L f a)
      | [a, b] => .e2 (ndI x) (trL L f a) (trL L f b)
      | _ => .e0 (ndI x) := by
  show (match L[i.toNat]? with | none => _ | some x => _) = _
  rw [h]
theorem ops_cases {k N : Int} {x : Is} (h : vinB k N x = true) : (opsI x = [] ∧ arI x.op = 0 ∧ vnB N (ndI x) = true ∧ x = ⟨x.op, (ndI x).n, 0, x.lo, x.hi⟩) ∨ (opsI x = [x.a] ∧ arI x.op = 1 ∧ vnB N (ndI x) = true ∧ x = ⟨x.op, x.a, 0, x.lo, x.hi⟩ ∧ 0 ≤ x.a ∧ x.a < k) ∨ (opsI x = [x.a, x.b] ∧ arI x.op = 2 ∧ vnB N (ndI x) = true ∧ 0 ≤ x.a ∧ x.a < k ∧ 0 ≤ x.b ∧ x.b < k) := by
  obtain ⟨op, a, b, lo, hi⟩ := x
  unfold vinB ixB at h
  unfold opsI arI vnB ndI
  dsimp only at *
  by_cases h1 : op = 1
  · subst h1
    simp at h ⊢
    exact ⟨h.2.2, h.1, h.2.1⟩
  rw [if_neg h1] at h
  by_cases h2 : op = 2
  · subst h2
    simp at h ⊢
    simp [h]
  rw [if_neg h2] at h
  by_cases h3 : op = 3
  · subst h3
    simp at h ⊢
    simp [h]
  rw [if_neg h3] at h
  by_cases h4 : op = 4 ∨ op = 5 ∨ op = 6
  · rw [if_pos h4] at h
    simp only [Bool.and_eq_true, decide_eq_true_eq] at h
    refine .inr (.inl ?_)
    rw [if_pos h4, if_pos h4, if_neg h1, if_neg h2, if_pos (by omega), if_neg h2, h.1, h.2.1, h.2.2.1]
    exact ⟨rfl, rfl, by simp, rfl, h.2.2.2.1, h.2.2.2.2⟩
  rw [if_neg h4] at h
  by_cases h5 : op = 7 ∨ op = 8 ∨ op = 9 ∨ op = 10
  · rw [if_pos h5] at h
    simp only [Bool.and_eq_true, decide_eq_true_eq] at h
    refine .inr (.inr ?_)
    rw [if_neg h4, if_neg h4, if_pos h5, if_pos h5, if_neg h1, if_neg h2, if_pos (by omega), if_neg h2, h.1, h.2.1]
    exact ⟨rfl, rfl, by simp, h.2.2.1.1, h.2.2.1.2, h.2.2.2.1, h.2.2.2.2⟩
  rw [if_neg h5] at h
  cases h
theorem tr_all {N : Int} {L : List Is} (h : VL N L) : ∀ f i : Nat, i < f → i < L.length → Rep (trL L f i) L i ∧ EV N (trL L f i) ∧ decL L f i = pre (trL L f i) := by
  intro f
  induction f with
  | zero => intro i h; omega
  | succ f ih =>
    intro i hi hL
    obtain ⟨x, hx⟩ : ∃ x, L[i]? = some x := ⟨_, List.getElem?_eq_getElem hL⟩
    have hx' : L[(i : Int).toNat]? = some x := hx
    rw [trL_at hx', decL_at hx]
    rcases ops_cases (h i x hx) with ⟨ho, ha, hv, he⟩ | ⟨ho, ha, hv, he, h1, h2⟩ | ⟨ho, ha, hv, h1, h2, h3, h4⟩
    · rw [ho]
      refine ⟨?_, ⟨ha, hv⟩, rfl⟩
      show L[i]? = some ⟨x.op, (ndI x).n, 0, x.lo, x.hi⟩
      rw [← he]
      exact hx
    · rw [ho]
      obtain ⟨a, e⟩ : ∃ a : Nat, x.a = a := ⟨x.a.toNat, by omega⟩
      rw [e] at h2 ⊢
      have := ih a (by omega) (by omega)
      refine ⟨⟨a, this.1, ?_⟩, ⟨⟨ha, hv⟩, this.2.1⟩, ?_⟩
      · show L[i]? = some ⟨x.op, a, 0, x.lo, x.hi⟩
        rw [hx, he, e]
      · simp [pre, this.2.2]
    · rw [ho]
      obtain ⟨a, e⟩ : ∃ a : Nat, x.a = a := ⟨x.a.toNat, by omega⟩
      obtain ⟨b, e'⟩ : ∃ b : Nat, x.b = b := ⟨x.b.toNat, by omega⟩
      rw [e] at h2 ⊢
      rw [e'] at h4 ⊢
      have h5 := ih a (by omega) (by omega)
      have h6 := ih b (by omega) (by omega)
      refine ⟨⟨a, b, h5.1, h6.1, ?_⟩, ⟨⟨ha, hv⟩, h5.2.1, h6.2.1⟩, ?_⟩
      · show L[i]? = some ⟨x.op, a, b, x.lo, x.hi⟩
        rw [hx, ← e, ← e']
      · simp [pre, h5.2.2, h6.2.2]
/-- The expression of instruction i of a valid tape, whatever the fuel. -/
theorem tr_fuel {N : Int} {L : List Is} (h : VL N L) {f g i : Nat} (hf : i < f) (hg : i < g) (hL : i < L.length) : trL L f i = trL L g i :=
  rep_fun (tr_all h f i hf hL).2.1 (tr_all h g i hg hL).2.1 (tr_all h f i hf hL).1 (tr_all h g i hg hL).1
theorem tr_pre {N : Int} {L S : List Is} (h : VL N (L ++ S)) {f g i : Nat} (hf : i < f) (hg : i < g) (hL : i < L.length) : trL (L ++ S) f i = trL L g i := by
  have hp : L <+: L ++ S := List.prefix_append _ _
  have h1 := tr_all h f i hf (by rw [List.length_append]; omega)
  have h2 := tr_all (vl_pre h hp) g i hg hL
  exact rep_fun h1.2.1 h2.2.1 h1.1 (rep_pre hp h2.1)
/-- What a compiled list holds of each expression: the expression itself. -/
theorem comp_tr {N : Int} {ts : List Ex} (ht : ∀ t ∈ ts, EV N t) {i : Nat} {t : Ex} (h : ts[i]? = some t) : ∃ k : Nat, (compT ts []).2[i]? = some (k : Int) ∧ k < (compT ts []).1.length ∧ trL (compT ts []).1 (compT ts []).1.length k = t := by
  obtain ⟨k, h1, h2⟩ := comp_rep ts [] i t h
  have hv : VL N (compT ts []).1 := compT_vl ht (fun k x hx => by simp at hx)
  have hk := rep_lt h2
  have h3 := tr_all hv _ k hk hk
  exact ⟨k, h1, hk, rep_fun h3.2.1 (ht t (List.mem_of_getElem? h)) h3.1 h2⟩
/-- The tape that Optimize makes. -/
def optL (L : List Is) (out : List Int) : List Is × List Int := compT (out.map (trL L L.length)) []
theorem opt_fix {N : Int} {ts : List Ex} (ht : ∀ t ∈ ts, EV N t) : optL (compT ts []).1 (compT ts []).2 = compT ts [] := by
  have e : (compT ts []).2.map (trL (compT ts []).1 (compT ts []).1.length) = ts := by
    have hl : (compT ts []).2.length = ts.length := by
      have : ∀ (ts : List Ex) (T : List Is), (compT ts T).2.length = ts.length := by
        intro ts
        induction ts with
        | nil => intro T; rfl
        | cons t ts ih => intro T; show (compT ts (emitT t T).1).2.length + 1 = _; rw [ih]; rfl
      exact this ts []
    apply List.ext_getElem?
    intro i
    rw [List.getElem?_map]
    rcases h : ts[i]? with _ | t
    · rw [List.getElem?_eq_none_iff] at h
      rw [List.getElem?_eq_none_iff.2 (by omega)]
      rfl
    · obtain ⟨k, h1, _, h2⟩ := comp_tr ht h
      rw [h1]
      show some (trL _ _ (k : Int)) = _
      rw [h2]
  unfold optL
  rw [e]
/-- What a list of instructions that came out of expressions of a tape, and a memo, hold. -/
structure KM (L T : List Is) (M : Int → Option Nat) : Prop where
  nd : T.Nodup
  of : ∀ k : Nat, k < T.length → ∃ i : Nat, i < L.length ∧ Rep (trL L L.length i) T k
  memo : ∀ (j : Int) (k : Nat), M j = some k → Rep (trL L L.length j) T k
theorem km_start (L : List Is) : KM L [] (fun _ => none) := ⟨List.nodup_nil, fun k h => by simp at h, fun j k h => by cases h⟩
theorem pigeon : ∀ (n m : Nat) (P : Nat → Nat → Prop), (∀ k, k < m → ∃ i, i < n ∧ P k i) → (∀ k j i, P k i → P j i → k = j) → m ≤ n := by
  intro n
  induction n with
  | zero =>
    intro m P h _
    cases m with
    | zero => exact Nat.le_refl _
    | succ m => obtain ⟨i, hi, _⟩ := h 0 (by omega); omega
  | succ n ih =>
    intro m P h hi
    by_cases hx : ∃ k, k < m ∧ P k n
    · obtain ⟨k, hk, hP⟩ := hx
      have := ih (m - 1) (fun a i => P (if a < k then a else a + 1) i) (fun a ha => by
        obtain ⟨i, h1, h2⟩ := h (if a < k then a else a + 1) (by split <;> omega)
        refine ⟨i, ?_, h2⟩
        rcases Nat.lt_or_ge i n with h3 | h3
        · exact h3
        · obtain rfl : i = n := by omega
          have := hi _ _ _ h2 hP
          split at this <;> omega) (fun a b i h1 h2 => by
        have := hi _ _ _ h1 h2
        split at this <;> split at this <;> omega)
      omega
    · exact Nat.le_trans (ih m P (fun k hk => by
        obtain ⟨i, h1, h2⟩ := h k hk
        refine ⟨i, ?_, h2⟩
        rcases Nat.lt_or_ge i n with h3 | h3
        · exact h3
        · obtain rfl : i = n := by omega
          exact absurd ⟨k, hk, h2⟩ hx) hi) (Nat.le_succ n)
theorem KM.le {L T : List Is} {M : Int → Option Nat} (h : KM L T M) : T.length ≤ L.length :=
  pigeon L.length T.length (fun k i => Rep (trL L L.length i) T k) h.of (fun k j i h1 h2 => rep_inj h.nd h1 h2)
theorem emitI_len' (T : List Is) (x : Is) {k : Nat} (hk : k < (emitI T x).length) : k < T.length ∨ (k = T.length ∧ x ∉ T ∧ (emitI T x) = T ++ [x] ∧ idxI (emitI T x) x = k) := by
  unfold emitI at hk ⊢
  split at hk
  · exact .inl hk
  · rename_i hx
    rw [if_neg hx]
    by_cases h : k < T.length
    · exact .inl h
    · simp at hk
      obtain rfl : k = T.length := by omega
      exact .inr ⟨rfl, hx, rfl, idxI_new hx⟩
/-- The instructions behind an emission are those of it and its parts. -/
theorem of_emit {N : Int} {L : List Is} (hv : VL N L) : ∀ f i : Nat, i < f → i < L.length → ∀ T : List Is, (∀ k : Nat, k < T.length → ∃ i : Nat, i < L.length ∧ Rep (trL L L.length i) T k) → ∀ k : Nat, k < (emitT (trL L f i) T).1.length → ∃ j : Nat, j < L.length ∧ Rep (trL L L.length j) (emitT (trL L f i) T).1 k := by
  intro f
  induction f with
  | zero => intro i h; omega
  | succ f ih =>
    intro i hi hL T hT k hk
    have hself := emit_rep (trL L (f + 1) i) T
    rw [tr_fuel hv hi hL hL] at hself
    obtain ⟨x, hx⟩ : ∃ x, L[i]? = some x := ⟨_, List.getElem?_eq_getElem hL⟩
    have hx' : L[(i : Int).toNat]? = some x := hx
    have key : ∀ (T' : List Is) (y : Is), (emitT (trL L (f + 1) i) T).1 = emitI T' y → (emitT (trL L (f + 1) i) T).2 = idxI (emitI T' y) y → (∀ k : Nat, k < T'.length → ∃ i : Nat, i < L.length ∧ Rep (trL L L.length i) T' k) → ∃ j : Nat, j < L.length ∧ Rep (trL L L.length j) (emitT (trL L (f + 1) i) T).1 k := by
      intro T' y e1 e2 h
      rw [tr_fuel hv hi hL hL] at e1 e2 hk ⊢
      rw [e1] at hk
      rcases emitI_len' T' y hk with h3 | ⟨h3, h4, h5, h6⟩
      · obtain ⟨j, h7, h8⟩ := h k h3
        refine ⟨j, h7, ?_⟩
        rw [e1]
        exact rep_pre (emitI_pre _ _) h8
      · refine ⟨i, hL, ?_⟩
        rw [← h6, ← e2]
        exact hself
    rcases ops_cases (hv i x hx) with ⟨ho, _⟩ | ⟨ho, _, _, _, h1, h2⟩ | ⟨ho, _, _, h1, h2, h3, h4⟩
    · have e : trL L (f + 1) i = .e0 (ndI x) := by rw [trL_at hx', ho]
      exact key T _ (by rw [e]; rfl) (by rw [e]; rfl) hT
    · obtain ⟨a, ea⟩ : ∃ a : Nat, x.a = a := ⟨x.a.toNat, by omega⟩
      have e : trL L (f + 1) i = .e1 (ndI x) (trL L f a) := by rw [trL_at hx', ho, ea]
      exact key (emitT (trL L f a) T).1 _ (by rw [e]; rfl) (by rw [e]; rfl) (ih a (by omega) (by omega) T hT)
    · obtain ⟨a, ea⟩ : ∃ a : Nat, x.a = a := ⟨x.a.toNat, by omega⟩
      obtain ⟨b, eb⟩ : ∃ b : Nat, x.b = b := ⟨x.b.toNat, by omega⟩
      have e : trL L (f + 1) i = .e2 (ndI x) (trL L f a) (trL L f b) := by rw [trL_at hx', ho, ea, eb]
      exact key (emitT (trL L f b) (emitT (trL L f a) T).1).1 _ (by rw [e]; rfl) (by rw [e]; rfl) (ih b (by omega) (by omega) _ (ih a (by omega) (by omega) T hT))
theorem km_emit {N : Int} {L T : List Is} {M : Int → Option Nat} (hv : VL N L) (h : KM L T M) {i : Nat} (hi : i < L.length) : KM L (emitT (trL L L.length i) T).1 M :=
  ⟨emitT_nodup _ h.nd, of_emit hv L.length i hi hi T h.of, fun j k hk => rep_pre (emitT_pre _ _) (h.memo j k hk)⟩
theorem km_put {L T : List Is} {M : Int → Option Nat} (h : KM L T M) {i : Int} {k : Nat} (hr : Rep (trL L L.length i) T k) : KM L T (updM M i k) :=
  ⟨h.nd, h.of, fun j k' hk => by
    unfold updM at hk
    split at hk
    · rename_i e
      subst e
      cases hk
      exact hr
    · exact h.memo j k' hk⟩
/-- How many of the first indices a memo knows. -/
def cntM (M : Int → Option Nat) : Nat → Nat
  | 0 => 0
  | k + 1 => cntM M k + (if (M k).isSome then 1 else 0)
theorem cntM_le (M : Int → Option Nat) : ∀ k, cntM M k ≤ k
  | 0 => Nat.le_refl _
  | k + 1 => by
    have := cntM_le M k
    unfold cntM
    split <;> omega
theorem cntM_upd {M : Int → Option Nat} {i : Nat} (a : Nat) (hn : M i = none) : ∀ k, cntM (updM M i a) k = cntM M k + (if i < k then 1 else 0)
  | 0 => rfl
  | k + 1 => by
    have ih := cntM_upd a hn k
    unfold cntM
    rw [ih]
    by_cases e : k = i
    · subst e
      rw [if_neg (Nat.lt_irrefl _), if_pos (Nat.lt_succ_self _), hn]
      simp [updM]
    · have e2 : (k : Int) ≠ i := by omega
      have e3 : updM M i a k = M k := by simp [updM, e2]
      rw [e3]
      by_cases h : i < k
      · rw [if_pos h, if_pos (show i < k + 1 by omega)]; omega
      · rw [if_neg h, if_neg (show ¬ i < k + 1 by omega), Nat.add_zero, Nat.add_zero]
/-- Lists of expressions of a tape. -/
theorem comp_km {N : Int} {L : List Is} (hv : VL N L) : ∀ (out : List Int) (T : List Is) (M : Int → Option Nat), (∀ y ∈ out, 0 ≤ y ∧ y < L.length) → KM L T M → KM L (compT (out.map (trL L L.length)) T).1 M
  | [], T, M, ho, h => h
  | y :: out, T, M, ho, h => by
    have hy := ho y (by simp)
    obtain ⟨i, rfl⟩ : ∃ i : Nat, y = i := ⟨y.toNat, by omega⟩
    exact comp_km hv out _ M (fun z hz => ho z (by simp [hz])) (km_emit hv h (by omega))
theorem opt_le {N : Int} {L : List Is} {out : List Int} (hv : VL N L) (ho : ∀ y ∈ out, 0 ≤ y ∧ y < L.length) : (optL L out).1.length ≤ L.length := (comp_km hv out [] _ ho (km_start L)).le
theorem opt_ev {N : Int} {L : List Is} {out : List Int} (hv : VL N L) (ho : ∀ y ∈ out, 0 ≤ y ∧ y < L.length) : ∀ t ∈ out.map (trL L L.length), EV N t := by
  intro t ht
  rw [List.mem_map] at ht
  obtain ⟨y, hy, rfl⟩ := ht
  have := ho y hy
  obtain ⟨i, rfl⟩ : ∃ i : Nat, y = i := ⟨y.toNat, by omega⟩
  exact (tr_all hv _ i (by omega) (by omega)).2.1
/-- Instructions that another one uses. -/
def UsedI (T : List Is) (k : Nat) : Prop := ∃ (j : Nat) (x : Is), T[j]? = some x ∧ (k : Int) ∈ opsI x
theorem used_pre {T T' : List Is} (h : T <+: T') {k : Nat} (hu : UsedI T k) : UsedI T' k := by
  obtain ⟨j, x, h1, h2⟩ := hu
  exact ⟨j, x, pre_at h h1, h2⟩
theorem pre_len {T T' : List Is} (h : T <+: T') : T.length ≤ T'.length := h.length_le
theorem emit_used {N : Int} : ∀ {t : Ex}, EV N t → ∀ (T : List Is) (k : Nat), T.length ≤ k → k < (emitT t T).1.length → k = (emitT t T).2 ∨ UsedI (emitT t T).1 k
  | .e0 x, ht, T, k, h1, h2 => by
    rcases emitI_len' T _ h2 with h3 | ⟨_, _, _, h3⟩
    · omega
    · exact .inl h3.symm
  | .e1 x a, ht, T, k, h1, h2 => by
    have h4 := ar_one ht.1.1
    rcases emitI_len' (emitT a T).1 _ h2 with h3 | ⟨_, _, _, h3⟩
    · rcases emit_used ht.2 T k h1 h3 with h5 | h5
      · refine .inr ⟨_, _, emitI_at _ _, ?_⟩
        unfold opsI
        rw [if_pos (by exact h4), ← h5]
        simp
      · exact .inr (used_pre (emitI_pre _ _) h5)
    · exact .inl h3.symm
  | .e2 x a b, ht, T, k, h1, h2 => by
    have h4 := ar_two ht.1.1
    have hops : (opsI ⟨x.op, ((emitT a T).2 : Int), ((emitT b (emitT a T).1).2 : Int), x.lo, x.hi⟩) = [((emitT a T).2 : Int), ((emitT b (emitT a T).1).2 : Int)] := by
      unfold opsI
      rw [if_neg (by dsimp only; omega), if_pos (by exact h4)]
    rcases emitI_len' (emitT b (emitT a T).1).1 _ h2 with h3 | ⟨_, _, _, h3⟩
    · rcases Nat.lt_or_ge k (emitT a T).1.length with h6 | h6
      · rcases emit_used ht.2.1 T k h1 h6 with h5 | h5
        · refine .inr ⟨_, _, emitI_at _ _, ?_⟩
          rw [hops, ← h5]
          simp
        · exact .inr (used_pre ((emitT_pre b _).trans (emitI_pre _ _)) h5)
      · rcases emit_used ht.2.2 (emitT a T).1 k h6 h3 with h5 | h5
        · refine .inr ⟨_, _, emitI_at _ _, ?_⟩
          rw [hops, ← h5]
          simp
        · exact .inr (used_pre (emitI_pre _ _) h5)
    · exact .inl h3.symm
theorem comp_used {N : Int} : ∀ {ts : List Ex}, (∀ t ∈ ts, EV N t) → ∀ (T : List Is) (k : Nat), T.length ≤ k → k < (compT ts T).1.length → (k : Int) ∈ (compT ts T).2 ∨ UsedI (compT ts T).1 k
  | [], ht, T, k, h1, h2 => by
    have h2 : k < T.length := h2
    omega
  | t :: ts, ht, T, k, h1, h2 => by
    show (k : Int) ∈ ((emitT t T).2 : Int) :: (compT ts (emitT t T).1).2 ∨ _
    rcases Nat.lt_or_ge k (emitT t T).1.length with h3 | h3
    · rcases emit_used (ht t (by simp)) T k h1 h3 with h5 | h5
      · exact .inl (by rw [h5]; simp)
      · exact .inr (used_pre (compT_pre ts _) h5)
    · rcases comp_used (fun s hs => ht s (by simp [hs])) (emitT t T).1 k h3 h2 with h5 | h5
      · exact .inl (by simp [h5])
      · exact .inr h5
theorem comp_len : ∀ (ts : List Ex) (T : List Is), (compT ts T).2.length = ts.length
  | [], T => rfl
  | t :: ts, T => congrArg (· + 1) (comp_len ts _)
theorem comp_out {ts : List Ex} {T : List Is} : ∀ y ∈ (compT ts T).2, 0 ≤ y ∧ y < (compT ts T).1.length := by
  intro y hy
  obtain ⟨i, hi⟩ := List.getElem?_of_mem hy
  have hl := (List.getElem?_eq_some_iff.1 hi).1
  rw [comp_len] at hl
  obtain ⟨k, h1, h2⟩ := comp_rep ts T i _ (List.getElem?_eq_getElem hl)
  rw [h1] at hi
  have := rep_lt h2
  simp at hi
  omega
/-- Appended instructions that no output reaches. -/
theorem opt_dead {N : Int} {L S : List Is} {out : List Int} (hv : VL N (L ++ S)) (ho : ∀ y ∈ out, 0 ≤ y ∧ y < L.length) : optL (L ++ S) out = optL L out := by
  unfold optL
  congr 1
  apply List.map_congr_left
  intro y hy
  have := ho y hy
  obtain ⟨i, rfl⟩ : ∃ i : Nat, y = i := ⟨y.toNat, by omega⟩
  exact tr_pre hv (by rw [List.length_append]; omega) (by omega) (by omega)
theorem row_dead {N : Int} {L S : List Is} (hv : VL N (L ++ S)) {y : Int} (hy : 0 ≤ y ∧ y < L.length) : rowD (L ++ S) y = rowD L y := by
  obtain ⟨i, rfl⟩ : ∃ i : Nat, y = i := ⟨y.toNat, by omega⟩
  have h1 := (tr_all hv (L ++ S).length i (by rw [List.length_append]; omega) (by rw [List.length_append]; omega)).2.2
  have h2 := (tr_all (vl_pre hv (List.prefix_append _ _)) L.length i (by omega) (by omega)).2.2
  have h3 : trL (L ++ S) (L ++ S).length i = trL L L.length i := tr_pre hv (by rw [List.length_append]; omega) (by omega) (by omega)
  unfold rowD
  rw [h1, h2, h3]
/-- One step of the expression of an instruction. -/
theorem tr_step {N : Int} {L : List Is} (h : VL N L) {i : Nat} {x : Is} (hx : L[i]? = some x) :
    (opsI x = [] ∧ x = ⟨x.op, (ndI x).n, 0, x.lo, x.hi⟩ ∧ trL L L.length i = .e0 (ndI x)) ∨ (∃ a : Nat, a < i ∧ x = ⟨x.op, a, 0, x.lo, x.hi⟩ ∧ opsI x = [(a : Int)] ∧ trL L L.length i = .e1 (ndI x) (trL L L.length a)) ∨ (∃ a b : Nat, a < i ∧ b < i ∧ x = ⟨x.op, a, b, x.lo, x.hi⟩ ∧ opsI x = [(a : Int), (b : Int)] ∧ trL L L.length i = .e2 (ndI x) (trL L L.length a) (trL L L.length b)) := by
  have hL := (List.getElem?_eq_some_iff.1 hx).1
  obtain ⟨f, hf⟩ : ∃ f, L.length = f + 1 := ⟨L.length - 1, by omega⟩
  have hx' : L[(i : Int).toNat]? = some x := hx
  rcases ops_cases (h i x hx) with ⟨ho, _, _, he⟩ | ⟨ho, _, _, he, h1, h2⟩ | ⟨ho, _, _, h1, h2, h3, h4⟩
  · exact .inl ⟨ho, he, by rw [hf, trL_at hx', ho]⟩
  · obtain ⟨a, ea⟩ : ∃ a : Nat, x.a = a := ⟨x.a.toNat, by omega⟩
    refine .inr (.inl ⟨a, by omega, by rw [← ea]; exact he, by rw [ho, ea], ?_⟩)
    rw [tr_fuel h (f := L.length) (g := f + 1) (by omega) (by omega) hL, trL_at hx', ho, ea]
    show Ex.e1 (ndI x) (trL L f a) = _
    rw [tr_fuel h (f := f) (g := L.length) (by omega) (by omega) (by omega)]
  · obtain ⟨a, ea⟩ : ∃ a : Nat, x.a = a := ⟨x.a.toNat, by omega⟩
    obtain ⟨b, eb⟩ : ∃ b : Nat, x.b = b := ⟨x.b.toNat, by omega⟩
    refine .inr (.inr ⟨a, b, by omega, by omega, by rw [← ea, ← eb], by rw [ho, ea, eb], ?_⟩)
    rw [tr_fuel h (f := L.length) (g := f + 1) (by omega) (by omega) hL, trL_at hx', ho, ea, eb]
    show Ex.e2 (ndI x) (trL L f a) (trL L f b) = _
    rw [tr_fuel h (f := f) (g := L.length) (by omega) (by omega) (by omega), tr_fuel h (f := f) (g := L.length) (by omega) (by omega) (by omega)]
end Go.Proofs.Ytecmgiihacigaaa

namespace Go.Proofs.Ytecmgiihacigaaa
open Go.ChangeShapes Go.WideShapes Go.ChangeAt Go.RowKit Go.Maps
set_option linter.unusedVariables false
set_option linter.unusedSimpArgs false
set_option maxRecDepth 100000
attribute [local irreducible] Calls
theorem and255 (n : Int) : bits .and .i64 n 255 = n % 256 := by
  have h127 : (BitVec.ofInt 64 255).toNat = 2 ^ 8 - 1 := by decide
  have key : (BitVec.ofInt 64 n &&& BitVec.ofInt 64 255).toNat = (n % ((2 ^ 64 : Nat) : Int)).toNat % 2 ^ 8 := by
    rw [BitVec.toNat_and, BitVec.toNat_ofInt, h127, Nat.and_two_pow_sub_one_eq_mod]
  show IntKind.i64.wrap ((BitVec.ofInt 64 n &&& BitVec.ofInt 64 255).toNat : Nat) = n % 256
  rw [key, IntKind.wrap_i64]
  omega
theorem and65535 (n : Int) : bits .and .i64 n 65535 = n % 65536 := by
  have h127 : (BitVec.ofInt 64 65535).toNat = 2 ^ 16 - 1 := by decide
  have key : (BitVec.ofInt 64 n &&& BitVec.ofInt 64 65535).toNat = (n % ((2 ^ 64 : Nat) : Int)).toNat % 2 ^ 16 := by
    rw [BitVec.toNat_and, BitVec.toNat_ofInt, h127, Nat.and_two_pow_sub_one_eq_mod]
  show IntKind.i64.wrap ((BitVec.ofInt 64 n &&& BitVec.ofInt 64 65535).toNat : Nat) = n % 65536
  rw [key, IntKind.wrap_i64]
  omega
/-- What Made works on. -/
structure MdI (w : World) (n0 : Int) (vl vo : Value) (N : Nat) (v r : Value) (L : List Is) (out : List Int) (W : World) : Prop where
  c0 : W.heap[w.heap.size]? = some (.cells #[.int .i64 n0, vl, vo] 25 (0, 0))
  c1 : W.heap[w.heap.size + 1]? = some (.cells #[.int .i64 0, .slice none 0 0, .slice none 0 0] 25 (0, 0))
  c2 : W.heap[w.heap.size + 2]? = some (.cells #[.int .i64 N, v, r] 25 (0, 0))
  row : W.ownsRow (w.heap.size + 3) 62 5 v L.length (cr encI L)
  ints : W.ownsRow (w.heap.size + 3) 3 1 r out.length (cr enc1 out)
  bel : Below w.heap.size w W
  sz : w.heap.size + 3 ≤ W.heap.size
section
variable {w W W' : World} {n0 : Int} {vl vo v r : Value} {N : Nat} {L : List Is} {out : List Int}
theorem MdI.grow (h : MdI w n0 vl vo N v r L out W) (hB : Below W.heap.size W W') : MdI w n0 vl vo N v r L out W' := by
  have hs := h.sz
  exact ⟨(hB.block _ (by omega)).trans h.c0, (hB.block _ (by omega)).trans h.c1, (hB.block _ (by omega)).trans h.c2, own_keptN h.row hB, own_keptN h.ints hB, h.bel.trans (hB.mono h.bel.size), by have := hB.size; omega⟩
theorem MdI.set (h : MdI w n0 vl vo N v r L out W) {X : Nat} {cs : Array Value} {z : Nat × Nat} (hX : W.heap[X]? = some (.cells cs 62 z)) (hw : w.heap.size + 3 ≤ X) (hne : ∀ g, v.ownBlock = some g → g ≠ X) (o : Nat) (y : Value) : MdI w n0 vl vo N v r L out (W.setCell ⟨X, o, none⟩ y) := by
  have hg := grownBy_setN W ⟨X, o, none⟩ y
  have hs := h.sz
  have key : ∀ k, k < w.heap.size + 3 → (W.setCell ⟨X, o, none⟩ y).heap[k]? = W.heap[k]? := fun k hk => hg.block k (by omega) (fun e => by have := Option.some.inj e; dsimp only at this; omega)
  exact ⟨(key _ (by omega)).trans h.c0, (key _ (by omega)).trans h.c1, (key _ (by omega)).trans h.c2, h.row.kept hg (own_ne hne), own_setT h.ints hX (by decide) o y, h.bel.setCell (p := ⟨X, o, none⟩) (by dsimp only; omega) y, Nat.le_trans hs hg.size⟩
/-- The row of instructions appended to, and stored. -/
theorem MdI.push (h : MdI w n0 vl vo N v r L out W) {x : Is} {p' : Option Addr} {c' : Nat} (ho : W'.ownsRow (w.heap.size + 3) 62 5 (.slice p' (L.length + 1) c') (L.length + 1) (cr encI L ++ encI x)) (hg : W.grownBy W' v.ownBlock) : MdI w n0 vl vo N (.slice p' (L.length + 1) c') r (L ++ [x]) out (W'.setCell ⟨w.heap.size + 2, 1, none⟩ (.slice p' (L.length + 1) c')) := by
  have hs := h.sz
  have hne : ∀ k, k < w.heap.size + 3 → some k ≠ v.ownBlock := fun k hk e => by have := (h.row.lt k e.symm).1; omega
  have key : ∀ k, k < w.heap.size + 3 → W'.heap[k]? = W.heap[k]? := fun k hk => hg.block k (by omega) (hne k hk)
  have hset := grownBy_setN W' ⟨w.heap.size + 2, 1, none⟩ (.slice p' (L.length + 1) c')
  have hsz := hg.size
  have key2 : ∀ k, k < w.heap.size + 2 → (W'.setCell ⟨w.heap.size + 2, 1, none⟩ (.slice p' (L.length + 1) c')).heap[k]? = W'.heap[k]? := fun k hk => hset.block k (by omega) (fun e => by have := Option.some.inj e; dsimp only at this; omega)
  have hrow : ∀ {t : TypeId} {sz n : Nat} {u : Value} {xs : List Value}, W'.ownsRow (w.heap.size + 3) t sz u n xs → (W'.setCell ⟨w.heap.size + 2, 1, none⟩ (.slice p' (L.length + 1) c')).ownsRow (w.heap.size + 3) t sz u n xs := fun hr => hr.kept hset (own_ne fun g hg' e => by have := (hr.lt g hg').1; dsimp only at e; omega)
  refine ⟨(key2 _ (by omega)).trans ((key _ (by omega)).trans h.c0), (key2 _ (by omega)).trans ((key _ (by omega)).trans h.c1), cellsT_setN (o := 1) (u := .slice p' (L.length + 1) c') ((key _ (by omega)).trans h.c2), ?_, hrow ?_, ?_, ?_⟩
  · rw [List.length_append, cr_snoc]
    exact hrow ho
  · exact row_app (by decide) h.ints h.row hg
  · exact (h.bel.trans ⟨hg.os, hg.tape, hg.output, hg.size, fun k hk => hg.block k (by have := h.bel.size; omega) (hne k (by omega))⟩).setCell (p := ⟨w.heap.size + 2, 1, none⟩) (by dsimp only; omega) _
  · exact Nat.le_trans hs (Nat.le_trans hsz hset.size)
/-- The row of indices appended to, and stored. -/
theorem MdI.push1 (h : MdI w n0 vl vo N v r L out W) {x : Int} {p' : Option Addr} {c' : Nat} (ho : W'.ownsRow (w.heap.size + 3) 3 1 (.slice p' (out.length + 1) c') (out.length + 1) (cr enc1 out ++ [.int .i64 x])) (hg : W.grownBy W' r.ownBlock) : MdI w n0 vl vo N v (.slice p' (out.length + 1) c') L (out ++ [x]) (W'.setCell ⟨w.heap.size + 2, 2, none⟩ (.slice p' (out.length + 1) c')) := by
  have hs := h.sz
  have hne : ∀ k, k < w.heap.size + 3 → some k ≠ r.ownBlock := fun k hk e => by have := (h.ints.lt k e.symm).1; omega
  have key : ∀ k, k < w.heap.size + 3 → W'.heap[k]? = W.heap[k]? := fun k hk => hg.block k (by omega) (hne k hk)
  have hset := grownBy_setN W' ⟨w.heap.size + 2, 2, none⟩ (.slice p' (out.length + 1) c')
  have hsz := hg.size
  have key2 : ∀ k, k < w.heap.size + 2 → (W'.setCell ⟨w.heap.size + 2, 2, none⟩ (.slice p' (out.length + 1) c')).heap[k]? = W'.heap[k]? := fun k hk => hset.block k (by omega) (fun e => by have := Option.some.inj e; dsimp only at this; omega)
  have hrow : ∀ {t : TypeId} {sz n : Nat} {u : Value} {xs : List Value}, W'.ownsRow (w.heap.size + 3) t sz u n xs → (W'.setCell ⟨w.heap.size + 2, 2, none⟩ (.slice p' (out.length + 1) c')).ownsRow (w.heap.size + 3) t sz u n xs := fun hr => hr.kept hset (own_ne fun g hg' e => by have := (hr.lt g hg').1; dsimp only at e; omega)
  refine ⟨(key2 _ (by omega)).trans ((key _ (by omega)).trans h.c0), (key2 _ (by omega)).trans ((key _ (by omega)).trans h.c1), cellsT_setN (o := 2) (u := .slice p' (out.length + 1) c') ((key _ (by omega)).trans h.c2), hrow ?_, ?_, ?_, ?_⟩
  · exact row_app (by decide) h.row h.ints hg
  · rw [List.length_append, cr_snoc]
    exact hrow ho
  · exact (h.bel.trans ⟨hg.os, hg.tape, hg.output, hg.size, fun k hk => hg.block k (by have := h.bel.size; omega) (hne k (by omega))⟩).setCell (p := ⟨w.heap.size + 2, 2, none⟩) (by dsimp only; omega) _
  · exact Nat.le_trans hs (Nat.le_trans hsz hset.size)
end
end Go.Proofs.Ytecmgiihacigaaa
