/-
  Regions that draw their order, in which two operations make memory of their own: their blocks are apart.
-/
import Derived.Test.YthejcoidgmaidaaPredK
namespace Go.Proofs.Ythejcoidgmaidaa
open Go.RowKit
set_option linter.unusedVariables false
set_option linter.unusedSimpArgs false

section
variable {P : Program}
/-- Slots of two groups: what one group holds lies apart from what the other holds. -/
def ApartJ (grp : Tmp → Nat) (a : Act) (w : World) : Prop :=
  (∀ s, grp s ≠ 0 → ∀ b, (a.tmps.getD s undef).ownBlock = some b → b < w.heap.size) ∧ ∀ s t, grp s ≠ 0 → grp t ≠ 0 → grp s ≠ grp t → ∀ b, (a.tmps.getD s undef).ownBlock = some b → (a.tmps.getD t undef).ownBlock ≠ some b
theorem putD_eq {a : Act} {d : Tmp} (v : Value) (h : d < a.tmps.size) : (a.put (some d) v).tmps.getD d undef = v := by
  simp [Array.getD_eq_getD_getElem?, put_get_eq a v h]
theorem putD_ne {a : Act} {d t : Tmp} (v : Value) (h : d ≠ t) : (a.put (some d) v).tmps.getD t undef = a.tmps.getD t undef := by
  simp [Array.getD_eq_getD_getElem?, put_get_ne a v h]
theorem ApartJ.other {grp : Tmp → Nat} {d : Tmp} {a : Act} {w w' : World} {v : Value} (J : ApartJ grp a w) (h1 : grp d = 0) (hb : Below w.heap.size w w') : ApartJ grp (a.put (some d) v) w' := by
  have ne : ∀ s, grp s ≠ 0 → d ≠ s := fun s hs e => hs (e ▸ h1)
  refine ⟨fun s hs b h => ?_, fun s t hs ht hst b h => ?_⟩
  · rw [putD_ne v (ne s hs)] at h
    exact Nat.lt_of_lt_of_le (J.1 s hs b h) hb.size
  · rw [putD_ne v (ne s hs)] at h
    rw [putD_ne v (ne t ht)]
    exact J.2 s t hs ht hst b h
/-- What a slot of a group gets: memory of its own, or what a slot of the same group holds. -/
def Given (grp : Tmp → Nat) (d : Tmp) (a : Act) (w : World) (v : Value) (w' : World) : Prop :=
  (∀ b, v.ownBlock = some b → w.heap.size ≤ b ∧ b < w'.heap.size) ∨ ∃ t, grp t = grp d ∧ v = a.tmps.getD t undef
theorem ApartJ.put {grp : Tmp → Nat} {d : Tmp} {a : Act} {w w' : World} {v : Value} (J : ApartJ grp a w) (hd : grp d ≠ 0) (hN : d < a.tmps.size) (hb : Below w.heap.size w w') (hf : Given grp d a w v w') : ApartJ grp (a.put (some d) v) w' := by
  have lt : ∀ b, v.ownBlock = some b → b < w'.heap.size := fun b h => by
    rcases hf with hf | ⟨t, ht, rfl⟩
    · exact (hf b h).2
    · exact Nat.lt_of_lt_of_le (J.1 t (by rw [ht]; exact hd) b h) hb.size
  have ap : ∀ t, grp t ≠ 0 → grp t ≠ grp d → ∀ b, v.ownBlock = some b → (a.tmps.getD t undef).ownBlock ≠ some b := fun t ht hne b h h' => by
    rcases hf with hf | ⟨s, hs, rfl⟩
    · have := (hf b h).1
      have := J.1 t ht b h'
      omega
    · exact J.2 s t (by rw [hs]; exact hd) ht (by rw [hs]; exact fun e => hne e.symm) b h h'
  refine ⟨fun s hs b h => ?_, fun s t hs ht hst b h => ?_⟩
  · by_cases e : d = s
    · subst e
      rw [putD_eq v hN] at h
      exact lt b h
    · rw [putD_ne v e] at h
      exact Nat.lt_of_lt_of_le (J.1 s hs b h) hb.size
  · by_cases e : d = s
    · subst e
      rw [putD_eq v hN] at h
      rw [putD_ne v (fun q => hst (by rw [q]))]
      exact ap t ht (fun q => hst q.symm) b h
    · rw [putD_ne v e] at h
      by_cases f : d = t
      · subst f
        rw [putD_eq v hN]
        exact fun h' => ap s hs hst b h' h
      · rw [putD_ne v f]
        exact J.2 s t hs ht hst b h
def OblF (P : Program) (ops : Array Oper) (ds : List Tmp) (a0 : Act) (w0 : World) (Φ : Tmp → Value → World → Prop) (grp : Tmp → Nat) (o : Oper) : Prop :=
  ∀ (a : Act) (g : Grown w0), seenAll Φ ds a0 a g.w (o.looksAt ops) →
    Region.wanted o (yielded ops a.tmps) = true ∧ uponP P g.w (fun v w' => meets Φ o.dst v w' ∧ ∀ d, o.dst = some d → Given grp d a g.w v w') ((execOp a.eval o).run P g.w)
theorem obf_plain {ops : Array Oper} {ds : List Tmp} {a0 : Act} {w0 : World} {Φ : Tmp → Value → World → Prop} {grp : Tmp → Nat} {o : Oper} (ts : List Tmp) (hg : o.guard = none) (ht : o.looksAt #[] = ts)
    (h : ∀ (a : Act) (g : Grown w0), seenAll Φ ds a0 a g.w ts → uponP P g.w (fun v w' => meets Φ o.dst v w' ∧ ∀ d, o.dst = some d → Given grp d a g.w v w') ((execOp a.eval o).run P g.w)) : OblF P ops ds a0 w0 Φ grp o := fun a g hs => by
  have hw : Region.wanted o (yielded ops a.tmps) = true := by
    unfold Region.wanted
    rw [hg]
  refine ⟨hw, h a g ?_⟩
  rw [looks_none o (by rw [hg]; rfl), ht] at hs
  exact hs
theorem pred_any_j {l : List Oper} {a0 : Act} {w0 : World} {Q : Exit → Act → World → Prop} (Φ : Tmp → Value → World → Prop) (hB : predB l a0.tmps.size = true)
    (hΦ : ∀ t v w1 w2, Below w1.heap.size w1 w2 → Φ t v w1 → Φ t v w2)
    (hO : ∀ o ∈ l, Obl P l.toArray (dsts l) a0 w0 Φ o)
    (grp : Tmp → Nat) (hF : ∀ o ∈ l, (∃ d, o.dst = some d ∧ grp d ≠ 0) → OblF P l.toArray (dsts l) a0 w0 Φ grp o)
    (k : ∀ (a : Act) (g : Grown w0), ApartJ grp a g.w → a.defers = a0.defers → a.tmps.size = a0.tmps.size → (∀ t, t ∉ dsts l → a.tmps[t]? = a0.tmps[t]?) → (∀ d ∈ dsts l, ∃ v, a.tmps[d]? = some v ∧ Φ d v g.w) → Q .normal a g.w) :
    ∀ (f : Nat) (L : Array Bool) (a : Act) (w : World), cnt l.length L = f → PInv Φ w0 a0 l L a w → ApartJ grp a w → wpAny P .any l.toArray Q f L a w := by
  simp only [predB, Bool.and_eq_true] at hB
  obtain ⟨⟨⟨⟨⟨b1, b2⟩, b3⟩, b4⟩, b5⟩, b6⟩ := hB
  have isz : ∀ d ∈ dsts l, d < a0.tmps.size := fun d hd => by
    have := List.all_eq_true.1 b6 d hd
    simpa using this
  have listedAll : ∀ (L : Array Bool), L.size = l.length → cnt l.length L = 0 → ∀ i, i < l.length → L.getD i false = true := fun L hs h0 i hi => by
    unfold cnt at h0
    have := List.countP_eq_zero.1 h0 i (List.mem_range.2 hi)
    have hs' : i < L.size := by omega
    simp [hs'] at this ⊢
    exact this
  have fin : ∀ (L : Array Bool) (a : Act) (w : World), cnt l.length L = 0 → PInv Φ w0 a0 l L a w → ApartJ grp a w → Q .normal a w := fun L a w hc I J => by
    refine k a ⟨w, I.bel⟩ J I.dfr I.siz I.old fun d hd => ?_
    obtain ⟨o, ho, hdo⟩ := List.mem_filterMap.1 hd
    obtain ⟨i, hi⟩ := List.getElem?_of_mem ho
    exact I.val i o d hi hdo (listedAll L I.lsz hc i (List.getElem?_eq_some_iff.1 hi).1)
  intro f
  induction f with
  | zero =>
    intro L a w hc I J
    refine ⟨?_, fin L a w hc I J⟩
    cases hr : Region.ready .any l.toArray L with
    | nil => rfl
    | cons i r =>
      have hi : i ∈ Region.ready .any l.toArray L := by rw [hr]; exact List.mem_cons_self
      obtain ⟨hun, o, ho, _⟩ := mem_ready.1 hi
      have hin : i < l.length := by
        have := (Array.getElem?_eq_some_iff.1 ho).1
        simpa using this
      have := listedAll L I.lsz hc i hin
      rw [getD_both hun] at this
      cases this
  | succ f ih =>
    intro L a w hc I J
    have hex : ∃ i, i < l.length ∧ L.getD i true = false := by
      by_cases h : ∃ i, i < l.length ∧ L.getD i true = false
      · exact h
      · exfalso
        have : cnt l.length L = 0 := by
          unfold cnt
          refine List.countP_eq_zero.2 fun i hi => ?_
          have hin := List.mem_range.1 hi
          cases hh : L.getD i true with
          | true => simp
          | false => exact absurd ⟨i, hin, hh⟩ h
        omega
    obtain ⟨i0, hi0, hu0⟩ := hex
    have hne : Region.ready .any l.toArray L ≠ [] := fun h0 => by
      have all : ∀ i, i < l.length → L.getD i false = true := fun i => by
        induction i using Nat.strongRecOn with
        | _ i ihh =>
          intro hi
          cases hh : L.getD i false with
          | true => rfl
          | false =>
            exfalso
            have hs : i < L.size := by rw [I.lsz]; exact hi
            have hmem : i ∈ Region.ready .any l.toArray L := mem_ready.2 ⟨getD_in hs hh, l[i], by simp [hi], fun ed hed hb => by
              have := leadB_at l 0 b4 i l[i] (by simp [hi]) ed hed hb
              exact ihh ed.on (by omega) (by omega)⟩
            rw [h0] at hmem
            cases hmem
      have := all i0 hi0
      rw [getD_both hu0] at this
      cases this
    refine ⟨fun h0 => absurd h0 hne, fun i hi => ?_⟩
    obtain ⟨hun, o, ho, hall⟩ := mem_ready.1 hi
    have hol : l[i]? = some o := by simpa using ho
    have hin : i < l.length := (List.getElem?_eq_some_iff.1 hol).1
    have hmem : o ∈ l := List.mem_of_getElem? hol
    obtain ⟨d, hd⟩ : ∃ d, o.dst = some d := by
      have := List.all_eq_true.1 b2 o hmem
      exact Option.isSome_iff_exists.1 this
    have hdm : d ∈ dsts l := List.mem_filterMap.2 ⟨o, hmem, hd⟩
    have hdN : d < a.tmps.size := by rw [I.siz]; exact isz d hdm
    have hsL : i < L.size := by rw [I.lsz]; exact hin
    have hcnt : cnt l.length (L.setIfInBounds i true) = f := by
      have := cnt_set (fun k => !L.getD k true) (fun k => !(L.setIfInBounds i true).getD k true) i (by show (!L.getD i true) = true; rw [hun]; rfl) (by simp [Array.getD_eq_getD_getElem?, hsL]) (fun j hj => by
        simp only [Array.getD_eq_getD_getElem?, Array.getElem?_setIfInBounds_ne (Ne.symm hj)]) l.length
      rw [if_pos hin] at this
      unfold cnt at *
      omega
    have hset : ∀ k, (L.setIfInBounds i true).getD k false = if i = k then true else L.getD k false := fun k => by
      by_cases hik : i = k
      · subst hik
        rw [if_pos rfl]
        simp [Array.getD_eq_getD_getElem?, hsL]
      · rw [if_neg hik]
        simp [Array.getD_eq_getD_getElem?, Array.getElem?_setIfInBounds_ne hik]
    -- behind the operation
    have step : ∀ v w', Below w.heap.size w w' → meets Φ o.dst v w' → ApartJ grp (a.put o.dst v) w' → wpAny P .any l.toArray Q f (L.setIfInBounds i true) (a.put o.dst v) w' := fun v w' hb hv hj => by
      refine ih _ _ _ hcnt ⟨I.bel.trans (hb.mono I.bel.size), by rw [put_def, I.dfr], by rw [put_size, I.siz], by simp [I.lsz], fun t ht => ?_, fun j oj dj hj' hdj hLj => ?_⟩ hj
      · have hne : d ≠ t := fun e => ht (e ▸ hdm)
        rw [hd, put_get_ne _ _ hne]
        exact I.old t ht
      · by_cases hij : i = j
        · subst hij
          rw [hol] at hj'
          have e := Option.some.inj hj'
          subst e
          rw [hd] at hdj
          have e := Option.some.inj hdj
          subst e
          rw [hd] at hv ⊢
          exact ⟨v, put_get_eq _ _ hdN, hv⟩
        · rw [hset, if_neg hij] at hLj
          obtain ⟨u, h1, h2⟩ := I.val j oj dj hj' hdj hLj
          have hne : d ≠ dj := fun e => hij (dist_inj l b1 b2 i j o oj d hol hj' hd (by rw [e]; exact hdj))
          exact ⟨u, by rw [hd, put_get_ne _ _ hne]; exact h1, hΦ _ _ _ _ hb h2⟩
    have hlook : seenAll Φ (dsts l) a0 a w (o.looksAt l.toArray) := seenAll_of _ fun t ht => by
      unfold seen
      by_cases hin' : inL t (dsts l) = true
      · rw [if_pos hin']
        have hmt := (inL_iff t _).1 hin'
        have h1 := List.all_eq_true.1 (List.all_eq_true.1 b3 o hmem) t ht
        simp only [Bool.or_eq_true, Bool.not_eq_true'] at h1
        rcases h1 with h1 | h1
        · have := (List.contains_iff_mem).2 hmt
          rw [h1] at this
          cases this
        · obtain ⟨e, he, hb⟩ := Array.any_eq_true'.1 h1
          simp only [Bool.and_eq_true] at hb
          obtain ⟨hb1, hb2⟩ := hb
          have hlis := hall e he hb1
          cases hoj : l.toArray[e.on]? with
          | none => rw [hoj] at hb2; cases hb2
          | some oj =>
            rw [hoj] at hb2
            simp only [beq_iff_eq] at hb2
            exact I.val e.on oj t (by simpa using hoj) hb2 hlis
      · rw [if_neg hin']
        exact I.old t fun h => hin' ((inL_iff t _).2 h)
    by_cases hsd : grp d ≠ 0
    · have hob := hF o hmem ⟨d, hd, hsd⟩ a ⟨w, I.bel⟩ hlook
      obtain ⟨hw, hob⟩ := hob
      unfold wpOp
      simp only [ho]
      rw [if_pos hw]
      refine .inl ?_
      unfold Oper.wp
      generalize hr : (execOp a.eval o).run P w = r at hob
      have fresh : ∀ (v : Value) (w' : World), Below w.heap.size w w' → (∀ d, o.dst = some d → Given grp d a w v w') → ApartJ grp (a.put o.dst v) w' := fun v w' hb hfr => by
        have hfr := hfr d hd
        rw [hd]
        exact J.put hsd hdN hb hfr
      cases r with
      | ok n w' =>
        cases n with
        | value u =>
          rw [Oper.upon_value]
          exact step u w' hob.1 hob.2.1 (fresh u w' hob.1 hob.2.2)
        | enter f args =>
          obtain ⟨rfl, hc⟩ := hob
          rw [Oper.upon_enter]
          refine hc.mono ?_
          rintro e w'' ⟨v, rfl, hb, hv, hfr⟩
          exact step v w'' hb hv (fresh v w'' hb hfr)
        | _ => exact hob.elim
      | _ => exact hob.elim
    · have keep : ∀ (v : Value) (w' : World), Below w.heap.size w w' → ApartJ grp (a.put o.dst v) w' := fun v w' hb => by
        rw [hd]
        exact J.other (Classical.not_not.1 hsd) hb
      have hob := hO o hmem a ⟨w, I.bel⟩ hlook
      unfold wpOp
      simp only [ho]
      by_cases hw : Region.wanted o (yielded l.toArray a.tmps) = true
      · rw [if_pos hw] at hob ⊢
        refine .inl ?_
        unfold Oper.wp
        generalize hr : (execOp a.eval o).run P w = r at hob
        cases r with
        | ok n w' =>
          cases n with
          | value u =>
            rw [Oper.upon_value]
            exact step u w' hob.1 hob.2 (keep u w' hob.1)
          | enter f args =>
            obtain ⟨rfl, hc⟩ := hob
            rw [Oper.upon_enter]
            refine hc.mono ?_
            rintro e w'' ⟨v, rfl, hb, hv⟩
            exact step v w'' hb hv (keep v w'' hb)
          | _ => exact hob.elim
        | _ => exact hob.elim
      · rw [if_neg hw] at hob ⊢
        exact step undef w (Below.refl _ _) hob (keep undef w (Below.refl _ _))
end
theorem region_pred_j {P : Program} {id : Nat} {Q : Exit → Act → World → Prop} {a0 : Act} {w : World} {l : List Oper} (Φ : Tmp → Value → World → Prop) (hm : P.follows .mixedOrders = true) (hB : predB l a0.tmps.size = true)
    (hΦ : ∀ t v w1 w2, Below w1.heap.size w1 w2 → Φ t v w1 → Φ t v w2)
    (hO : eachO (Obl P l.toArray (dsts l) a0 w Φ) l)
    (grp : Tmp → Nat) (hF : ∀ o ∈ l, (∃ d, o.dst = some d ∧ grp d ≠ 0) → OblF P l.toArray (dsts l) a0 w Φ grp o) (hJ : ApartJ grp a0 w)
    (k : ∀ (a : Act) (g : Grown w), ApartJ grp a g.w → a.defers = a0.defers → a.tmps.size = a0.tmps.size → (∀ t, t ∉ dsts l → a.tmps[t]? = a0.tmps[t]?) → (∀ d ∈ dsts l, ∃ v, a.tmps[d]? = some v ∧ Φ d v g.w) → Q .normal a g.w) :
    (Code.region id l.toArray true).wp P Q a0 w := by
  refine wp_region_any hm ?_
  have h0 : cnt l.length (Array.replicate l.toArray.size false) = l.toArray.size := by
    unfold cnt
    simp only [List.size_toArray]
    rw [List.countP_eq_length.2]
    · simp
    · intro i hi
      have := List.mem_range.1 hi
      simp [this]
  refine pred_any_j Φ hB hΦ (eachO_at hO) grp hF k _ _ _ _ h0 ⟨⟨rfl, rfl, rfl, Nat.le_refl _, fun _ _ => rfl⟩, rfl, rfl, by simp, fun _ _ => rfl, fun i o d hi hd hL => ?_⟩ hJ
  exfalso
  have : i < l.length := (List.getElem?_eq_some_iff.1 hi).1
  simp [this] at hL
end Go.Proofs.Ythejcoidgmaidaa
