/-
  Drawn regions whose one store comes last of all: it may write to a block that is older than the region.
-/
import Derived.Test.YtecmgiihacigaaaPredS
namespace Go.Proofs.Ytecmgiihacigaaa
open Go.ChangeShapes Go.WideShapes Go.ChangeAt Go.RowKit
set_option linter.unusedVariables false
set_option linter.unusedSimpArgs false
set_option maxRecDepth 100000

section
variable {P : Program}
/-- Each operation but 's' is waited for by another one. -/
def lastB (l : List Oper) (s : Nat) : Bool := (List.range l.length).all fun i => Nat.beq i s || l.any fun o => earlyB o i
structure LInv (Φ : Tmp → Value → World → Prop) (s : Nat) (w0 : World) (a0 : Act) (l : List Oper) (L : Array Bool) (a : Act) (w : World) : Prop where
  bel : Below w0.heap.size w0 w
  dfr : a.defers = a0.defers
  siz : a.tmps.size = a0.tmps.size
  lsz : L.size = l.length
  old : ∀ t, t ∉ dsts l → a.tmps[t]? = a0.tmps[t]?
  val : ∀ (i : Nat) (o : Oper) (d : Tmp), l[i]? = some o → o.dst = some d → L.getD i false = true → ∃ v, a.tmps[d]? = some v ∧ Φ d v w
  sno : L.getD s false = false
  clo : ∀ (j : Nat) (oj : Oper), l[j]? = some oj → L.getD j false = true → ∀ i, earlyB oj i = true → L.getD i false = true
theorem pred_l {l : List Oper} {a0 : Act} {w0 : World} {Q : Exit → Act → World → Prop} (Φ : Tmp → Value → World → Prop) (s : Nat) (os : Oper) (hos : l[s]? = some os) (hB : predSB l s a0.tmps.size = true)
    (hLB : lastB l s = true)
    (hΦ : ∀ t v w1 w2, Below w1.heap.size w1 w2 → Φ t v w1 → Φ t v w2)
    (hO : ∀ i o, l[i]? = some o → i ≠ s → Obl P l.toArray (dsts l) a0 w0 Φ o)
    (k : ∀ (a : Act) (g : Grown w0), a.defers = a0.defers → a.tmps.size = a0.tmps.size → (∀ t, t ∉ dsts l → a.tmps[t]? = a0.tmps[t]?) → (∀ d ∈ dsts l, ∃ v, a.tmps[d]? = some v ∧ Φ d v g.w) → ∃ w', (execOp a.eval os).run P g.w = .ok .skip w' ∧ Q .normal a w') :
    ∀ (f : Nat) (L : Array Bool) (a : Act) (w : World), cnt l.length L = f → LInv Φ s w0 a0 l L a w → wpAny P .any l.toArray Q f L a w := by
  simp only [predSB, Bool.and_eq_true] at hB
  obtain ⟨⟨⟨⟨⟨b1, b2⟩, b3⟩, b4⟩, b5⟩, b6⟩ := hB
  have isz : ∀ d ∈ dsts l, d < a0.tmps.size := fun d hd => by
    have := List.all_eq_true.1 b6 d hd
    simpa using this
  have listedAll : ∀ (L : Array Bool), L.size = l.length → cnt l.length L = 0 → ∀ i, i < l.length → L.getD i false = true := fun L hs h0 i hi => by
    unfold cnt at h0
    have := List.countP_eq_zero.1 h0 i (List.mem_range.2 hi)
    have hs' : i < L.size := by omega
    simp [hs'] at this ⊢
    exact this
  intro f
  induction f with
  | zero =>
    intro L a w hc I
    exfalso
    have h1 := listedAll L I.lsz hc s (List.getElem?_eq_some_iff.1 hos).1
    rw [I.sno] at h1
    cases h1
  | succ f ih =>
    intro L a w hc I
    have hex : ∃ i, i < l.length ∧ L.getD i true = false := by
      by_cases h : ∃ i, i < l.length ∧ L.getD i true = false
      · exact h
      · exfalso
        have : cnt l.length L = 0 := by
          unfold cnt
          refine List.countP_eq_zero.2 fun i hi => ?_
          have hin := List.mem_range.1 hi
          cases hh : L.getD i true with
          | true => simp
          | false => exact absurd ⟨i, hin, hh⟩ h
        omega
    obtain ⟨i0, hi0, hu0⟩ := hex
    have hne : Region.ready .any l.toArray L ≠ [] := fun h0 => by
      have all : ∀ i, i < l.length → L.getD i false = true := fun i => by
        induction i using Nat.strongRecOn with
        | _ i ihh =>
          intro hi
          cases hh : L.getD i false with
          | true => rfl
          | false =>
            exfalso
            have hs : i < L.size := by rw [I.lsz]; exact hi
            have hmem : i ∈ Region.ready .any l.toArray L := mem_ready.2 ⟨getD_in hs hh, l[i], by simp [hi], fun ed hed hb => by
              have := leadB_at l 0 b4 i l[i] (by simp [hi]) ed hed hb
              exact ihh ed.on (by omega) (by omega)⟩
            rw [h0] at hmem
            cases hmem
      have := all i0 hi0
      rw [getD_both hu0] at this
      cases this
    refine ⟨fun h0 => absurd h0 hne, fun i hi => ?_⟩
    obtain ⟨hun, o, ho, hall⟩ := mem_ready.1 hi
    have hol : l[i]? = some o := by simpa using ho
    have hin : i < l.length := (List.getElem?_eq_some_iff.1 hol).1
    have hmem : o ∈ l := List.mem_of_getElem? hol
    have hsL : i < L.size := by rw [I.lsz]; exact hin
    have hcnt : cnt l.length (L.setIfInBounds i true) = f := by
      have := cnt_set (fun k => !L.getD k true) (fun k => !(L.setIfInBounds i true).getD k true) i (by show (!L.getD i true) = true; rw [hun]; rfl) (by simp [Array.getD_eq_getD_getElem?, hsL]) (fun j hj => by
        simp only [Array.getD_eq_getD_getElem?, Array.getElem?_setIfInBounds_ne (Ne.symm hj)]) l.length
      rw [if_pos hin] at this
      unfold cnt at *
      omega
    have hset : ∀ k, (L.setIfInBounds i true).getD k false = if i = k then true else L.getD k false := fun k => by
      by_cases hik : i = k
      · subst hik
        rw [if_pos rfl]
        simp [Array.getD_eq_getD_getElem?, hsL]
      · rw [if_neg hik]
        simp [Array.getD_eq_getD_getElem?, Array.getElem?_setIfInBounds_ne hik]
    have hlook : seenAll (Φ) (dsts l) a0 a w (o.looksAt l.toArray) := seenAll_of _ fun t ht => by
      unfold seen
      by_cases hin' : inL t (dsts l) = true
      · rw [if_pos hin']
        have hmt := (inL_iff t _).1 hin'
        have h1 := List.all_eq_true.1 (List.all_eq_true.1 b3 o hmem) t ht
        simp only [Bool.or_eq_true, Bool.not_eq_true'] at h1
        rcases h1 with h1 | h1
        · have := (List.contains_iff_mem).2 hmt
          rw [h1] at this
          cases this
        · obtain ⟨e, he, hb⟩ := Array.any_eq_true'.1 h1
          simp only [Bool.and_eq_true] at hb
          obtain ⟨hb1, hb2⟩ := hb
          have hlis := hall e he hb1
          cases hoj : l.toArray[e.on]? with
          | none => rw [hoj] at hb2; cases hb2
          | some oj =>
            rw [hoj] at hb2
            simp only [beq_iff_eq] at hb2
            exact I.val e.on oj t (by simpa using hoj) hb2 hlis
      · rw [if_neg hin']
        exact I.old t fun h => hin' ((inL_iff t _).2 h)
    by_cases his : i = s
    · subst his
      obtain rfl : o = os := by rw [hol] at hos; exact Option.some.inj hos
      have hoN := (allBut_at l i 0 b2 i o hol).1 (by omega)
      have hoth : ∀ (m j : Nat), l.length - j = m → j < l.length → j ≠ i → L.getD j false = true := by
        intro m
        induction m using Nat.strongRecOn with
        | _ m ihm =>
          intro j hm hj hne
          have h1 := List.all_eq_true.1 hLB j (List.mem_range.2 hj)
          simp only [Bool.or_eq_true] at h1
          rcases h1 with h1 | h1
          · exact absurd (Nat.eq_of_beq_eq_true h1) hne
          · obtain ⟨ox, hox, he⟩ := List.any_eq_true.1 h1
            obtain ⟨x, hx⟩ := List.getElem?_of_mem hox
            have hxl : x < l.length := (List.getElem?_eq_some_iff.1 hx).1
            obtain ⟨e, hem, hb⟩ := Array.any_eq_true'.1 he
            simp only [Bool.and_eq_true] at hb
            have hlt := leadB_at l 0 b4 x ox hx e hem hb.1
            have hej := Nat.eq_of_beq_eq_true hb.2
            by_cases hxi : x = i
            · subst hxi
              obtain rfl : ox = o := by rw [hol] at hx; exact (Option.some.inj hx).symm
              have := hall e hem hb.1
              rwa [hej] at this
            · exact I.clo x ox hx (ihm (l.length - x) (by omega) x rfl hxl hxi) j he
      have hL' : ∀ j, j < l.length → (L.setIfInBounds i true).getD j false = true := fun j hj => by
        rw [hset]
        by_cases e : i = j
        · rw [if_pos e]
        · rw [if_neg e]
          exact hoth _ j rfl hj (fun q => e q.symm)
      have hf0 : f = 0 := by
        rw [← hcnt]
        unfold cnt
        refine List.countP_eq_zero.2 fun j hj => ?_
        have hin := List.mem_range.1 hj
        have h1 := hL' j hin
        cases hh : (L.setIfInBounds i true).getD j true with
        | true => simp
        | false =>
          rw [getD_both hh] at h1
          cases h1
      obtain ⟨w', hr, hq⟩ := k a ⟨w, I.bel⟩ I.dfr I.siz I.old (fun d hd => by
        obtain ⟨ox, hox, hdo⟩ := List.mem_filterMap.1 hd
        obtain ⟨x, hx⟩ := List.getElem?_of_mem hox
        have hxi : x ≠ i := fun e => by
          subst e
          rw [hol] at hx
          have e := Option.some.inj hx
          subst e
          rw [hoN.1] at hdo
          cases hdo
        exact I.val x ox d hx hdo (hoth _ x rfl (List.getElem?_eq_some_iff.1 hx).1 hxi))
      have hw : Region.wanted o (yielded l.toArray a.tmps) = true := by
        unfold Region.wanted
        rw [hoN.2]
      unfold wpOp
      simp only [ho]
      rw [if_pos hw]
      refine .inl ?_
      unfold Oper.wp
      rw [hr, Oper.upon_skip]
      have hput : a.put o.dst undef = a := by rw [hoN.1]; rfl
      rw [hput]
      subst hf0
      refine ⟨?_, hq⟩
      cases hrd : Region.ready .any l.toArray (L.setIfInBounds i true) with
      | nil => rfl
      | cons x r =>
        have hi : x ∈ Region.ready .any l.toArray (L.setIfInBounds i true) := by rw [hrd]; exact List.mem_cons_self
        obtain ⟨hun, ox, hox, _⟩ := mem_ready.1 hi
        have hin : x < l.length := by
          have := (Array.getElem?_eq_some_iff.1 hox).1
          simpa using this
        have := hL' x hin
        rw [getD_both hun] at this
        cases this
    · obtain ⟨d, hd⟩ := (allBut_at l s 0 b2 i o hol).2 (by omega)
      have hdm : d ∈ dsts l := List.mem_filterMap.2 ⟨o, hmem, hd⟩
      have hdN : d < a.tmps.size := by rw [I.siz]; exact isz d hdm
      -- behind the operation
      have step : ∀ v w', Below w.heap.size w w' → meets (Φ) o.dst v w' → wpAny P .any l.toArray Q f (L.setIfInBounds i true) (a.put o.dst v) w' := fun v w' hb hv => by
        refine ih _ _ _ hcnt ⟨I.bel.trans (hb.mono I.bel.size), by rw [put_def, I.dfr], by rw [put_size, I.siz], by simp [I.lsz], fun t ht => ?_, fun j oj dj hj hdj hLj => ?_, by rw [hset, if_neg his]; exact I.sno, fun j oj hj hLj x hej => ?_⟩
        · have hne : d ≠ t := fun e => ht (e ▸ hdm)
          rw [hd, put_get_ne _ _ hne]
          exact I.old t ht
        · by_cases hij : i = j
          · subst hij
            rw [hol] at hj
            have e := Option.some.inj hj
            subst e
            rw [hd] at hdj
            have e := Option.some.inj hdj
            subst e
            rw [hd] at hv ⊢
            exact ⟨v, put_get_eq _ _ hdN, hv⟩
          · rw [hset, if_neg hij] at hLj
            obtain ⟨u, h1, h2⟩ := I.val j oj dj hj hdj hLj
            have hne : d ≠ dj := fun e => hij (dist_inj' l b1 i j o oj d hol hj hd (by rw [e]; exact hdj))
            exact ⟨u, by rw [hd, put_get_ne _ _ hne]; exact h1, hΦ _ _ _ _ hb h2⟩
        · rw [hset]
          by_cases hij : i = j
          · subst hij
            rw [hol] at hj
            have e := Option.some.inj hj
            subst e
            split
            · rfl
            · obtain ⟨e, he, hb⟩ := Array.any_eq_true'.1 hej
              simp only [Bool.and_eq_true] at hb
              have := hall e he hb.1
              rwa [Nat.eq_of_beq_eq_true hb.2] at this
          · rw [hset, if_neg hij] at hLj
            have := I.clo j oj hj hLj x hej
            split
            · rfl
            · exact this
      have hob := hO i o hol his a ⟨w, I.bel⟩ hlook
      unfold wpOp
      simp only [ho]
      by_cases hw : Region.wanted o (yielded l.toArray a.tmps) = true
      · rw [if_pos hw] at hob ⊢
        refine .inl ?_
        unfold Oper.wp
        generalize hr : (execOp a.eval o).run P w = r at hob
        cases r with
        | ok n w' =>
          cases n with
          | value u =>
            rw [Oper.upon_value]
            exact step u w' hob.1 hob.2
          | enter f args =>
            obtain ⟨rfl, hc⟩ := hob
            rw [Oper.upon_enter]
            refine hc.mono ?_
            rintro e w'' ⟨v, rfl, hb, hv⟩
            exact step v w'' hb hv
          | _ => exact hob.elim
        | _ => exact hob.elim
      · rw [if_neg hw] at hob ⊢
        exact step undef w (Below.refl _ _) hob


/-- A drawn region whose one store comes last of all: it may write to whatever block. -/
theorem region_pred_l {id : Nat} {Q : Exit → Act → World → Prop} {a0 : Act} {w : World} {l : List Oper} (Φ : Tmp → Value → World → Prop) (s : Nat) (os : Oper) (hos : l[s]? = some os) (hm : P.follows .mixedOrders = true) (hB : predSB l s a0.tmps.size = true) (hLB : lastB l s = true)
    (hΦ : ∀ t v w1 w2, Below w1.heap.size w1 w2 → Φ t v w1 → Φ t v w2)
    (hO : eachS (fun i o => i ≠ s → Obl P l.toArray (dsts l) a0 w Φ o) 0 l)
    (k : ∀ w', Below w.heap.size w w' → finP Φ w' (fun a => ∃ w'', (execOp a.eval os).run P w' = .ok .skip w'' ∧ Q .normal a w'') (dsts l) a0) :
    (Code.region id l.toArray true).wp P Q a0 w := by
  refine wp_region_any hm ?_
  have k := fun (a : Act) (g : Grown w) h1 h2 h3 h4 => finP_ok (Φ := Φ) (w := g.w) (K := fun a => ∃ w'', (execOp a.eval os).run P g.w = .ok .skip w'' ∧ Q .normal a w'') (a := a) (dsts l) a0 (Eq.symm h1) (Eq.symm h2) h4 h3 (k g.w g.h)
  have h0 : cnt l.length (Array.replicate l.toArray.size false) = l.toArray.size := by
    unfold cnt
    simp only [List.size_toArray]
    rw [List.countP_eq_length.2]
    · simp
    · intro i hi
      have := List.mem_range.1 hi
      simp [this]
  refine pred_l Φ s os hos hB hLB hΦ (fun i o hi his => by have := eachS_at 0 hO i o hi; rw [Nat.zero_add] at this; exact this his) k _ _ _ _ h0 ⟨⟨rfl, rfl, rfl, Nat.le_refl _, fun _ _ => rfl⟩, rfl, rfl, by simp, fun _ _ => rfl, fun i o d hi hd hL => ?_, ?_, fun j oj hj hL => ?_⟩
  · exfalso
    have : i < l.length := (List.getElem?_eq_some_iff.1 hi).1
    simp [this] at hL
  · have : s < l.length := (List.getElem?_eq_some_iff.1 hos).1
    simp [this]
  · exfalso
    have : j < l.length := (List.getElem?_eq_some_iff.1 hj).1
    simp [this] at hL
end
end Go.Proofs.Ytecmgiihacigaaa
