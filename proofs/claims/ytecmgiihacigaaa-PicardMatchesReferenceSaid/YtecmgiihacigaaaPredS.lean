/-
  Regions that draw their order and hold ONE STORE to a block of their own: predicates by slot, ahead of the store and behind it.
-/
import Derived.Test.YtecmgiihacigaaaPred
namespace Go.Proofs.Ytecmgiihacigaaa
open Go.RowKit
set_option linter.unusedVariables false
set_option linter.unusedSimpArgs false

section
variable {P : Program}

theorem dist_inj' : ∀ (l : List Oper), distB (dsts l) = true → ∀ (i j : Nat) (o o' : Oper) (d : Tmp), l[i]? = some o → l[j]? = some o' → o.dst = some d → o'.dst = some d → i = j
  | [], _, i, _, o, _, _, h, _, _, _ => by simp at h
  | o0 :: rest, hk, i, j, o, o', d, hi, hj, hd, hd' => by
    cases h0 : o0.dst with
    | none =>
      have hds : dsts (o0 :: rest) = dsts rest := by simp [dsts, h0]
      rw [hds] at hk
      match i, j, hi, hj with
      | 0, _, hi, _ =>
        simp at hi
        subst hi
        rw [h0] at hd
        cases hd
      | _ + 1, 0, _, hj =>
        simp at hj
        subst hj
        rw [h0] at hd'
        cases hd'
      | i + 1, j + 1, hi, hj =>
        simp at hi hj
        exact congrArg (· + 1) (dist_inj' rest hk i j o o' d hi hj hd hd')
    | some d0 =>
      have hds : dsts (o0 :: rest) = d0 :: dsts rest := by simp [dsts, h0]
      rw [hds] at hk
      simp only [distB, Bool.and_eq_true] at hk
      obtain ⟨h1, hr⟩ := hk
      have no : ∀ (k : Nat) (x : Oper), rest[k]? = some x → o0.dst = some d → x.dst = some d → False := fun k x hx hz hxd => by
        rw [h0] at hz
        have e := Option.some.inj hz
        subst e
        have : d0 ∉ dsts rest := by simpa using h1
        exact this (List.mem_filterMap.2 ⟨x, List.mem_of_getElem? hx, hxd⟩)
      match i, j, hi, hj with
      | 0, 0, _, _ => rfl
      | 0, j + 1, hi, hj =>
        simp at hi hj
        subst hi
        exact (no j o' hj hd hd').elim
      | i + 1, 0, hi, hj =>
        simp at hi hj
        subst hj
        exact (no i o hi hd' hd).elim
      | i + 1, j + 1, hi, hj =>
        simp at hi hj
        exact congrArg (· + 1) (dist_inj' rest hr i j o o' d hi hj hd hd')

/-- What the store waits for. -/
def earlyB (os : Oper) (i : Nat) : Bool := os.after.any fun e => Region.binds .any e && Nat.beq e.on i
def allBut : Nat → Nat → List Oper → Bool
  | _, _, [] => true
  | s, i, o :: r => (if Nat.beq i s then o.dst.isNone && o.guard.isNone else o.dst.isSome) && allBut s (i + 1) r
theorem allBut_at : ∀ (l : List Oper) (s k : Nat), allBut s k l = true → ∀ (i : Nat) (o : Oper), l[i]? = some o → (k + i = s → o.dst = none ∧ o.guard = none) ∧ (k + i ≠ s → ∃ d, o.dst = some d)
  | [], _, _, _, i, o, h => by simp at h
  | o0 :: rest, s, k, hk, i, o, hi => by
    simp only [allBut, Bool.and_eq_true] at hk
    match i, hi with
    | 0, hi =>
      simp at hi
      subst hi
      refine ⟨fun e => ?_, fun e => ?_⟩
      · rw [if_pos (by rw [show k = s by omega]; exact Nat.beq_refl s)] at hk
        simpa using hk.1
      · rw [if_neg (fun h => e (by have := Nat.eq_of_beq_eq_true h; omega))] at hk
        exact Option.isSome_iff_exists.1 hk.1
    | i + 1, hi =>
      have := allBut_at rest s (k + 1) hk.2 i o (by simpa using hi)
      rw [show k + 1 + i = k + (i + 1) by omega] at this
      exact this
def predSB (l : List Oper) (s N : Nat) : Bool := distB (dsts l) && allBut s 0 l && waitB l.toArray (dsts l) l && leadB 0 l && noSel l && sizeB l N

structure SInv (Φ : Bool → Tmp → Value → World → Prop) (s : Nat) (os : Oper) (w0 : World) (a0 : Act) (l : List Oper) (L : Array Bool) (a : Act) (w : World) : Prop where
  bel : Below w0.heap.size w0 w
  dfr : a.defers = a0.defers
  siz : a.tmps.size = a0.tmps.size
  lsz : L.size = l.length
  old : ∀ t, t ∉ dsts l → a.tmps[t]? = a0.tmps[t]?
  val : ∀ (i : Nat) (o : Oper) (d : Tmp), l[i]? = some o → o.dst = some d → L.getD i false = true → ∃ v, a.tmps[d]? = some v ∧ Φ (L.getD s false) d v w
  wai : L.getD s false = true → ∀ i, earlyB os i = true → L.getD i false = true

/-- What the store must do. -/
def OblS (P : Program) (ops : Array Oper) (ds : List Tmp) (a0 : Act) (w0 : World) (Φ : Bool → Tmp → Value → World → Prop) (o : Oper) : Prop :=
  ∀ (a : Act) (g : Grown w0), seenAll (Φ false) ds a0 a g.w (o.looksAt #[]) → ∃ w', (execOp a.eval o).run P g.w = .ok .skip w' ∧ Below w0.heap.size w0 w' ∧ ∀ t v, a.tmps[t]? = some v → Φ false t v g.w → Φ true t v w'

theorem pred_st {l : List Oper} {a0 : Act} {w0 : World} {Q : Exit → Act → World → Prop} (Φ : Bool → Tmp → Value → World → Prop) (s : Nat) (os : Oper) (hos : l[s]? = some os) (hB : predSB l s a0.tmps.size = true)
    (hΦ : ∀ b t v w1 w2, Below w1.heap.size w1 w2 → Φ b t v w1 → Φ b t v w2)
    (hO : ∀ i o b, l[i]? = some o → i ≠ s → (b = true → earlyB os i = false) → Obl P l.toArray (dsts l) a0 w0 (Φ b) o)
    (hS : OblS P l.toArray (dsts l) a0 w0 Φ os)
    (k : ∀ (a : Act) (g : Grown w0), a.defers = a0.defers → a.tmps.size = a0.tmps.size → (∀ t, t ∉ dsts l → a.tmps[t]? = a0.tmps[t]?) → (∀ d ∈ dsts l, ∃ v, a.tmps[d]? = some v ∧ Φ true d v g.w) → Q .normal a g.w) :
    ∀ (f : Nat) (L : Array Bool) (a : Act) (w : World), cnt l.length L = f → SInv Φ s os w0 a0 l L a w → wpAny P .any l.toArray Q f L a w := by
  simp only [predSB, Bool.and_eq_true] at hB
  obtain ⟨⟨⟨⟨⟨b1, b2⟩, b3⟩, b4⟩, b5⟩, b6⟩ := hB
  have isz : ∀ d ∈ dsts l, d < a0.tmps.size := fun d hd => by
    have := List.all_eq_true.1 b6 d hd
    simpa using this
  have listedAll : ∀ (L : Array Bool), L.size = l.length → cnt l.length L = 0 → ∀ i, i < l.length → L.getD i false = true := fun L hs h0 i hi => by
    unfold cnt at h0
    have := List.countP_eq_zero.1 h0 i (List.mem_range.2 hi)
    have hs' : i < L.size := by omega
    simp [hs'] at this ⊢
    exact this
  have fin : ∀ (L : Array Bool) (a : Act) (w : World), cnt l.length L = 0 → SInv Φ s os w0 a0 l L a w → Q .normal a w := fun L a w hc I => by
    refine k a ⟨w, I.bel⟩ I.dfr I.siz I.old fun d hd => ?_
    obtain ⟨o, ho, hdo⟩ := List.mem_filterMap.1 hd
    obtain ⟨i, hi⟩ := List.getElem?_of_mem ho
    have := I.val i o d hi hdo (listedAll L I.lsz hc i (List.getElem?_eq_some_iff.1 hi).1)
    rw [listedAll L I.lsz hc s (List.getElem?_eq_some_iff.1 hos).1] at this
    exact this
  intro f
  induction f with
  | zero =>
    intro L a w hc I
    refine ⟨?_, fin L a w hc I⟩
    cases hr : Region.ready .any l.toArray L with
    | nil => rfl
    | cons i r =>
      have hi : i ∈ Region.ready .any l.toArray L := by rw [hr]; exact List.mem_cons_self
      obtain ⟨hun, o, ho, _⟩ := mem_ready.1 hi
      have hin : i < l.length := by
        have := (Array.getElem?_eq_some_iff.1 ho).1
        simpa using this
      have := listedAll L I.lsz hc i hin
      rw [getD_both hun] at this
      cases this
  | succ f ih =>
    intro L a w hc I
    have hex : ∃ i, i < l.length ∧ L.getD i true = false := by
      by_cases h : ∃ i, i < l.length ∧ L.getD i true = false
      · exact h
      · exfalso
        have : cnt l.length L = 0 := by
          unfold cnt
          refine List.countP_eq_zero.2 fun i hi => ?_
          have hin := List.mem_range.1 hi
          cases hh : L.getD i true with
          | true => simp
          | false => exact absurd ⟨i, hin, hh⟩ h
        omega
    obtain ⟨i0, hi0, hu0⟩ := hex
    have hne : Region.ready .any l.toArray L ≠ [] := fun h0 => by
      have all : ∀ i, i < l.length → L.getD i false = true := fun i => by
        induction i using Nat.strongRecOn with
        | _ i ihh =>
          intro hi
          cases hh : L.getD i false with
          | true => rfl
          | false =>
            exfalso
            have hs : i < L.size := by rw [I.lsz]; exact hi
            have hmem : i ∈ Region.ready .any l.toArray L := mem_ready.2 ⟨getD_in hs hh, l[i], by simp [hi], fun ed hed hb => by
              have := leadB_at l 0 b4 i l[i] (by simp [hi]) ed hed hb
              exact ihh ed.on (by omega) (by omega)⟩
            rw [h0] at hmem
            cases hmem
      have := all i0 hi0
      rw [getD_both hu0] at this
      cases this
    refine ⟨fun h0 => absurd h0 hne, fun i hi => ?_⟩
    obtain ⟨hun, o, ho, hall⟩ := mem_ready.1 hi
    have hol : l[i]? = some o := by simpa using ho
    have hin : i < l.length := (List.getElem?_eq_some_iff.1 hol).1
    have hmem : o ∈ l := List.mem_of_getElem? hol
    have hsL : i < L.size := by rw [I.lsz]; exact hin
    have hcnt : cnt l.length (L.setIfInBounds i true) = f := by
      have := cnt_set (fun k => !L.getD k true) (fun k => !(L.setIfInBounds i true).getD k true) i (by show (!L.getD i true) = true; rw [hun]; rfl) (by simp [Array.getD_eq_getD_getElem?, hsL]) (fun j hj => by
        simp only [Array.getD_eq_getD_getElem?, Array.getElem?_setIfInBounds_ne (Ne.symm hj)]) l.length
      rw [if_pos hin] at this
      unfold cnt at *
      omega
    have hset : ∀ k, (L.setIfInBounds i true).getD k false = if i = k then true else L.getD k false := fun k => by
      by_cases hik : i = k
      · subst hik
        rw [if_pos rfl]
        simp [Array.getD_eq_getD_getElem?, hsL]
      · rw [if_neg hik]
        simp [Array.getD_eq_getD_getElem?, Array.getElem?_setIfInBounds_ne hik]
    have hlook : seenAll (Φ (L.getD s false)) (dsts l) a0 a w (o.looksAt l.toArray) := seenAll_of _ fun t ht => by
      unfold seen
      by_cases hin' : inL t (dsts l) = true
      · rw [if_pos hin']
        have hmt := (inL_iff t _).1 hin'
        have h1 := List.all_eq_true.1 (List.all_eq_true.1 b3 o hmem) t ht
        simp only [Bool.or_eq_true, Bool.not_eq_true'] at h1
        rcases h1 with h1 | h1
        · have := (List.contains_iff_mem).2 hmt
          rw [h1] at this
          cases this
        · obtain ⟨e, he, hb⟩ := Array.any_eq_true'.1 h1
          simp only [Bool.and_eq_true] at hb
          obtain ⟨hb1, hb2⟩ := hb
          have hlis := hall e he hb1
          cases hoj : l.toArray[e.on]? with
          | none => rw [hoj] at hb2; cases hb2
          | some oj =>
            rw [hoj] at hb2
            simp only [beq_iff_eq] at hb2
            exact I.val e.on oj t (by simpa using hoj) hb2 hlis
      · rw [if_neg hin']
        exact I.old t fun h => hin' ((inL_iff t _).2 h)
    by_cases his : i = s
    · subst his
      obtain rfl : o = os := by rw [hol] at hos; exact Option.some.inj hos
      have hoN := (allBut_at l i 0 b2 i o hol).1 (by omega)
      have hLf : L.getD i false = false := getD_both hun
      rw [hLf] at hlook
      have hlk : seenAll (Φ false) (dsts l) a0 a w (o.looksAt #[]) := by
        rw [← looks_none o (by rw [hoN.2]; rfl) (ops := l.toArray)]
        exact hlook
      obtain ⟨w', hr, hbel, hst⟩ := hS a ⟨w, I.bel⟩ hlk
      have hw : Region.wanted o (yielded l.toArray a.tmps) = true := by
        unfold Region.wanted
        rw [hoN.2]
      unfold wpOp
      simp only [ho]
      rw [if_pos hw]
      refine .inl ?_
      unfold Oper.wp
      rw [hr, Oper.upon_skip]
      have hput : a.put o.dst undef = a := by rw [hoN.1]; rfl
      rw [hput]
      refine ih _ _ _ hcnt ⟨hbel, I.dfr, I.siz, by simp [I.lsz], I.old, fun j oj dj hj hdj hLj => ?_, fun _ j hej => ?_⟩
      · have hne : i ≠ j := fun e => by
          subst e
          rw [hol] at hj
          have e := Option.some.inj hj
          subst e
          rw [hoN.1] at hdj
          cases hdj
        rw [hset, if_neg hne] at hLj
        obtain ⟨v, h1, h2⟩ := I.val j oj dj hj hdj hLj
        rw [hLf] at h2
        rw [hset, if_pos rfl]
        exact ⟨v, h1, hst dj v h1 h2⟩
      · rw [hset]
        split
        · rfl
        · obtain ⟨e, he, hb⟩ := Array.any_eq_true'.1 hej
          simp only [Bool.and_eq_true] at hb
          have := hall e he hb.1
          rwa [Nat.eq_of_beq_eq_true hb.2] at this
    · obtain ⟨d, hd⟩ := (allBut_at l s 0 b2 i o hol).2 (by omega)
      have hdm : d ∈ dsts l := List.mem_filterMap.2 ⟨o, hmem, hd⟩
      have hdN : d < a.tmps.size := by rw [I.siz]; exact isz d hdm
      -- behind the operation
      have step : ∀ v w', Below w.heap.size w w' → meets (Φ (L.getD s false)) o.dst v w' → wpAny P .any l.toArray Q f (L.setIfInBounds i true) (a.put o.dst v) w' := fun v w' hb hv => by
        refine ih _ _ _ hcnt ⟨I.bel.trans (hb.mono I.bel.size), by rw [put_def, I.dfr], by rw [put_size, I.siz], by simp [I.lsz], fun t ht => ?_, fun j oj dj hj hdj hLj => ?_, fun hLs j hej => ?_⟩
        · have hne : d ≠ t := fun e => ht (e ▸ hdm)
          rw [hd, put_get_ne _ _ hne]
          exact I.old t ht
        · by_cases hij : i = j
          · subst hij
            rw [hol] at hj
            have e := Option.some.inj hj
            subst e
            rw [hd] at hdj
            have e := Option.some.inj hdj
            subst e
            rw [hd] at hv ⊢
            rw [hset, if_neg his]
            exact ⟨v, put_get_eq _ _ hdN, hv⟩
          · rw [hset, if_neg hij] at hLj
            obtain ⟨u, h1, h2⟩ := I.val j oj dj hj hdj hLj
            have hne : d ≠ dj := fun e => hij (dist_inj' l b1 i j o oj d hol hj hd (by rw [e]; exact hdj))
            rw [hset s, if_neg his]
            exact ⟨u, by rw [hd, put_get_ne _ _ hne]; exact h1, hΦ _ _ _ _ _ hb h2⟩
        · rw [hset, if_neg his] at hLs
          have := I.wai hLs j hej
          rw [hset]
          split
          · rfl
          · exact this
      have hear : L.getD s false = true → earlyB os i = false := fun hLs => by
        cases he : earlyB os i with
        | false => rfl
        | true =>
          have := I.wai hLs i he
          rw [getD_both hun] at this
          cases this
      have hob := hO i o (L.getD s false) hol his hear a ⟨w, I.bel⟩ hlook
      unfold wpOp
      simp only [ho]
      by_cases hw : Region.wanted o (yielded l.toArray a.tmps) = true
      · rw [if_pos hw] at hob ⊢
        refine .inl ?_
        unfold Oper.wp
        generalize hr : (execOp a.eval o).run P w = r at hob
        cases r with
        | ok n w' =>
          cases n with
          | value u =>
            rw [Oper.upon_value]
            exact step u w' hob.1 hob.2
          | enter f args =>
            obtain ⟨rfl, hc⟩ := hob
            rw [Oper.upon_enter]
            refine hc.mono ?_
            rintro e w'' ⟨v, rfl, hb, hv⟩
            exact step v w'' hb hv
          | _ => exact hob.elim
        | _ => exact hob.elim
      · rw [if_neg hw] at hob ⊢
        exact step undef w (Below.refl _ _) hob

def eachS (p : Nat → Oper → Prop) : Nat → List Oper → Prop
  | _, [] => True
  | k, o :: r => p k o ∧ eachS p (k + 1) r
theorem eachS_at {p : Nat → Oper → Prop} : ∀ {l : List Oper} (k : Nat), eachS p k l → ∀ (i : Nat) (o : Oper), l[i]? = some o → p (k + i) o
  | [], _, _, i, o, h => by simp at h
  | x :: r, k, h, i, o, ho => by
    match i, ho with
    | 0, ho =>
      simp at ho
      subst ho
      exact h.1
    | i + 1, ho =>
      have := eachS_at (k + 1) h.2 i o (by simpa using ho)
      rw [show k + 1 + i = k + (i + 1) by omega] at this
      exact this
theorem region_pred_s {id : Nat} {Q : Exit → Act → World → Prop} {a0 : Act} {w : World} {l : List Oper} (Φ : Bool → Tmp → Value → World → Prop) (s : Nat) (os : Oper) (hos : l[s]? = some os) (hm : P.follows .mixedOrders = true) (hB : predSB l s a0.tmps.size = true)
    (hΦ : ∀ b t v w1 w2, Below w1.heap.size w1 w2 → Φ b t v w1 → Φ b t v w2)
    (hO : eachS (fun i o => i ≠ s → ∀ b, (b = true → earlyB os i = false) → Obl P l.toArray (dsts l) a0 w (Φ b) o) 0 l)
    (hS : OblS P l.toArray (dsts l) a0 w Φ os)
    (k : ∀ w', Below w.heap.size w w' → finP (Φ true) w' (fun a => Q .normal a w') (dsts l) a0) :
    (Code.region id l.toArray true).wp P Q a0 w := by
  refine wp_region_any hm ?_
  have k := fun (a : Act) (g : Grown w) h1 h2 h3 h4 => finP_ok (Φ := Φ true) (w := g.w) (K := fun a => Q .normal a g.w) (a := a) (dsts l) a0 (Eq.symm h1) (Eq.symm h2) h4 h3 (k g.w g.h)
  have h0 : cnt l.length (Array.replicate l.toArray.size false) = l.toArray.size := by
    unfold cnt
    simp only [List.size_toArray]
    rw [List.countP_eq_length.2]
    · simp
    · intro i hi
      have := List.mem_range.1 hi
      simp [this]
  refine pred_st Φ s os hos hB hΦ (fun i o b hi his hb => by have := eachS_at 0 hO i o hi; rw [Nat.zero_add] at this; exact this his b hb) hS k _ _ _ _ h0 ⟨⟨rfl, rfl, rfl, Nat.le_refl _, fun _ _ => rfl⟩, rfl, rfl, by simp, fun _ _ => rfl, fun i o d hi hd hL => ?_, fun hL => ?_⟩
  · exfalso
    have : i < l.length := (List.getElem?_eq_some_iff.1 hi).1
    simp [this] at hL
  · exfalso
    have : s < l.length := (List.getElem?_eq_some_iff.1 hos).1
    simp [this] at hL
end
end Go.Proofs.Ytecmgiihacigaaa
