/-
  Regions that draw their order: the whole region by one walk of its head and its stores in their order.
-/
import Derived.Test.YtdnndmpdlelliaaReg
namespace Go.Proofs.Ytdnndmpdlelliaa
open Go.RowKit

def alDsts (l : List Oper) : List Tmp := l.filterMap fun o => if isAl o then o.dst else none
def finK (obj : Obj) (w0 w' : World) (K : Act → Prop) : List Tmp → List Nat → Act → Prop
  | [], _, a => K a
  | d :: r, bs, a => ∀ b, w0.heap.size ≤ b → b < w'.heap.size → (∀ x ∈ bs, x ≠ b) → w'.heap[b]? = some obj → finK obj w0 w' K r (b :: bs) (a.put (some d) (.pointer (some ⟨b, 0, none⟩)))

theorem act_ext {a b : Act} (h1 : a.defers = b.defers) (h2 : a.tmps.size = b.tmps.size) (h : ∀ t : Nat, a.tmps[t]? = b.tmps[t]?) : a = b := by
  obtain ⟨ta, da⟩ := a
  obtain ⟨tb, db⟩ := b
  simp only at *
  subst h1
  congr 1
  exact Array.ext_getElem? h

theorem fin_ok {obj : Obj} {w0 w' : World} {K : Act → Prop} {a : Act} : ∀ (ds : List Tmp) (bs : List Nat) (e : Act), ds.Nodup → e.defers = a.defers → e.tmps.size = a.tmps.size → (∀ d ∈ ds, d < a.tmps.size) →
    (∀ d ∈ ds, ∃ b, a.tmps[d]? = some (.pointer (some ⟨b, 0, none⟩)) ∧ w0.heap.size ≤ b ∧ b < w'.heap.size ∧ w'.heap[b]? = some obj ∧ ∀ x ∈ bs, x ≠ b) →
    (∀ d ∈ ds, ∀ d' ∈ ds, d ≠ d' → a.tmps[d]? ≠ a.tmps[d']?) → (∀ t, t ∉ ds → a.tmps[t]? = e.tmps[t]?) → finK obj w0 w' K ds bs e → K a
  | [], _, e, _, h1, h2, _, _, _, h5, h => by
    have : a = e := act_ext h1.symm h2.symm fun t => h5 t (by simp)
    rw [this]
    exact h
  | d :: r, bs, e, hn, h1, h2, hz, h3, h4, h5, h => by
    obtain ⟨b, p1, p2, p3, p4, p5⟩ := h3 d List.mem_cons_self
    have hn' := List.nodup_cons.1 hn
    have hd : d < e.tmps.size := by rw [h2]; exact hz d List.mem_cons_self
    refine fin_ok r (b :: bs) (e.put (some d) (.pointer (some ⟨b, 0, none⟩))) hn'.2 (by rw [put_def, h1]) (by rw [put_size, h2]) (fun d' hd' => hz d' (List.mem_cons_of_mem _ hd')) (fun d' hd' => ?_) (fun x hx y hy => h4 x (List.mem_cons_of_mem _ hx) y (List.mem_cons_of_mem _ hy)) (fun t ht => ?_) (h b p2 p3 p5 p4)
    · obtain ⟨b', q1, q2, q3, q4, q5⟩ := h3 d' (List.mem_cons_of_mem _ hd')
      refine ⟨b', q1, q2, q3, q4, fun x hx => ?_⟩
      rcases List.mem_cons.1 hx with rfl | hx
      · have hne : d ≠ d' := fun hh => hn'.1 (hh ▸ hd')
        have := h4 d List.mem_cons_self d' (List.mem_cons_of_mem _ hd') hne
        rw [p1, q1] at this
        intro hh
        exact this (by rw [hh])
      · exact q5 x hx
    · by_cases htd : d = t
      · subst htd
        rw [put_get_eq _ _ hd, p1]
      · rw [put_get_ne _ _ htd]
        exact h5 t (by simp only [List.mem_cons, not_or]; exact ⟨Ne.symm htd, ht⟩)

theorem cnt_set (p q : Nat → Bool) (i : Nat) (hp : p i = true) (hq : q i = false) (h : ∀ j, j ≠ i → q j = p j) : ∀ n, (List.range n).countP q + (if i < n then 1 else 0) = (List.range n).countP p
  | 0 => by simp
  | n + 1 => by
    have ih := cnt_set p q i hp hq h n
    rw [List.range_succ, List.countP_append, List.countP_append]
    simp only [List.countP_cons, List.countP_nil]
    by_cases hin : n = i
    · subst hin
      rw [hp, hq]
      simp at ih ⊢
      omega
    · rw [h n hin]
      by_cases hlt : i < n
      · rw [if_pos hlt] at ih
        rw [if_pos (show i < n + 1 by omega)]
        omega
      · rw [if_neg hlt] at ih
        rw [if_neg (show ¬ i < n + 1 by omega)]
        omega

def cnt (n : Nat) (L : Array Bool) : Nat := (List.range n).countP fun i => !L.getD i true

def headB (l : List Oper) (n : Nat) (T : TypeId) (N : Nat) : Bool :=
  okHead (l.take n) && sizeB (l.take n) N && alB T (l.take n) && Region.noSelect l.toArray && depB .any l.toArray n && backB l.toArray n && decide (n < l.length) && Region.sinkB .any l.toArray n && Region.chainB .any l.toArray n &&
    Region.seqB .any l.toArray (l.length - n) n (Array.replicate n true ++ Array.replicate (l.length - n) false)

section
variable {P : Program} {w0 : World}

theorem head_any {T : TypeId} {obj : Obj} {l : List Oper} {n : Nat} {e : Act} {Q : Exit → Act → World → Prop}
    (hT : ∀ w : World, (Instr.alloc T true (.tuple #[])).run P w = .ok (.pointer (some ⟨w.heap.size, 0, none⟩)) (w.alloc obj))
    (hB : headB l n T e.tmps.size = true)
    (he : ∀ o ∈ l.take n, isAl o = false → ∃ d v, o.dst = some d ∧ e.tmps[d]? = some v ∧ RQ P o e w0 v)
    (hfin : ∀ w', Below w0.heap.size w0 w' → finK obj w0 w' (fun a => wpList P l.toArray Q (l.drop n) a w') (alDsts (l.take n)) [] e) :
    ∀ (f : Nat) (L : Array Bool) (a : Act) (w : World), cnt n L = f → HeadInv .any l.toArray n L → HInv T obj w0 e (l.take n) n L a w → wpAny P .any l.toArray Q (f + (l.length - n)) L a w := by
  simp only [headB, Bool.and_eq_true, decide_eq_true_eq] at hB
  obtain ⟨⟨⟨⟨⟨⟨⟨⟨⟨b1, b2⟩, b3⟩, b4⟩, b5⟩, b6⟩, b7⟩, b8⟩, b9⟩, b10⟩ := hB
  have hlen : (l.take n).length = n := by rw [List.length_take]; omega
  have hl : ∀ k, k < n → l.toArray[k]? = (l.take n)[k]? := fun k hk => by
    rw [List.getElem?_take_of_lt hk]
    simp
  have hsel : ∀ o ∈ l.take n, ∀ cs b, o.op ≠ .select cs b := fun o ho cs b => by
    obtain ⟨k, hk⟩ := List.getElem?_of_mem ho
    have hkn : k < n := by
      have := (List.getElem?_eq_some_iff.1 hk).1
      omega
    exact Region.noSelect_spec b4 k o cs b (by rw [hl k hkn]; exact hk)
  have listedAll : ∀ (L : Array Bool), L.size = l.toArray.size → cnt n L = 0 → ∀ i, i < n → L.getD i true = true := fun L _ h0 i hi => by
    unfold cnt at h0
    have := List.countP_eq_zero.1 h0 i (List.mem_range.2 hi)
    simpa using this
  intro f
  induction f with
  | zero =>
    intro L a w hc inv I
    have hall := listedAll L inv.size hc
    have hLe : L = Array.replicate n true ++ Array.replicate (l.length - n) false := by
      refine Array.ext (by rw [inv.size]; simp; omega) fun i hi hi' => ?_
      by_cases hin : i < n
      · have := hall i hin
        simp [hi] at this
        rw [this, Array.getElem_append_left (by simpa using hin)]
        simp
      · have h2 : i < l.toArray.size := by rw [← inv.size]; exact hi
        have := inv.tail i (by omega) h2
        simp [hi] at this
        rw [this, Array.getElem_append_right (by simp; omega)]
        simp
    rw [Nat.zero_add]
    have hd : (l.drop n).length = l.length - n := by simp
    rw [← hd]
    refine wpAny_of_seq (l.drop n) n L a w (fun j => by simp [List.getElem?_drop]) (by rw [hd, hLe]; exact b10) ?_
    have hN : (alDsts (l.take n)).Nodup := by
      have : ∀ (m : List Oper), okHead m = true → (alDsts m).Nodup ∧ ∀ d ∈ alDsts m, d ∈ dsts m := fun m => by
        induction m with
        | nil => intro _; simp [alDsts]
        | cons o r ih =>
          intro hk
          simp only [okHead, Bool.and_eq_true] at hk
          obtain ⟨⟨⟨h1, _⟩, _⟩, hr⟩ := hk
          obtain ⟨q1, q2⟩ := ih hr
          cases hd : o.dst with
          | none => rw [hd] at h1; cases h1
          | some d =>
            rw [hd] at h1
            have hnd : d ∉ dsts r := by simpa using h1
            have hds : dsts (o :: r) = d :: dsts r := by simp [dsts, hd]
            by_cases ha : isAl o = true
            · have hal : alDsts (o :: r) = d :: alDsts r := by simp [alDsts, ha, hd]
              rw [hal, hds]
              exact ⟨List.nodup_cons.2 ⟨fun h => hnd (q2 d h), q1⟩, fun x hx => by
                rcases List.mem_cons.1 hx with rfl | hx
                · exact List.mem_cons_self
                · exact List.mem_cons_of_mem _ (q2 x hx)⟩
            · have hal : alDsts (o :: r) = alDsts r := by simp [alDsts, ha]
              rw [hal, hds]
              exact ⟨q1, fun x hx => List.mem_cons_of_mem _ (q2 x hx)⟩
      exact (this _ b1).1
    have mem : ∀ d ∈ alDsts (l.take n), ∃ i o, i < n ∧ (l.take n)[i]? = some o ∧ isAl o = true ∧ o.dst = some d := fun d hd => by
      obtain ⟨o, ho, h1⟩ := List.mem_filterMap.1 hd
      obtain ⟨i, hi⟩ := List.getElem?_of_mem ho
      have hin : i < n := by
        have := (List.getElem?_eq_some_iff.1 hi).1
        omega
      by_cases ha : isAl o = true
      · rw [if_pos ha] at h1
        exact ⟨i, o, hin, hi, ha, h1⟩
      · rw [if_neg ha] at h1
        cases h1
    have lst : ∀ i, i < n → L.getD i false = true := fun i hi => by
      have := hall i hi
      have hs : i < L.size := by rw [inv.size]; simp; omega
      simp [hs] at this ⊢
      exact this
    refine fin_ok (alDsts (l.take n)) [] e hN I.dfr.symm I.siz.symm (fun d hd => ?_) (fun d hd => ?_) (fun d hd d' hd' hne => ?_) (fun t ht => ?_) (hfin w I.bel)
    · obtain ⟨i, o, hi, ho, ha, hdo⟩ := mem d hd
      have := List.all_eq_true.1 b2 d (List.mem_filterMap.2 ⟨o, List.mem_of_getElem? ho, hdo⟩)
      rw [I.siz]
      simpa using this
    · obtain ⟨i, o, hi, ho, ha, hdo⟩ := mem d hd
      obtain ⟨d', b, h1, h2, h3, h4, h5⟩ := I.als i o hi ho ha (lst i hi)
      rw [hdo] at h1
      have := Option.some.inj h1
      subst this
      exact ⟨b, h2, h3, h4, h5, by simp⟩
    · obtain ⟨i, o, hi, ho, ha, hdo⟩ := mem d hd
      obtain ⟨j, o', hj, ho', ha', hdo'⟩ := mem d' hd'
      exact I.far i o j o' d d' hi hj (fun hij => hne (by
        subst hij
        rw [ho] at ho'
        have := Option.some.inj ho'
        subst this
        rw [hdo] at hdo'
        exact Option.some.inj hdo')) ho ho' ha ha' (lst i hi) (lst j hj) hdo hdo'
    · refine I.old t fun i o hi ho hor hdt => ?_
      rcases hor with hor | hor
      · rw [lst i hi] at hor; cases hor
      · exact ht (List.mem_filterMap.2 ⟨o, List.mem_of_getElem? ho, by rw [if_pos hor]; exact hdt⟩)
  | succ f ih =>
    intro L a w hc inv I
    -- some operation of the head has not come up
    have hex : ∃ i, i < n ∧ L.getD i true = false := by
      by_cases h : ∃ i, i < n ∧ L.getD i true = false
      · exact h
      · exfalso
        have : cnt n L = 0 := by
          unfold cnt
          refine List.countP_eq_zero.2 fun i hi => ?_
          have hin := List.mem_range.1 hi
          cases hh : L.getD i true with
          | true => simp
          | false => exact absurd ⟨i, hin, hh⟩ h
        omega
    obtain ⟨i0, hi0, hu0⟩ := hex
    have hne : Region.ready .any l.toArray L ≠ [] := fun h0 => by
      have all : ∀ i, i < n → L.getD i false = true := fun i => by
        induction i using Nat.strongRecOn with
        | _ i ihh =>
          intro hi
          cases hh : L.getD i false with
          | true => rfl
          | false =>
            exfalso
            have hs : i < L.size := by rw [inv.size]; simp; omega
            have hsl : i < l.length := by omega
            have hmem : i ∈ Region.ready .any l.toArray L := mem_ready.2 ⟨getD_in hs hh, l[i], by simp [hsl], fun ed hed hb => by
              have h1 := List.all_eq_true.1 b6 i (List.mem_range.2 hi)
              have ho : l.toArray[i]? = some l[i] := by simp [hsl]
              simp only [ho] at h1
              have h2 := (Array.all_eq_true'.1 h1) ed hed
              simp only [decide_eq_true_eq] at h2
              exact ihh ed.on h2 (by omega)⟩
            rw [h0] at hmem
            cases hmem
      have := all i0 hi0
      rw [getD_both hu0] at this
      cases this
    rw [show f + 1 + (l.length - n) = (f + (l.length - n)) + 1 by omega]
    refine ⟨fun h0 => absurd h0 hne, fun i hi => ?_⟩
    have hin : i < n := by
      rcases Nat.lt_or_ge i n with h | h
      · exact h
      · exact absurd hi (tail_waits b8 b9 (by simpa using b7) inv _ i0 rfl hi0 hu0 i h)
    have hun := (mem_ready.1 hi).1
    refine head_step hT hl b1 b2 b3 hsel b5 he hlen.symm hi hin (by rw [inv.size]; simp; omega) I fun a' w' I' => ih _ a' w' ?_ (inv.set hi hin) I'
    have hs : i < L.size := by rw [inv.size]; simp; omega
    have := cnt_set (fun k => !L.getD k true) (fun k => !(L.setIfInBounds i true).getD k true) i (by show (!L.getD i true) = true; rw [hun]; rfl) (by simp [Array.getD_eq_getD_getElem?, hs]) (fun j hj => by
      simp only [Array.getD_eq_getD_getElem?, Array.getElem?_setIfInBounds_ne (Ne.symm hj)]) n
    rw [if_pos hin] at this
    unfold cnt at *
    omega

/-- **ONE WALK OF THE HEAD, THEN THE STORES.** -/
theorem region_data {id : Nat} {Q : Exit → Act → World → Prop} {a : Act} {w : World} {l : List Oper} (n : Nat) (T : TypeId) (obj : Obj) (hm : P.follows .mixedOrders = true)
    (hT : ∀ w : World, (Instr.alloc T true (.tuple #[])).run P w = .ok (.pointer (some ⟨w.heap.size, 0, none⟩)) (w.alloc obj))
    (hB : headB l n T a.tmps.size = true)
    (h : wpData P w (fun e => ∀ w', Below w.heap.size w w' → finK obj w w' (fun a => wpList P l.toArray Q (l.drop n) a w') (alDsts (l.take n)) [] e) (l.take n) a) : (Code.region id l.toArray true).wp P Q a w := by
  have hB' := hB
  simp only [headB, Bool.and_eq_true, decide_eq_true_eq] at hB'
  obtain ⟨⟨⟨⟨⟨⟨⟨⟨⟨b1, b2⟩, b3⟩, b4⟩, b5⟩, b6⟩, b7⟩, b8⟩, b9⟩, b10⟩ := hB'
  have hlen : (l.take n).length = n := by rw [List.length_take]; omega
  have hsel : ∀ o ∈ l.take n, ∀ cs b, o.op ≠ .select cs b := fun o ho cs b => by
    obtain ⟨k, hk⟩ := List.getElem?_of_mem ho
    have hkn : k < n := by
      have := (List.getElem?_eq_some_iff.1 hk).1
      omega
    refine Region.noSelect_spec b4 k o cs b ?_
    rw [List.getElem?_take_of_lt hkn] at hk
    simpa using hk
  obtain ⟨e, h1, h2, h3, h4, h5⟩ := wpData_end a.tmps.size (l.take n) a b1 b2 hsel rfl h
  refine wp_region_any hm ?_
  have hsz : l.toArray.size = n + (l.length - n) := by simp; omega
  have := head_any (w0 := w) (T := T) (obj := obj) (Q := Q) hT (by rw [h3]; exact hB) h5 h1 n (Array.replicate l.toArray.size false) a { w with drawn := w.drawn + 1 } ?_ ?_ ?_
  · rw [← hsz] at this
    exact this
  · unfold cnt
    have : (List.range n).countP (fun i => !(Array.replicate l.toArray.size false).getD i true) = (List.range n).length := by
      refine List.countP_eq_length.2 fun i hi => ?_
      have hi' := List.mem_range.1 hi
      have hs : i < l.length := by omega
      simp [Array.getD_eq_getD_getElem?, hs]
    simpa using this
  · refine ⟨by simp, fun j oj hj hl => ?_, fun t ht ht' => ?_⟩
    · rw [getD_replicate_false] at hl; cases hl
    · simp only [List.size_toArray] at ht'
      simp [Array.getD_eq_getD_getElem?, ht']
  · refine ⟨⟨rfl, rfl, rfl, Nat.le_refl _, fun _ _ => rfl⟩, h2.symm, h3.symm, fun t ht => ?_, fun i o _ _ _ hL => ?_, fun i o j o' d d' _ _ _ _ _ _ _ hL => ?_⟩
    · refine (h4 t fun htd => ?_).symm
      obtain ⟨o, ho, hdo⟩ := List.mem_filterMap.1 htd
      obtain ⟨i, hi⟩ := List.getElem?_of_mem ho
      have hin : i < n := by
        have := (List.getElem?_eq_some_iff.1 hi).1
        omega
      exact ht i o hin hi (.inl (getD_replicate_false _ _)) hdo
    · rw [getD_replicate_false] at hL; cases hL
    · rw [getD_replicate_false] at hL; cases hL
end
end Go.Proofs.Ytdnndmpdlelliaa
