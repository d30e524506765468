/-
 Regions that draw their order: stores to blocks of their own, appends to rows of their own, and one last store to any block: predicates by slot, ahead of each such operation and behind it.
-/
import Derived.Test.YtajddejeglhbhaaTg
namespace Go.Proofs.Ytajddejeglhbhaa
open Go.RowKit
set_option linter.unusedVariables false
set_option linter.unusedSimpArgs false
section
variable {P : Program}
/-- Slots whose row an append has taken. -/
def consB (A : List (Nat × Tmp)) (σ : Nat → Bool) (t : Tmp) : Bool := A.any fun x => σ x.1 && Nat.beq x.2 t
def kA (A : List (Nat × Tmp)) (K : Tmp → Value → Option Nat) (σ : Nat → Bool) : Tmp → Value → Option Nat := fun t v => if consB A σ t = true then none else K t v
theorem kA_le {A : List (Nat × Tmp)} {K : Tmp → Value → Option Nat} {σ : Nat → Bool} {t : Tmp} {v : Value} {b : Nat} (h : kA A K σ t v = some b) : K t v = some b := by
 unfold kA at h
 split at h
 ·cases h
 ·exact h
theorem kA_mono {A : List (Nat × Tmp)} {K : Tmp → Value → Option Nat} {σ : Nat → Bool} {i : Nat} {t : Tmp} {v : Value} {b : Nat} (h : kA A K (updS σ i) t v = some b) : kA A K σ t v = some b := by
 have hk := kA_le h
 unfold kA at h ⊢
 by_cases hc : consB A σ t = true
 ·exfalso
  have hc' : consB A (updS σ i) t = true := by
   unfold consB at hc ⊢
   obtain ⟨x, hx, e⟩ := List.any_eq_true.1 hc
   refine List.any_eq_true.2 ⟨x, hx, ?_⟩
   simp only [Bool.and_eq_true] at e ⊢
   refine ⟨?_, e.2⟩
   unfold updS
   split
   ·rfl
   ·exact e.1
  rw [if_pos hc'] at h
  cases h
 ·rw [if_neg hc]
  exact hk
theorem kA_used {A : List (Nat × Tmp)} {K : Tmp → Value → Option Nat} {σ : Nat → Bool} {i : Nat} {p : Tmp} {v : Value} {b : Nat} (hp : (i, p) ∈ A) (h : kA A K (updS σ i) p v = some b) : False := by
 have hc : consB A (updS σ i) p = true := List.any_eq_true.2 ⟨(i, p), hp, by show (updS σ i i && Nat.beq p p) = true; rw [show updS σ i i = true from if_pos rfl, Nat.beq_refl]; rfl⟩
 unfold kA at h
 rw [if_pos hc] at h
 cases h
def noGuardAt (l : List Oper) (i : Nat) : Bool := match l[i]? with
 | some o => o.guard.isNone
 | none => false
def predHB (l : List Oper) (S A : List (Nat × Tmp)) (z N : Nat) : Bool := distB (dsts l) && allButG ((z, 0) :: S) 0 l && waitB l.toArray (dsts l) l && leadB 0 l && noSel l && sizeB l N && (S ++ A).all (ptrB l) && (Nat.ble l.length z || lastB l z) && A.all (fun x => noGuardAt l x.1) && A.all (fun x => !isSt ((z, 0) :: S) x.1) && S.all (fun x => !Nat.beq x.1 z)
structure JInv (Φ : (Nat → Bool) → Tmp → Value → World → Prop) (K : Tmp → Value → Option Nat) (S A : List (Nat × Tmp)) (z : Nat) (C : List (Tmp × Tmp)) (w0 : World) (a0 : Act) (l : List Oper) (L : Array Bool) (a : Act) (w : World) : Prop where
 bel : Below w0.heap.size w0 w
 dfr : a.defers = a0.defers
 siz : a.tmps.size = a0.tmps.size
 lsz : L.size = l.length
 old : ∀ t, t ∉ dsts l → a.tmps[t]? = a0.tmps[t]?
 val : ∀ (i : Nat) (o : Oper) (d : Tmp), l[i]? = some o → o.dst = some d → L.getD i false = true → ∃ v, a.tmps[d]? = some v ∧ Φ (stg (S ++ A) L) d v w
 zno : z < l.length → L.getD z false = false
 clo : ∀ (j : Nat) (oj : Oper), l[j]? = some oj → L.getD j false = true → ∀ i, earlyB oj i = true → L.getD i false = true
 dis : ∀ (i j : Nat) (oi oj : Oper) (di dj : Tmp) (vi vj : Value) (b : Nat), i ≠ j → l[i]? = some oi → l[j]? = some oj → oi.dst = some di → oj.dst = some dj → L.getD i false = true → L.getD j false = true → a.tmps[di]? = some vi → a.tmps[dj]? = some vj → kA A K (stg (S ++ A) L) di vi = some b → kA A K (stg (S ++ A) L) dj vj ≠ some b
 cpy : ∀ (d c : Tmp) (i : Nat) (o : Oper), (d, c) ∈ C → l[i]? = some o → o.dst = some d → L.getD i false = true → a.tmps[d]? = a.tmps[c]?
/-- What a store must do; p is its pointer's slot. -/
def OblU (P : Program) (ds : List Tmp) (a0 : Act) (w0 : World) (Φ : (Nat → Bool) → Tmp → Value → World → Prop) (A : List (Nat × Tmp)) (K : Tmp → Value → Option Nat) (i : Nat) (p : Tmp) (o : Oper) : Prop :=
 ∀ (σ : Nat → Bool) (a : Act) (g : Grown w0), σ i = false → seenAll (Φ σ) ds a0 a g.w (o.looksAt #[]) → ∃ w', (execOp a.eval o).run P g.w = .ok .skip w' ∧ Below w0.heap.size w0 w' ∧ ∀ t v, a.tmps[t]? = some v → (t ≠ p → ∀ vp b, a.tmps[p]? = some vp → kA A K σ p vp = some b → kA A K σ t v ≠ some b) → Φ σ t v g.w → Φ (updS σ i) t v w'
/-- What an append must do; p is the slot of the row that it takes. -/
def OblA (P : Program) (ds : List Tmp) (a0 : Act) (w0 : World) (Φ : (Nat → Bool) → Tmp → Value → World → Prop) (A : List (Nat × Tmp)) (K : Tmp → Value → Option Nat) (i : Nat) (p : Tmp) (o : Oper) : Prop :=
 ∀ (σ : Nat → Bool) (a : Act) (g : Grown w0) (d : Tmp), o.dst = some d → σ i = false → seenAll (Φ σ) ds a0 a g.w (o.looksAt #[]) → ∃ v' w', (execOp a.eval o).run P g.w = .ok (.value v') w' ∧ Below w0.heap.size w0 w' ∧ (∀ t v, t ≠ d → a.tmps[t]? = some v → (t ≠ p → ∀ vp b, a.tmps[p]? = some vp → kA A K σ p vp = some b → kA A K σ t v ≠ some b) → Φ σ t v g.w → Φ (updS σ i) t v w') ∧ Φ (updS σ i) d v' w' ∧
  ∀ b, K d v' = some b → g.w.heap.size ≤ b ∨ ∃ vp, a.tmps[p]? = some vp ∧ kA A K σ p vp = some b
/-- What the end is: the last store runs, if there is one. -/
def endQ (P : Program) (Q : Exit → Act → World → Prop) (l : List Oper) (z : Nat) (a : Act) (w : World) : Prop := match l[z]? with
 | some os => ∃ w', (execOp a.eval os).run P w = .ok .skip w' ∧ Q .normal a w'
 | none => Q .normal a w
theorem pred_h {l : List Oper} {a0 : Act} {w0 : World} {Q : Exit → Act → World → Prop} (Φ : (Nat → Bool) → Tmp → Value → World → Prop) (K : Tmp → Value → Option Nat) (S A : List (Nat × Tmp)) (z : Nat) (C : List (Tmp × Tmp)) (hB : predHB l S A z a0.tmps.size = true) (hC : ∀ x ∈ C, CpyB P l x.1 x.2)
  (hΦ : ∀ σ t v w1 w2, Below w1.heap.size w1 w2 → Φ σ t v w1 → Φ σ t v w2)
  (hK : ∀ σ t v w b, Φ σ t v w → kA A K σ t v = some b → b < w.heap.size)
  (hO : ∀ i o σ, l[i]? = some o → isSt S i = false → isSt A i = false → i ≠ z → (∀ s os, σ s = true → l[s]? = some os → earlyB os i = false) → OblG P l.toArray (dsts l) a0 w0 (Φ σ) K o)
  (hS : ∀ i p os, (i, p) ∈ S → l[i]? = some os → OblU P (dsts l) a0 w0 Φ A K i p os)
  (hA : ∀ i p os, (i, p) ∈ A → l[i]? = some os → OblA P (dsts l) a0 w0 Φ A K i p os)
  (k : ∀ (a : Act) (g : Grown w0), a.defers = a0.defers → a.tmps.size = a0.tmps.size → (∀ t, t ∉ dsts l → a.tmps[t]? = a0.tmps[t]?) → (∀ d ∈ dsts l, ∃ v, a.tmps[d]? = some v ∧ Φ (isSt (S ++ A)) d v g.w) → disA (dsts l) (kA A K (isSt (S ++ A))) a → (∀ x ∈ C, a.tmps[x.1]? = a.tmps[x.2]?) → endQ P Q l z a g.w) :
  ∀ (f : Nat) (L : Array Bool) (a : Act) (w : World), cnt l.length L = f → JInv Φ K S A z C w0 a0 l L a w → wpAny P .any l.toArray Q f L a w := by
 simp only [predHB, Bool.and_eq_true] at hB
 obtain ⟨⟨⟨⟨⟨⟨⟨⟨⟨⟨b1, b2⟩, b3⟩, b4⟩, b5⟩, b6⟩, b7⟩, b8⟩, b9⟩, b10⟩, b11⟩ := hB
 have isA_mem : ∀ {i : Nat}, isSt A i = true → isSt (S ++ A) i = true := fun h => by
  unfold isSt at *
  rw [List.any_append, h, Bool.or_true]
 have isS_mem : ∀ {i : Nat}, isSt S i = true → isSt (S ++ A) i = true := fun h => by
  unfold isSt at *
  rw [List.any_append, h, Bool.true_or]
 have isZ : ∀ {i : Nat}, isSt ((z, 0) :: S) i = true → i = z ∨ isSt S i = true := fun {i} h => by
  unfold isSt at h
  rw [List.any_cons] at h
  simp only [Bool.or_eq_true] at h
  rcases h with h | h
  ·exact .inl (Nat.eq_of_beq_eq_true h).symm
  ·exact .inr h
 have toZ : isSt ((z, 0) :: S) z = true := by
  unfold isSt
  rw [List.any_cons, Nat.beq_refl, Bool.true_or]
 have toS : ∀ {i : Nat}, isSt S i = true → isSt ((z, 0) :: S) i = true := fun h => by
  unfold isSt at *
  rw [List.any_cons, h, Bool.or_true]
 have SAz : ∀ {i : Nat}, isSt (S ++ A) i = true → i ≠ z := fun {i} h e => by
  subst e
  obtain ⟨p, hp⟩ := isSt_mem h
  rcases List.mem_append.1 hp with hp | hp
  ·have := List.all_eq_true.1 b11 _ hp
   simp [Nat.beq_refl] at this
  ·have := List.all_eq_true.1 b10 _ hp
   rw [Bool.not_eq_true'] at this
   rw [toZ] at this
   cases this
 have isz : ∀ d ∈ dsts l, d < a0.tmps.size := fun d hd => by
  have := List.all_eq_true.1 b6 d hd
  simpa using this
 have listedAll : ∀ (L : Array Bool), L.size = l.length → cnt l.length L = 0 → ∀ i, i < l.length → L.getD i false = true := fun L hs h0 i hi => by
  unfold cnt at h0
  have := List.countP_eq_zero.1 h0 i (List.mem_range.2 hi)
  have hs' : i < L.size := by omega
  simp [hs'] at this ⊢
  exact this
 have fin : ∀ (L : Array Bool) (a : Act) (w : World), (∀ i, i < l.length → i ≠ z → L.getD i false = true) → JInv Φ K S A z C w0 a0 l L a w → endQ P Q l z a w := fun L a w hall I => by
  have hst : stg (S ++ A) L = isSt (S ++ A) := by
   funext s
   unfold stg
   cases hs : isSt (S ++ A) s with
   | false => rfl
   | true =>
    obtain ⟨p, hp⟩ := isSt_mem hs
    obtain ⟨os, ip, op, h1, _⟩ := ptrB_of (List.all_eq_true.1 b7 _ hp)
    rw [hall s (List.getElem?_eq_some_iff.1 h1).1 (SAz hs)]
    rfl
  have nz : ∀ (i : Nat) (o : Oper) (d : Tmp), l[i]? = some o → o.dst = some d → i ≠ z := fun i o d hi hd e => by
   subst e
   have := ((allButG_at _ l 0 b2 i o hi).1 (by rw [Nat.zero_add]; exact toZ)).1
   rw [this] at hd
   cases hd
  have hall' : ∀ (i : Nat) (o : Oper) (d : Tmp), l[i]? = some o → o.dst = some d → L.getD i false = true := fun i o d hi hd => hall i (List.getElem?_eq_some_iff.1 hi).1 (nz i o d hi hd)
  refine k a ⟨w, I.bel⟩ I.dfr I.siz I.old (fun d hd => ?_) (fun d d' v v' b hne hd hd' hv hv' hb => ?_) (fun x hx => ?_)
  ·obtain ⟨o, ho, hdo⟩ := List.mem_filterMap.1 hd
   obtain ⟨i, hi⟩ := List.getElem?_of_mem ho
   have := I.val i o d hi hdo (hall' i o d hi hdo)
   rw [hst] at this
   exact this
  ·obtain ⟨o, ho, hdo⟩ := List.mem_filterMap.1 hd
   obtain ⟨i, hi⟩ := List.getElem?_of_mem ho
   obtain ⟨o', ho', hdo'⟩ := List.mem_filterMap.1 hd'
   obtain ⟨j, hj⟩ := List.getElem?_of_mem ho'
   have hdis := I.dis i j o o' d d' v v' b (fun e => ?_) hi hj hdo hdo' (hall' i o d hi hdo) (hall' j o' d' hj hdo') hv hv'
   ·rw [hst] at hdis
    exact hdis hb
   subst e
   rw [hi] at hj
   cases hj
   rw [hdo] at hdo'
   cases hdo'
   exact hne rfl
  ·obtain ⟨i, o, j, oj, h1, h2, _⟩ := hC x hx
   exact I.cpy x.1 x.2 i o hx h1 h2 (hall' i o _ h1 h2)
 intro f
 induction f with
 | zero =>
  intro L a w hc I
  have hz : l[z]? = none := by
   rcases Nat.lt_or_ge z l.length with h | h
   ·have := listedAll L I.lsz hc z h
    rw [I.zno h] at this
    cases this
   ·exact List.getElem?_eq_none h
  have hend := fin L a w (fun i hi _ => listedAll L I.lsz hc i hi) I
  unfold endQ at hend
  rw [hz] at hend
  refine ⟨?_, hend⟩
  cases hr : Region.ready .any l.toArray L with
  | nil => rfl
  | cons i r =>
   have hi : i ∈ Region.ready .any l.toArray L := by rw [hr]; exact List.mem_cons_self
   obtain ⟨hun, o, ho, _⟩ := mem_ready.1 hi
   have hin : i < l.length := by
    have := (Array.getElem?_eq_some_iff.1 ho).1
    simpa using this
   have := listedAll L I.lsz hc i hin
   rw [getD_both hun] at this
   cases this
 | succ f ih =>
  intro L a w hc I
  have hex : ∃ i, i < l.length ∧ L.getD i true = false := by
   by_cases h : ∃ i, i < l.length ∧ L.getD i true = false
   ·exact h
   ·exfalso
    have : cnt l.length L = 0 := by
     unfold cnt
     refine List.countP_eq_zero.2 fun i hi => ?_
     have hin := List.mem_range.1 hi
     cases hh : L.getD i true with
     | true => simp
     | false => exact absurd ⟨i, hin, hh⟩ h
    omega
  obtain ⟨i0, hi0, hu0⟩ := hex
  have hne : Region.ready .any l.toArray L ≠ [] := fun h0 => by
   have all : ∀ i, i < l.length → L.getD i false = true := fun i => by
    induction i using Nat.strongRecOn with
    | _ i ihh =>
     intro hi
     cases hh : L.getD i false with
     | true => rfl
     | false =>
      exfalso
      have hs : i < L.size := by rw [I.lsz]; exact hi
      have hmem : i ∈ Region.ready .any l.toArray L := mem_ready.2 ⟨getD_in hs hh, l[i], by simp [hi], fun ed hed hb => by
       have := leadB_at l 0 b4 i l[i] (by simp [hi]) ed hed hb
       exact ihh ed.on (by omega) (by omega)⟩
      rw [h0] at hmem
      cases hmem
   have := all i0 hi0
   rw [getD_both hu0] at this
   cases this
  refine ⟨fun h0 => absurd h0 hne, fun i hi => ?_⟩
  obtain ⟨hun, o, ho, hall⟩ := mem_ready.1 hi
  have hol : l[i]? = some o := by simpa using ho
  have hin : i < l.length := (List.getElem?_eq_some_iff.1 hol).1
  have hmem : o ∈ l := List.mem_of_getElem? hol
  have hsL : i < L.size := by rw [I.lsz]; exact hin
  have hcnt : cnt l.length (L.setIfInBounds i true) = f := by
   have := cnt_set (fun k => !L.getD k true) (fun k => !(L.setIfInBounds i true).getD k true) i (by show (!L.getD i true) = true; rw [hun]; rfl) (by simp [Array.getD_eq_getD_getElem?, hsL]) (fun j hj => by
    simp only [Array.getD_eq_getD_getElem?, Array.getElem?_setIfInBounds_ne (Ne.symm hj)]) l.length
   rw [if_pos hin] at this
   unfold cnt at *
   omega
  have hset : ∀ k, (L.setIfInBounds i true).getD k false = if i = k then true else L.getD k false := fun k => by
   by_cases hik : i = k
   ·subst hik
    rw [if_pos rfl]
    simp [Array.getD_eq_getD_getElem?, hsL]
   ·rw [if_neg hik]
    simp [Array.getD_eq_getD_getElem?, Array.getElem?_setIfInBounds_ne hik]
  have hlook : seenAll (Φ (stg (S ++ A) L)) (dsts l) a0 a w (o.looksAt l.toArray) := seenAll_of _ fun t ht => by
   unfold seen
   by_cases hin' : inL t (dsts l) = true
   ·rw [if_pos hin']
    have hmt := (inL_iff t _).1 hin'
    have h1 := List.all_eq_true.1 (List.all_eq_true.1 b3 o hmem) t ht
    simp only [Bool.or_eq_true, Bool.not_eq_true'] at h1
    rcases h1 with h1 | h1
    ·have := (List.contains_iff_mem).2 hmt
     rw [h1] at this
     cases this
    ·obtain ⟨e, he, hb⟩ := Array.any_eq_true'.1 h1
     simp only [Bool.and_eq_true] at hb
     obtain ⟨hb1, hb2⟩ := hb
     have hlis := hall e he hb1
     cases hoj : l.toArray[e.on]? with
     | none => rw [hoj] at hb2; cases hb2
     | some oj =>
      rw [hoj] at hb2
      simp only [beq_iff_eq] at hb2
      exact I.val e.on oj t (by simpa using hoj) hb2 hlis
   ·rw [if_neg hin']
    exact I.old t fun h => hin' ((inL_iff t _).2 h)
  have hclo : ∀ j oj, l[j]? = some oj → (L.setIfInBounds i true).getD j false = true → ∀ x, earlyB oj x = true → (L.setIfInBounds i true).getD x false = true := fun j oj hj hLj x hex => by
   rw [hset] at hLj ⊢
   split
   ·rfl
   ·by_cases hij : i = j
    ·subst hij
     rw [hol] at hj
     cases hj
     obtain ⟨e, he, hb⟩ := Array.any_eq_true'.1 hex
     simp only [Bool.and_eq_true] at hb
     have := hall e he hb.1
     rwa [Nat.eq_of_beq_eq_true hb.2] at this
    ·rw [if_neg hij] at hLj
     exact I.clo j oj hj hLj x hex
  have hLf : L.getD i false = false := getD_both hun
  by_cases hiz : i = z
  ·subst hiz
   have hLB : lastB l i = true := by
    have h8 := b8
    simp only [Bool.or_eq_true] at h8
    rcases h8 with h | h
    ·have := Nat.le_of_ble_eq_true h
     omega
    ·exact h
   have hoN := (allButG_at _ l 0 b2 i o hol).1 (by rw [Nat.zero_add]; exact toZ)
   have hoth : ∀ (m j : Nat), l.length - j = m → j < l.length → j ≠ i → L.getD j false = true := by
    intro m
    induction m using Nat.strongRecOn with
    | _ m ihm =>
     intro j hm hj hne
     have h1 := List.all_eq_true.1 hLB j (List.mem_range.2 hj)
     simp only [Bool.or_eq_true] at h1
     rcases h1 with h1 | h1
     ·exact absurd (Nat.eq_of_beq_eq_true h1) hne
     ·obtain ⟨ox, hox, he⟩ := List.any_eq_true.1 h1
      obtain ⟨x, hx⟩ := List.getElem?_of_mem hox
      have hxl : x < l.length := (List.getElem?_eq_some_iff.1 hx).1
      obtain ⟨e, hem, hb⟩ := Array.any_eq_true'.1 he
      simp only [Bool.and_eq_true] at hb
      have hlt := leadB_at l 0 b4 x ox hx e hem hb.1
      have hej := Nat.eq_of_beq_eq_true hb.2
      by_cases hxi : x = i
      ·subst hxi
       obtain rfl : ox = o := by rw [hol] at hx; exact (Option.some.inj hx).symm
       have := hall e hem hb.1
       rwa [hej] at this
      ·exact I.clo x ox hx (ihm (l.length - x) (by omega) x rfl hxl hxi) j he
   have hL' : ∀ j, j < l.length → (L.setIfInBounds i true).getD j false = true := fun j hj => by
    rw [hset]
    by_cases e : i = j
    ·rw [if_pos e]
    ·rw [if_neg e]
     exact hoth _ j rfl hj (fun q => e q.symm)
   have hf0 : f = 0 := by
    rw [← hcnt]
    unfold cnt
    refine List.countP_eq_zero.2 fun j hj => ?_
    have hin := List.mem_range.1 hj
    have h1 := hL' j hin
    cases hh : (L.setIfInBounds i true).getD j true with
    | true => simp
    | false =>
     rw [getD_both hh] at h1
     cases h1
   have hend := fin L a w (fun j hj hne => hoth _ j rfl hj hne) I
   unfold endQ at hend
   rw [hol] at hend
   obtain ⟨w', hr, hq⟩ := hend
   have hw : Region.wanted o (yielded l.toArray a.tmps) = true := by
    unfold Region.wanted
    rw [hoN.2]
   unfold wpOp
   simp only [ho]
   rw [if_pos hw]
   refine .inl ?_
   unfold Oper.wp
   rw [hr, Oper.upon_skip]
   have hput : a.put o.dst undef = a := by rw [hoN.1]; rfl
   rw [hput]
   subst hf0
   refine ⟨?_, hq⟩
   cases hrd : Region.ready .any l.toArray (L.setIfInBounds i true) with
   | nil => rfl
   | cons x r =>
    have hi : x ∈ Region.ready .any l.toArray (L.setIfInBounds i true) := by rw [hrd]; exact List.mem_cons_self
    obtain ⟨hun, ox, hox, _⟩ := mem_ready.1 hi
    have hin : x < l.length := by
     have := (Array.getElem?_eq_some_iff.1 hox).1
     simpa using this
    have := hL' x hin
    rw [getD_both hun] at this
    cases this
  have hzno : z < l.length → (L.setIfInBounds i true).getD z false = false := fun h => by rw [hset, if_neg hiz]; exact I.zno h
  by_cases his : isSt S i = true
  ·obtain ⟨p, hp⟩ := isSt_mem his
   have hoN := (allButG_at _ l 0 b2 i o hol).1 (by rw [Nat.zero_add]; exact toS his)
   obtain ⟨os, ip, op, hos, hip, hpd, hpe⟩ := ptrB_of (List.all_eq_true.1 b7 _ (List.mem_append_left _ hp))
   obtain rfl : o = os := by
    have : l[i]? = some os := hos
    rw [hol] at this
    exact Option.some.inj this
   have hLp : L.getD ip false = true := by
    obtain ⟨e, he, hb⟩ := Array.any_eq_true'.1 hpe
    simp only [Bool.and_eq_true] at hb
    have := hall e he hb.1
    rwa [Nat.eq_of_beq_eq_true hb.2] at this
   have hσ : stg (S ++ A) L i = false := by
    unfold stg
    rw [hLf, Bool.and_false]
   have hupd : stg (S ++ A) (L.setIfInBounds i true) = updS (stg (S ++ A) L) i := by
    funext s
    unfold stg updS
    by_cases e : s = i
    ·subst e
     rw [if_pos rfl, hset, if_pos rfl, isS_mem his]
     rfl
    ·rw [if_neg e, hset, if_neg (Ne.symm e)]
   have hlk : seenAll (Φ (stg (S ++ A) L)) (dsts l) a0 a w (o.looksAt #[]) := by
    rw [← looks_none o (by rw [hoN.2]; rfl) (ops := l.toArray)]
    exact hlook
   obtain ⟨w', hr, hbel, hst⟩ := hS i p o hp hol (stg (S ++ A) L) a ⟨w, I.bel⟩ hσ hlk
   have hw : Region.wanted o (yielded l.toArray a.tmps) = true := by
    unfold Region.wanted
    rw [hoN.2]
   unfold wpOp
   simp only [ho]
   rw [if_pos hw]
   refine .inl ?_
   unfold Oper.wp
   rw [hr, Oper.upon_skip]
   have hput : a.put o.dst undef = a := by rw [hoN.1]; rfl
   rw [hput]
   have hnei : ∀ j oj dj, l[j]? = some oj → oj.dst = some dj → i ≠ j := fun j oj dj hj hdj e => by
    subst e
    rw [hol] at hj
    have e := Option.some.inj hj
    subst e
    rw [hoN.1] at hdj
    cases hdj
   refine ih _ _ _ hcnt ⟨hbel, I.dfr, I.siz, by simp [I.lsz], I.old, fun j oj dj hj hdj hLj => ?_, hzno, hclo, fun j1 j2 o1 o2 d1 d2 v1 v2 b hne h1 h2 hd1 hd2 hL1 hL2 hv1 hv2 hb => ?_, fun d c j oj hdc hj hdj hLj => ?_⟩
   ·rw [hset, if_neg (hnei j oj dj hj hdj)] at hLj
    obtain ⟨v, h1, h2⟩ := I.val j oj dj hj hdj hLj
    rw [hupd]
    refine ⟨v, h1, hst dj v h1 (fun hne vp b hvp hb => ?_) h2⟩
    refine I.dis ip j op oj p dj vp v b (fun e => ?_) hip hj hpd hdj hLp hLj hvp h1 hb
    subst e
    rw [hip] at hj
    cases hj
    rw [hpd] at hdj
    cases hdj
    exact hne rfl
   ·rw [hset, if_neg (hnei j1 o1 d1 h1 hd1)] at hL1
    rw [hset, if_neg (hnei j2 o2 d2 h2 hd2)] at hL2
    rw [hupd] at hb ⊢
    exact fun hb2 => I.dis j1 j2 o1 o2 d1 d2 v1 v2 b hne h1 h2 hd1 hd2 hL1 hL2 hv1 hv2 (kA_mono hb) (kA_mono hb2)
   ·rw [hset, if_neg (hnei j oj d hj hdj)] at hLj
    exact I.cpy d c j oj hdc hj hdj hLj
  by_cases hia : isSt A i = true
  ·obtain ⟨p, hp⟩ := isSt_mem hia
   have hnz : isSt ((z, 0) :: S) i = false := by
    have := List.all_eq_true.1 b10 _ hp
    simpa using this
   obtain ⟨d, hd⟩ := (allButG_at _ l 0 b2 i o hol).2 (by rw [Nat.zero_add]; exact hnz)
   have hgd : o.guard = none := by
    have := List.all_eq_true.1 b9 _ hp
    unfold noGuardAt at this
    simp only [hol] at this
    simpa using this
   have hdm : d ∈ dsts l := List.mem_filterMap.2 ⟨o, hmem, hd⟩
   have hdN : d < a.tmps.size := by rw [I.siz]; exact isz d hdm
   obtain ⟨os, ip, op, hos, hip, hpd, hpe⟩ := ptrB_of (List.all_eq_true.1 b7 _ (List.mem_append_right _ hp))
   obtain rfl : o = os := by
    have : l[i]? = some os := hos
    rw [hol] at this
    exact Option.some.inj this
   have hLp : L.getD ip false = true := by
    obtain ⟨e, he, hb⟩ := Array.any_eq_true'.1 hpe
    simp only [Bool.and_eq_true] at hb
    have := hall e he hb.1
    rwa [Nat.eq_of_beq_eq_true hb.2] at this
   have hipi : ip ≠ i := fun e => by rw [e, hLf] at hLp; cases hLp
   have hσ : stg (S ++ A) L i = false := by
    unfold stg
    rw [hLf, Bool.and_false]
   have hupd : stg (S ++ A) (L.setIfInBounds i true) = updS (stg (S ++ A) L) i := by
    funext s
    unfold stg updS
    by_cases e : s = i
    ·subst e
     rw [if_pos rfl, hset, if_pos rfl, isA_mem hia]
     rfl
    ·rw [if_neg e, hset, if_neg (Ne.symm e)]
   have hlk : seenAll (Φ (stg (S ++ A) L)) (dsts l) a0 a w (o.looksAt #[]) := by
    rw [← looks_none o (by rw [hgd]; rfl) (ops := l.toArray)]
    exact hlook
   obtain ⟨v, w', hr, hbel, hst, hdv, hdb⟩ := hA i p o hp hol (stg (S ++ A) L) a ⟨w, I.bel⟩ d hd hσ hlk
   have hw : Region.wanted o (yielded l.toArray a.tmps) = true := by
    unfold Region.wanted
    rw [hgd]
   unfold wpOp
   simp only [ho]
   rw [if_pos hw]
   refine .inl ?_
   unfold Oper.wp
   rw [hr, Oper.upon_value]
   have hget : ∀ j oj dj, i ≠ j → l[j]? = some oj → oj.dst = some dj → (a.put o.dst v).tmps[dj]? = a.tmps[dj]? := fun j oj dj hij hj hdj => by
    have hne : d ≠ dj := fun e => hij (dist_inj' l b1 i j o oj d hol hj hd (by rw [e]; exact hdj))
    rw [hd, put_get_ne _ _ hne]
   have hdne : ∀ j oj dj, i ≠ j → l[j]? = some oj → oj.dst = some dj → dj ≠ d := fun j oj dj hij hj hdj e => hij (dist_inj' l b1 i j o oj d hol hj hd (by rw [← e]; exact hdj))
   have hpdis : ∀ j oj dj vj b vp, i ≠ j → l[j]? = some oj → oj.dst = some dj → L.getD j false = true → a.tmps[dj]? = some vj → dj ≠ p → a.tmps[p]? = some vp → kA A K (stg (S ++ A) L) p vp = some b → kA A K (stg (S ++ A) L) dj vj ≠ some b := fun j oj dj vj b vp hij hj hdj hLj hvj hne hvp hb => by
    refine I.dis ip j op oj p dj vp vj b (fun e => ?_) hip hj hpd hdj hLp hLj hvp hvj hb
    subst e
    rw [hip] at hj
    cases hj
    rw [hpd] at hdj
    cases hdj
    exact hne rfl
   refine ih _ _ _ hcnt ⟨hbel, by rw [put_def, I.dfr], by rw [put_size, I.siz], by simp [I.lsz], fun t ht => ?_, fun j oj dj hj hdj hLj => ?_, hzno, hclo, fun j1 j2 o1 o2 d1 d2 v1 v2 b hne h1 h2 hd1 hd2 hL1 hL2 hv1 hv2 hb1 hb2 => ?_, fun d2 c j oj hdc hj hdj hLj => ?_⟩
   ·have hne : d ≠ t := fun e => ht (e ▸ hdm)
    rw [hd, put_get_ne _ _ hne]
    exact I.old t ht
   ·rw [hupd]
    by_cases hij : i = j
    ·subst hij
     rw [hol] at hj
     have e := Option.some.inj hj
     subst e
     rw [hd] at hdj
     have e := Option.some.inj hdj
     subst e
     rw [hd]
     exact ⟨v, put_get_eq _ _ hdN, hdv⟩
    ·rw [hset, if_neg hij] at hLj
     obtain ⟨u, h1, h2⟩ := I.val j oj dj hj hdj hLj
     refine ⟨u, by rw [hget j oj dj hij hj hdj]; exact h1, hst dj u (hdne j oj dj hij hj hdj) h1 (fun hne vp b hvp hb => hpdis j oj dj u b vp hij hj hdj hLj h1 hne hvp hb) h2⟩
   ·-- the new value against an elder one
    rw [hupd] at hb1 hb2
    have clash : ∀ j oj dj vj, i ≠ j → l[j]? = some oj → oj.dst = some dj → (L.setIfInBounds i true).getD j false = true → (a.put o.dst v).tmps[dj]? = some vj → kA A K (updS (stg (S ++ A) L) i) dj vj = some b → K d v = some b → False := fun j oj dj vj hij hj hdj hLj hvj hb hbv => by
     rw [hset, if_neg hij] at hLj
     obtain ⟨u, h1, h2⟩ := I.val j oj dj hj hdj hLj
     rw [hget j oj dj hij hj hdj, h1] at hvj
     cases hvj
     have hb' := kA_mono hb
     rcases hdb b hbv with h | ⟨vp, hvp, hkp⟩
     ·have := hK _ _ _ _ _ h2 hb'
      exact absurd h (by show ¬ w.heap.size ≤ b; omega)
     ·by_cases e : dj = p
      ·subst e
       exact kA_used hp hb
      ·exact hpdis j oj dj _ b vp hij hj hdj hLj h1 e hvp hkp hb'
    have own : ∀ oj dj vj, l[i]? = some oj → oj.dst = some dj → (a.put o.dst v).tmps[dj]? = some vj → kA A K (updS (stg (S ++ A) L) i) dj vj = some b → K d v = some b := fun oj dj vj hj hdj hvj hb => by
     rw [hol] at hj
     cases hj
     rw [hd] at hdj
     cases hdj
     rw [hd, put_get_eq _ _ hdN] at hvj
     cases hvj
     exact kA_le hb
    by_cases e1 : i = j1
    ·subst e1
     exact clash j2 o2 d2 v2 hne h2 hd2 hL2 hv2 hb2 (own o1 d1 v1 h1 hd1 hv1 hb1)
    ·by_cases e2 : i = j2
     ·subst e2
      exact clash j1 o1 d1 v1 e1 h1 hd1 hL1 hv1 hb1 (own o2 d2 v2 h2 hd2 hv2 hb2)
     ·rw [hset, if_neg e1] at hL1
      rw [hset, if_neg e2] at hL2
      rw [hget j1 o1 d1 e1 h1 hd1] at hv1
      rw [hget j2 o2 d2 e2 h2 hd2] at hv2
      exact I.dis j1 j2 o1 o2 d1 d2 v1 v2 b hne h1 h2 hd1 hd2 hL1 hL2 hv1 hv2 (kA_mono hb1) (kA_mono hb2)
   ·obtain ⟨ix, ox, jc, oc, hx1, hx2, hx3, hc1, hc2, hce, hrun⟩ := hC _ hdc
    have hxj : ix = j := dist_inj' l b1 ix j ox oj d2 hx1 hj hx2 hdj
    subst hxj
    rw [hx1] at hj
    cases hj
    have hLc : ix = i ∨ L.getD ix false = true := by
     rw [hset] at hLj
     by_cases e : i = ix
     ·exact .inl e.symm
     ·rw [if_neg e] at hLj
      exact .inr hLj
    have hjL : L.getD jc false = true := by
     rcases hLc with h | h
     ·subst h
      rw [hol] at hx1
      cases hx1
      obtain ⟨e, he, hb⟩ := Array.any_eq_true'.1 hce
      simp only [Bool.and_eq_true] at hb
      have := hall e he hb.1
      rwa [Nat.eq_of_beq_eq_true hb.2] at this
     ·exact I.clo ix oj hx1 h jc hce
    have hjc : i ≠ jc := fun e => by
     rw [← e, hLf] at hjL
     cases hjL
    rw [hget jc oc c hjc hc1 hc2]
    by_cases e : i = ix
    ·subst e
     rw [hol] at hx1
     cases hx1
     rw [hd] at hdj
     cases hdj
     obtain ⟨u, h1, _⟩ := I.val jc oc c hc1 hc2 hjL
     have h2 := hrun a w
     rw [hr, getD_of h1] at h2
     cases h2
     rw [hd, put_get_eq _ _ hdN, h1]
    ·rw [hget ix oj d2 e hx1 hdj]
     rcases hLc with h | h
     ·exact absurd h.symm e
     ·exact I.cpy d2 c ix oj hdc hx1 hdj h
  ·have hisf : isSt S i = false := by simpa using his
   have hiaf : isSt A i = false := by simpa using hia
   have hnz : isSt ((z, 0) :: S) i = false := by
    cases e : isSt ((z, 0) :: S) i with
    | false => rfl
    | true =>
     rcases isZ e with h | h
     ·exact absurd h hiz
     ·rw [hisf] at h; cases h
   have hsaf : isSt (S ++ A) i = false := by
    unfold isSt at hisf hiaf ⊢
    rw [List.any_append, hisf, hiaf]
    rfl
   obtain ⟨d, hd⟩ := (allButG_at _ l 0 b2 i o hol).2 (by rw [Nat.zero_add]; exact hnz)
   have hdm : d ∈ dsts l := List.mem_filterMap.2 ⟨o, hmem, hd⟩
   have hdN : d < a.tmps.size := by rw [I.siz]; exact isz d hdm
   have hsame : stg (S ++ A) (L.setIfInBounds i true) = stg (S ++ A) L := by
    funext s
    unfold stg
    by_cases e : s = i
    ·subst e
     rw [hsaf]
     rfl
    ·rw [hset, if_neg (Ne.symm e)]
   -- behind the operation
   have step : ∀ v w', Below w.heap.size w w' → meets (Φ (stg (S ++ A) L)) o.dst v w' → (∀ d b, o.dst = some d → K d v = some b → w.heap.size ≤ b) → (∀ c, (d, c) ∈ C → a.tmps[c]? = some v) → wpAny P .any l.toArray Q f (L.setIfInBounds i true) (a.put o.dst v) w' := fun v w' hb hv hfr hcp => by
    have hget : ∀ j oj dj, i ≠ j → l[j]? = some oj → oj.dst = some dj → (a.put o.dst v).tmps[dj]? = a.tmps[dj]? := fun j oj dj hij hj hdj => by
     have hne : d ≠ dj := fun e => hij (dist_inj' l b1 i j o oj d hol hj hd (by rw [e]; exact hdj))
     rw [hd, put_get_ne _ _ hne]
    refine ih _ _ _ hcnt ⟨I.bel.trans (hb.mono I.bel.size), by rw [put_def, I.dfr], by rw [put_size, I.siz], by simp [I.lsz], fun t ht => ?_, fun j oj dj hj hdj hLj => ?_, hzno, hclo, fun j1 j2 o1 o2 d1 d2 v1 v2 b hne h1 h2 hd1 hd2 hL1 hL2 hv1 hv2 hb1 => ?_, fun d2 c j oj hdc hj hdj hLj => ?_⟩
    ·have hne : d ≠ t := fun e => ht (e ▸ hdm)
     rw [hd, put_get_ne _ _ hne]
     exact I.old t ht
    ·rw [hsame]
     by_cases hij : i = j
     ·subst hij
      rw [hol] at hj
      have e := Option.some.inj hj
      subst e
      rw [hd] at hdj
      have e := Option.some.inj hdj
      subst e
      rw [hd] at hv ⊢
      exact ⟨v, put_get_eq _ _ hdN, hv⟩
     ·rw [hset, if_neg hij] at hLj
      obtain ⟨u, h1, h2⟩ := I.val j oj dj hj hdj hLj
      exact ⟨u, by rw [hget j oj dj hij hj hdj]; exact h1, hΦ _ _ _ _ _ hb h2⟩
    ·-- the new value against an elder one
     have hold : ∀ j oj dj vj b, i ≠ j → l[j]? = some oj → oj.dst = some dj → (L.setIfInBounds i true).getD j false = true → (a.put o.dst v).tmps[dj]? = some vj → kA A K (stg (S ++ A) L) dj vj = some b → b < w.heap.size := fun j oj dj vj b hij hj hdj hLj hvj hb => by
      rw [hset, if_neg hij] at hLj
      obtain ⟨u, h1, h2⟩ := I.val j oj dj hj hdj hLj
      rw [hget j oj dj hij hj hdj, h1] at hvj
      cases hvj
      exact hK _ _ _ _ _ h2 hb
     have hnew : ∀ oj dj vj b, l[i]? = some oj → oj.dst = some dj → (a.put o.dst v).tmps[dj]? = some vj → kA A K (stg (S ++ A) L) dj vj = some b → w.heap.size ≤ b := fun oj dj vj b hj hdj hvj hb => by
      rw [hol] at hj
      cases hj
      have hd0 := hdj
      rw [hd] at hdj
      cases hdj
      rw [hd, put_get_eq _ _ hdN] at hvj
      cases hvj
      exact hfr _ _ hd0 (kA_le hb)
     rw [hsame] at hb1 ⊢
     intro hb2
     by_cases e1 : i = j1
     ·subst e1
      have := hnew o1 d1 v1 b h1 hd1 hv1 hb1
      have := hold j2 o2 d2 v2 b hne h2 hd2 hL2 hv2 hb2
      omega
     ·by_cases e2 : i = j2
      ·subst e2
       have := hnew o2 d2 v2 b h2 hd2 hv2 hb2
       have := hold j1 o1 d1 v1 b e1 h1 hd1 hL1 hv1 hb1
       omega
      ·rw [hset, if_neg e1] at hL1
       rw [hset, if_neg e2] at hL2
       rw [hget j1 o1 d1 e1 h1 hd1] at hv1
       rw [hget j2 o2 d2 e2 h2 hd2] at hv2
       exact I.dis j1 j2 o1 o2 d1 d2 v1 v2 b hne h1 h2 hd1 hd2 hL1 hL2 hv1 hv2 hb1 hb2
    ·obtain ⟨ix, ox, jc, oc, hx1, hx2, hx3, hc1, hc2, hce, _⟩ := hC _ hdc
     have hxj : ix = j := dist_inj' l b1 ix j ox oj d2 hx1 hj hx2 hdj
     subst hxj
     rw [hx1] at hj
     cases hj
     have hLc : ix = i ∨ L.getD ix false = true := by
      rw [hset] at hLj
      by_cases e : i = ix
      ·exact .inl e.symm
      ·rw [if_neg e] at hLj
       exact .inr hLj
     have hjc : i ≠ jc := fun e => by
      subst e
      rcases hLc with rfl | h
      ·rw [hol] at hx1
       cases hx1
       obtain ⟨e, he, hb⟩ := Array.any_eq_true'.1 hce
       simp only [Bool.and_eq_true] at hb
       have := hall e he hb.1
       rw [Nat.eq_of_beq_eq_true hb.2, hLf] at this
       cases this
      ·have := I.clo ix oj hx1 h i hce
       rw [hLf] at this
       cases this
     rw [hget jc oc c hjc hc1 hc2]
     by_cases e : i = ix
     ·subst e
      rw [hol] at hx1
      cases hx1
      rw [hd] at hdj
      cases hdj
      rw [hd, put_get_eq _ _ hdN, hcp c hdc]
     ·rw [hget ix oj d2 e hx1 hdj]
      rcases hLc with h | h
      ·exact absurd h.symm e
      ·exact I.cpy d2 c ix oj hdc hx1 hdj h
   have hear : ∀ s os, stg (S ++ A) L s = true → l[s]? = some os → earlyB os i = false := fun s os hs hos => by
    cases he : earlyB os i with
    | false => rfl
    | true =>
     unfold stg at hs
     simp only [Bool.and_eq_true] at hs
     have := I.clo s os hos hs.2 i he
     rw [hLf] at this
     cases this
   have hob := hO i o (stg (S ++ A) L) hol hisf hiaf hiz hear a ⟨w, I.bel⟩ hlook
   unfold wpOp
   simp only [ho]
   by_cases hw : Region.wanted o (yielded l.toArray a.tmps) = true
   ·rw [if_pos hw] at hob ⊢
    refine .inl ?_
    unfold Oper.wp
    have hcv : ∀ c, (d, c) ∈ C → (execOp a.eval o).run P w = .ok (.value (a.tmps.getD c undef)) w ∧ ∃ u, a.tmps[c]? = some u := fun c hdc => by
     obtain ⟨ix, ox, jc, oc, hx1, hx2, hx3, hc1, hc2, hce, hrun⟩ := hC _ hdc
     have hxj : ix = i := dist_inj' l b1 ix i ox o d hx1 hol hx2 hd
     subst hxj
     rw [hol] at hx1
     cases hx1
     refine ⟨hrun a w, ?_⟩
     have hLj : L.getD jc false = true := by
      obtain ⟨e, he, hb⟩ := Array.any_eq_true'.1 hce
      simp only [Bool.and_eq_true] at hb
      have := hall e he hb.1
      rwa [Nat.eq_of_beq_eq_true hb.2] at this
     obtain ⟨u, h1, _⟩ := I.val jc oc c hc1 hc2 hLj
     exact ⟨u, h1⟩
    generalize hr : (execOp a.eval o).run P w = r at hob hcv
    cases r with
    | ok n w' =>
     cases n with
     | value u =>
      rw [Oper.upon_value]
      refine step u w' hob.1 hob.2.1 hob.2.2 (fun c hdc => ?_)
      obtain ⟨h1, u', h2⟩ := hcv c hdc
      rw [getD_of h2] at h1
      cases h1
      exact h2
     | enter f args =>
      obtain ⟨rfl, hc⟩ := hob
      rw [Oper.upon_enter]
      refine hc.mono ?_
      rintro e w'' ⟨v, rfl, hb, hv⟩
      exact step v w'' hb hv.1 hv.2 (fun c hdc => by have := (hcv c hdc).1; cases this)
     | _ => exact hob.elim
    | _ => exact hob.elim
   ·rw [if_neg hw] at hob ⊢
    exact step undef w (Below.refl _ _) hob.1 (fun d b hd hb => by rw [hob.2 d hd] at hb; cases hb) (fun c hdc => by
     obtain ⟨ix, ox, jc, oc, hx1, hx2, hx3, _⟩ := hC _ hdc
     have hxj : ix = i := dist_inj' l b1 ix i ox o d hx1 hol hx2 hd
     subst hxj
     rw [hol] at hx1
     cases hx1
     exact absurd (by unfold Region.wanted; rw [hx3]) hw)


theorem region_pred_h {id : Nat} {Q : Exit → Act → World → Prop} {a0 : Act} {w : World} {l : List Oper} (Φ : (Nat → Bool) → Tmp → Value → World → Prop) (K : Tmp → Value → Option Nat) (S A : List (Nat × Tmp)) (z : Nat) (C : List (Tmp × Tmp)) (hm : P.follows .mixedOrders = true) (hB : predHB l S A z a0.tmps.size = true) (hC : ∀ x ∈ C, CpyB P l x.1 x.2)
  (hΦ : ∀ σ t v w1 w2, Below w1.heap.size w1 w2 → Φ σ t v w1 → Φ σ t v w2)
  (hK : ∀ σ t v w b, Φ σ t v w → kA A K σ t v = some b → b < w.heap.size)
  (hO : eachS (fun i o => isSt S i = false → isSt A i = false → i ≠ z → ∀ σ, (∀ s os, σ s = true → l[s]? = some os → earlyB os i = false) → OblG P l.toArray (dsts l) a0 w (Φ σ) K o) 0 l)
  (hS : ∀ i p os, (i, p) ∈ S → l[i]? = some os → OblU P (dsts l) a0 w Φ A K i p os)
  (hA : ∀ i p os, (i, p) ∈ A → l[i]? = some os → OblA P (dsts l) a0 w Φ A K i p os)
  (k : ∀ w', Below w.heap.size w w' → finP (Φ (isSt (S ++ A))) w' (fun a => disA (dsts l) (kA A K (isSt (S ++ A))) a → (∀ x ∈ C, a.tmps[x.1]? = a.tmps[x.2]?) → endQ P Q l z a w') (dsts l) a0) :
  (Code.region id l.toArray true).wp P Q a0 w := by
 refine wp_region_any hm ?_
 have k := fun (a : Act) (g : Grown w) h1 h2 h3 h4 => finP_ok (Φ := Φ (isSt (S ++ A))) (w := g.w) (K := fun a => disA (dsts l) (kA A K (isSt (S ++ A))) a → (∀ x ∈ C, a.tmps[x.1]? = a.tmps[x.2]?) → endQ P Q l z a g.w) (a := a) (dsts l) a0 (Eq.symm h1) (Eq.symm h2) h4 h3 (k g.w g.h)
 have h0 : cnt l.length (Array.replicate l.toArray.size false) = l.toArray.size := by
  unfold cnt
  simp only [List.size_toArray]
  rw [List.countP_eq_length.2]
  ·simp
  ·intro i hi
   have := List.mem_range.1 hi
   simp [this]
 have hno : ∀ i o, l[i]? = some o → (Array.replicate l.toArray.size false).getD i false = true → False := fun i o hi hL => by
  have : i < l.length := (List.getElem?_eq_some_iff.1 hi).1
  simp [this] at hL
 refine pred_h Φ K S A z C hB hC hΦ hK (fun i o σ hi his hia hiz hσ => by have := eachS_at 0 hO i o hi; rw [Nat.zero_add] at this; exact this his hia hiz σ hσ) hS hA k _ _ _ _ h0 ⟨⟨rfl, rfl, rfl, Nat.le_refl _, fun _ _ => rfl⟩, rfl, rfl, by simp, fun _ _ => rfl, fun i o d hi hd hL => (hno i o hi hL).elim, fun h => by simp [h], fun j oj hj hL => (hno j oj hj hL).elim, fun i j oi oj di dj vi vj b _ hi _ _ _ hL => (hno i oi hi hL).elim, fun d c i o _ hi _ hL => (hno i o hi hL).elim⟩
end
end Go.Proofs.Ytajddejeglhbhaa
