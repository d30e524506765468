/-
 Pred PredS PredL
-/
import Derived.Test.YtdfdpghdjlgghaaGreatKda
import Derived.KernelRfl
namespace Go.Proofs.YtdfdpghdjlgghaaGreat
open Go.RowKit
set_option linter.unusedVariables false
set_option linter.unusedSimpArgs false
section
variable {P:Program}
def distB:List Tmp→Bool
 | []=>true
 | d :: r=>!(r.contains d) && distB r
def allDst (l:List Oper):Bool:=l.all fun o=>o.dst.isSome
def waitB (ops:Array Oper) (ds:List Tmp) (l:List Oper):Bool:=l.all fun o=>(o.looksAt ops).all fun t=>!(ds.contains t) || o.after.any fun e=>Region.binds .any e && (match ops[e.on]? with | some oj=>oj.dst == some t | none=>false)
def leadB:Nat→List Oper→Bool
 | _,[]=>true
 | i,o :: r=>o.after.all (fun e=>!Region.binds .any e || decide (e.on < i)) && leadB (i+1) r
def noSel (l:List Oper):Bool:=l.all fun o=>match o.op with | .select _ _=>false | _=>true
def predB (l:List Oper) (N:Nat):Bool:=distB (dsts l) && allDst l && waitB l.toArray (dsts l) l && leadB 0 l && noSel l && sizeB l N

def uponP (P:Program) (w:World) (K:Value→World→Prop):Result Next→Prop
 | .ok (.value u) w'=>Below w.heap.size w w'∧K u w'
 | .ok (.enter f args) w'=>w' = w∧Calls P f args w (fun e w''=>∃ v,e = .returned v∧Below w.heap.size w w''∧K v w'')
 | _=>False
def inL (t:Tmp):List Tmp→Bool
 | []=>false
 | d :: r=>if Nat.beq d t then true else inL t r
theorem inL_iff (t:Tmp):∀ ds:List Tmp,inL t ds = true ↔ t ∈ ds
 | []=>by simp [inL]
 | d :: r=>by
  have:=inL_iff t r
  unfold inL
  by_cases h:Nat.beq d t = true
  ·rw [if_pos h]; have:=Nat.eq_of_beq_eq_true h; simp [this]
  ·rw [if_neg h,this]
   have hne:t ≠ d:=fun e=>h (by rw [e]; exact Nat.beq_refl d)
   simp [hne]
def seen (Φ:Tmp→Value→World→Prop) (ds:List Tmp) (a0 a:Act) (w:World) (t:Tmp):Prop:=if inL t ds = true then ∃ v,a.tmps[t]? = some v∧Φ t v w else a.tmps[t]? = a0.tmps[t]?
def seenAll (Φ:Tmp→Value→World→Prop) (ds:List Tmp) (a0 a:Act) (w:World):List Tmp→Prop
 | []=>True
 | t :: r=>seen Φ ds a0 a w t∧seenAll Φ ds a0 a w r
theorem seenAll_of {Φ:Tmp→Value→World→Prop} {ds:List Tmp} {a0 a:Act} {w:World}:∀ (ts:List Tmp),(∀ t ∈ ts,seen Φ ds a0 a w t)→seenAll Φ ds a0 a w ts
 | [],_=>trivial
 | t :: r,h=>⟨h t List.mem_cons_self,seenAll_of r fun x hx=>h x (List.mem_cons_of_mem _ hx)⟩
def meets (Φ:Tmp→Value→World→Prop) (d:Option Tmp) (v:Value) (w:World):Prop:=match d with | some d=>Φ d v w | none=>True
def Obl (P:Program) (ops:Array Oper) (ds:List Tmp) (a0:Act) (w0:World) (Φ:Tmp→Value→World→Prop) (o:Oper):Prop :=
 ∀ (a:Act) (g:Grown w0),seenAll Φ ds a0 a g.w (o.looksAt ops) →
  if Region.wanted o (yielded ops a.tmps) = true then uponP P g.w (meets Φ o.dst) ((execOp a.eval o).run P g.w) else meets Φ o.dst undef g.w
def eachO (p:Oper→Prop):List Oper→Prop
 | []=>True
 | o :: r=>p o∧eachO p r
theorem eachO_at {p:Oper→Prop}:∀ {l:List Oper},eachO p l→∀ o ∈ l,p o
 | [],_,_,h=>by cases h
 | x :: r,h,o,ho=>by
  rcases List.mem_cons.1 ho with rfl | ho
  ·exact h.1
  ·exact eachO_at h.2 o ho

structure PInv (Φ:Tmp→Value→World→Prop) (w0:World) (a0:Act) (l:List Oper) (L:Array Bool) (a:Act) (w:World):Prop where
 bel:Below w0.heap.size w0 w
 dfr:a.defers = a0.defers
 siz:a.tmps.size = a0.tmps.size
 lsz:L.size = l.length
 old:∀ t,t ∉ dsts l→a.tmps[t]? = a0.tmps[t]?
 val:∀ (i:Nat) (o:Oper) (d:Tmp),l[i]? = some o→o.dst = some d→L.getD i false = true→∃ v,a.tmps[d]? = some v∧Φ d v w

theorem dist_inj:∀ (l:List Oper),distB (dsts l) = true→allDst l = true→∀ (i j:Nat) (o o':Oper) (d:Tmp),l[i]? = some o→l[j]? = some o'→o.dst = some d→o'.dst = some d→i = j
 | [],_,_,i,_,o,_,_,h,_,_,_=>by simp at h
 | o0 :: rest,hk,ha,i,j,o,o',d,hi,hj,hd,hd'=>by
  simp only [allDst,List.all_cons,Bool.and_eq_true] at ha
  obtain ⟨ha0,har⟩:=ha
  cases h0:o0.dst with
  | none=>rw [h0] at ha0; cases ha0
  | some d0 =>
   have hds:dsts (o0 :: rest) = d0 :: dsts rest:=by simp [dsts,h0]
   rw [hds] at hk
   simp only [distB,Bool.and_eq_true] at hk
   obtain ⟨h1,hr⟩:=hk
   have no:∀ (k:Nat) (x:Oper),rest[k]? = some x→o0.dst = some d→x.dst = some d→False:=fun k x hx hz hxd=>by
    rw [h0] at hz
    have e:=Option.some.inj hz
    subst e
    have:d0 ∉ dsts rest:=by simpa using h1
    exact this (List.mem_filterMap.2 ⟨x,List.mem_of_getElem? hx,hxd⟩)
   match i,j,hi,hj with
   | 0,0,_,_=>rfl
   | 0,j+1,hi,hj =>
    simp at hi hj
    subst hi
    exact (no j o' hj hd hd').elim
   | i+1,0,hi,hj =>
    simp at hi hj
    subst hj
    exact (no i o hi hd' hd).elim
   | i+1,j+1,hi,hj =>
    simp at hi hj
    exact congrArg (· + 1) (dist_inj rest hr har i j o o' d hi hj hd hd')

theorem leadB_at:∀ (l:List Oper) (k:Nat),leadB k l = true→∀ (i:Nat) (o:Oper),l[i]? = some o→∀ e ∈ o.after,Region.binds .any e = true→e.on < k+i
 | [],_,_,i,o,h,_,_,_=>by simp at h
 | o0 :: rest,k,hk,i,o,hi,e,he,hb=>by
  simp only [leadB,Bool.and_eq_true] at hk
  match i,hi with
  | 0,hi =>
   simp at hi
   subst hi
   have:=(Array.all_eq_true'.1 hk.1) e he
   simpa [hb] using this
  | i+1,hi =>
   have:=leadB_at rest (k+1) hk.2 i o (by simpa using hi) e he hb
   omega

theorem pred_any {l:List Oper} {a0:Act} {w0:World} {Q:Exit→Act→World→Prop} (Φ:Tmp→Value→World→Prop) (hB:predB l a0.tmps.size = true)
  (hΦ:∀ t v w1 w2,Below w1.heap.size w1 w2→Φ t v w1→Φ t v w2)
  (hO:∀ o ∈ l,Obl P l.toArray (dsts l) a0 w0 Φ o)
  (k:∀ (a:Act) (g:Grown w0),a.defers = a0.defers→a.tmps.size = a0.tmps.size→(∀ t,t ∉ dsts l→a.tmps[t]? = a0.tmps[t]?)→(∀ d ∈ dsts l,∃ v,a.tmps[d]? = some v∧Φ d v g.w)→Q .normal a g.w) :
  ∀ (f:Nat) (L:Array Bool) (a:Act) (w:World),cnt l.length L = f→PInv Φ w0 a0 l L a w→wpAny P .any l.toArray Q f L a w:=by
 simp only [predB,Bool.and_eq_true] at hB
 obtain ⟨⟨⟨⟨⟨b1,b2⟩,b3⟩,b4⟩,b5⟩,b6⟩:=hB
 have isz:∀ d ∈ dsts l,d < a0.tmps.size:=fun d hd=>by
  have:=List.all_eq_true.1 b6 d hd
  simpa using this
 have listedAll:∀ (L:Array Bool),L.size = l.length→cnt l.length L = 0→∀ i,i < l.length→L.getD i false = true:=fun L hs h0 i hi=>by
  unfold cnt at h0
  have:=List.countP_eq_zero.1 h0 i (List.mem_range.2 hi)
  have hs':i < L.size:=by omega
  simp [hs'] at this ⊢
  exact this
 have fin:∀ (L:Array Bool) (a:Act) (w:World),cnt l.length L = 0→PInv Φ w0 a0 l L a w→Q .normal a w:=fun L a w hc I=>by
  refine k a ⟨w,I.bel⟩ I.dfr I.siz I.old fun d hd=>?_
  obtain ⟨o,ho,hdo⟩:=List.mem_filterMap.1 hd
  obtain ⟨i,hi⟩:=List.getElem?_of_mem ho
  exact I.val i o d hi hdo (listedAll L I.lsz hc i (List.getElem?_eq_some_iff.1 hi).1)
 intro f
 induction f with
 | zero =>
  intro L a w hc I
  refine ⟨?_,fin L a w hc I⟩
  cases hr:Region.ready .any l.toArray L with
  | nil=>rfl
  | cons i r =>
   have hi:i ∈ Region.ready .any l.toArray L:=by rw [hr]; exact List.mem_cons_self
   obtain ⟨hun,o,ho,_⟩:=mem_ready.1 hi
   have hin:i < l.length:=by
    have:=(Array.getElem?_eq_some_iff.1 ho).1
    simpa using this
   have:=listedAll L I.lsz hc i hin
   rw [getD_both hun] at this
   cases this
 | succ f ih =>
  intro L a w hc I
  have hex:∃ i,i < l.length∧L.getD i true = false:=by
   by_cases h:∃ i,i < l.length∧L.getD i true = false
   ·exact h
   ·exfalso
    have:cnt l.length L = 0:=by
     unfold cnt
     refine List.countP_eq_zero.2 fun i hi=>?_
     have hin:=List.mem_range.1 hi
     cases hh:L.getD i true with
     | true=>simp
     | false=>exact absurd ⟨i,hin,hh⟩ h
    omega
  obtain ⟨i0,hi0,hu0⟩:=hex
  have hne:Region.ready .any l.toArray L ≠ []:=fun h0=>by
   have all:∀ i,i < l.length→L.getD i false = true:=fun i=>by
    induction i using Nat.strongRecOn with
    | _ i ihh =>
     intro hi
     cases hh:L.getD i false with
     | true=>rfl
     | false =>
      exfalso
      have hs:i < L.size:=by rw [I.lsz]; exact hi
      have hmem:i ∈ Region.ready .any l.toArray L:=mem_ready.2 ⟨getD_in hs hh,l[i],by simp [hi],fun ed hed hb=>by
       have:=leadB_at l 0 b4 i l[i] (by simp [hi]) ed hed hb
       exact ihh ed.on (by omega) (by omega)⟩
      rw [h0] at hmem
      cases hmem
   have:=all i0 hi0
   rw [getD_both hu0] at this
   cases this
  refine ⟨fun h0=>absurd h0 hne,fun i hi=>?_⟩
  obtain ⟨hun,o,ho,hall⟩:=mem_ready.1 hi
  have hol:l[i]? = some o:=by simpa using ho
  have hin:i < l.length:=(List.getElem?_eq_some_iff.1 hol).1
  have hmem:o ∈ l:=List.mem_of_getElem? hol
  obtain ⟨d,hd⟩:∃ d,o.dst = some d:=by
   have:=List.all_eq_true.1 b2 o hmem
   exact Option.isSome_iff_exists.1 this
  have hdm:d ∈ dsts l:=List.mem_filterMap.2 ⟨o,hmem,hd⟩
  have hdN:d < a.tmps.size:=by rw [I.siz]; exact isz d hdm
  have hsL:i < L.size:=by rw [I.lsz]; exact hin
  have hcnt:cnt l.length (L.setIfInBounds i true) = f:=by
   have:=cnt_set (fun k=>!L.getD k true) (fun k=>!(L.setIfInBounds i true).getD k true) i (by show (!L.getD i true) = true; rw [hun]; rfl) (by simp [Array.getD_eq_getD_getElem?,hsL]) (fun j hj=>by
    simp only [Array.getD_eq_getD_getElem?,Array.getElem?_setIfInBounds_ne (Ne.symm hj)]) l.length
   rw [if_pos hin] at this
   unfold cnt at *
   omega
  have hset:∀ k,(L.setIfInBounds i true).getD k false = if i = k then true else L.getD k false:=fun k=>by
   by_cases hik:i = k
   ·subst hik
    rw [if_pos rfl]
    simp [Array.getD_eq_getD_getElem?,hsL]
   ·rw [if_neg hik]
    simp [Array.getD_eq_getD_getElem?,Array.getElem?_setIfInBounds_ne hik]
  -- behind the operation
  have step:∀ v w',Below w.heap.size w w'→meets Φ o.dst v w'→wpAny P .any l.toArray Q f (L.setIfInBounds i true) (a.put o.dst v) w':=fun v w' hb hv=>by
   refine ih _ _ _ hcnt ⟨I.bel.trans (hb.mono I.bel.size),by rw [put_def,I.dfr],by rw [put_size,I.siz],by simp [I.lsz],fun t ht=>?_,fun j oj dj hj hdj hLj=>?_⟩
   ·have hne:d ≠ t:=fun e=>ht (e ▸ hdm)
    rw [hd,put_get_ne _ _ hne]
    exact I.old t ht
   ·by_cases hij:i = j
    ·subst hij
     rw [hol] at hj
     have e:=Option.some.inj hj
     subst e
     rw [hd] at hdj
     have e:=Option.some.inj hdj
     subst e
     rw [hd] at hv ⊢
     exact ⟨v,put_get_eq _ _ hdN,hv⟩
    ·rw [hset,if_neg hij] at hLj
     obtain ⟨u,h1,h2⟩:=I.val j oj dj hj hdj hLj
     have hne:d ≠ dj:=fun e=>hij (dist_inj l b1 b2 i j o oj d hol hj hd (by rw [e]; exact hdj))
     exact ⟨u,by rw [hd,put_get_ne _ _ hne]; exact h1,hΦ _ _ _ _ hb h2⟩
  have hlook:seenAll Φ (dsts l) a0 a w (o.looksAt l.toArray):=seenAll_of _ fun t ht=>by
   unfold seen
   by_cases hin':inL t (dsts l) = true
   ·rw [if_pos hin']
    have hmt:=(inL_iff t _).1 hin'
    have h1:=List.all_eq_true.1 (List.all_eq_true.1 b3 o hmem) t ht
    simp only [Bool.or_eq_true,Bool.not_eq_true'] at h1
    rcases h1 with h1 | h1
    ·have:=(List.contains_iff_mem).2 hmt
     rw [h1] at this
     cases this
    ·obtain ⟨e,he,hb⟩:=Array.any_eq_true'.1 h1
     simp only [Bool.and_eq_true] at hb
     obtain ⟨hb1,hb2⟩:=hb
     have hlis:=hall e he hb1
     cases hoj:l.toArray[e.on]? with
     | none=>rw [hoj] at hb2; cases hb2
     | some oj =>
      rw [hoj] at hb2
      simp only [beq_iff_eq] at hb2
      exact I.val e.on oj t (by simpa using hoj) hb2 hlis
   ·rw [if_neg hin']
    exact I.old t fun h=>hin' ((inL_iff t _).2 h)
  have hob:=hO o hmem a ⟨w,I.bel⟩ hlook
  unfold wpOp
  simp only [ho]
  by_cases hw:Region.wanted o (yielded l.toArray a.tmps) = true
  ·rw [if_pos hw] at hob ⊢
   refine .inl ?_
   unfold Oper.wp
   generalize hr:(execOp a.eval o).run P w = r at hob
   cases r with
   | ok n w' =>
    cases n with
    | value u =>
     rw [Oper.upon_value]
     exact step u w' hob.1 hob.2
    | enter f args =>
     obtain ⟨rfl,hc⟩:=hob
     rw [Oper.upon_enter]
     refine hc.mono ?_
     rintro e w'' ⟨v,rfl,hb,hv⟩
     exact step v w'' hb hv
    | _=>exact hob.elim
   | _=>exact hob.elim
  ·rw [if_neg hw] at hob ⊢
   exact step undef w (Below.refl _ _) hob

theorem ob_plain {ops:Array Oper} {ds:List Tmp} {a0:Act} {w0:World} {Φ:Tmp→Value→World→Prop} {o:Oper} (ts:List Tmp) (hg:o.guard = none) (ht:o.looksAt #[] = ts)
  (h:∀ (a:Act) (g:Grown w0),seenAll Φ ds a0 a g.w ts→uponP P g.w (meets Φ o.dst) ((execOp a.eval o).run P g.w)):Obl P ops ds a0 w0 Φ o:=fun a g hs=>by
 have hw:Region.wanted o (yielded ops a.tmps) = true:=by
  unfold Region.wanted
  rw [hg]
 rw [if_pos hw]
 refine h a g ?_
 rw [looks_none o (by rw [hg]; rfl),ht] at hs
 exact hs
theorem ob_guard {ops:Array Oper} {ds:List Tmp} {a0:Act} {w0:World} {Φ:Tmp→Value→World→Prop} {o:Oper} (ts:List Tmp) (j:Nat) (want:Bool) (u:Tmp) (hg:o.guard = some (j,want)) (hj:((ops[j]?).bind (·.dst)) = some u) (ht:o.looksAt #[] = ts)
  (h:∀ (a:Act) (g:Grown w0),seenAll Φ ds a0 a g.w ts→seen Φ ds a0 a g.w u→(a.tmps[u]? = some (.bool want)→uponP P g.w (meets Φ o.dst) ((execOp a.eval o).run P g.w))∧(¬ a.tmps[u]? = some (.bool want)→meets Φ o.dst undef g.w)):Obl P ops ds a0 w0 Φ o:=fun a g hs=>by
 have hl:o.looksAt ops = ts ++ [u]:=by
  unfold Oper.looksAt at *
  rw [hg]
  simp only [hj,Option.toList]
  rw [← ht,hg]
  simp
 rw [hl] at hs
 have split:∀ (l:List Tmp),seenAll Φ ds a0 a g.w (l ++ [u])→seenAll Φ ds a0 a g.w l∧seen Φ ds a0 a g.w u:=fun l=>by
  induction l with
  | nil=>intro h; exact ⟨trivial,h.1⟩
  | cons t r ih=>intro h; exact ⟨⟨h.1,(ih h.2).1⟩,(ih h.2).2⟩
 obtain ⟨h1,h2⟩:=h a g (split ts hs).1 (split ts hs).2
 have hy:Region.wanted o (yielded ops a.tmps) = true ↔ a.tmps[u]? = some (.bool want):=by
  unfold Region.wanted yielded
  rw [hg]
  simp only [hj,Option.bind_some]
  cases hv:a.tmps[u]? with
  | none=>simp
  | some v=>cases v <;> simp
 by_cases hw:Region.wanted o (yielded ops a.tmps) = true
 ·rw [if_pos hw]
  exact h1 (hy.1 hw)
 ·rw [if_neg hw]
  exact h2 fun e=>hw (hy.2 e)
theorem seen_out {Φ:Tmp→Value→World→Prop} {ds:List Tmp} {a0 a:Act} {w:World} {t:Tmp} {v:Value} (h0:inL t ds = false) (hv:a0.tmps[t]? = some v) (h:seen Φ ds a0 a w t):a.tmps[t]? = some v:=by
 unfold seen at h
 rw [if_neg (by rw [h0]; exact Bool.false_ne_true)] at h
 rw [h,hv]
theorem seen_in {Φ:Tmp→Value→World→Prop} {ds:List Tmp} {a0 a:Act} {w:World} {t:Tmp} (h0:inL t ds = true) (h:seen Φ ds a0 a w t):∃ v,a.tmps[t]? = some v∧Φ t v w:=by
 unfold seen at h
 rw [if_pos h0] at h
 exact h

def lk:List (Tmp × (Value→World→Prop))→Tmp→Value→World→Prop
 | [],_=>fun _ _=>True
 | (d,S) :: r,t=>if Nat.beq d t = true then S else lk r t
def Steady (S:Value→World→Prop):Prop:=∀ v w1 w2,Below w1.heap.size w1 w2→S v w1→S v w2
def steadyAll:List (Tmp × (Value→World→Prop))→Prop
 | []=>True
 | (_,S) :: r=>Steady S∧steadyAll r
theorem lk_steady:∀ (l:List (Tmp × (Value→World→Prop))),steadyAll l→∀ t v w1 w2,Below w1.heap.size w1 w2→lk l t v w1→lk l t v w2
 | [],_,_,_,_,_,_,_=>trivial
 | (d,S) :: r,h,t,v,w1,w2,hb,hl=>by
  unfold lk at *
  by_cases hd:Nat.beq d t = true
  ·rw [if_pos hd] at *
   exact h.1 v w1 w2 hb hl
  ·rw [if_neg hd] at *
   exact lk_steady r h.2 t v w1 w2 hb hl
theorem steady_eq (u:Value):Steady (fun v _=>v = u):=fun _ _ _ _ h=>h
theorem getD_of {tmps:Array Value} {t:Tmp} {v:Value} (h:tmps[t]? = some v):tmps.getD t undef = v:=by simp [Array.getD_eq_getD_getElem?,h]

def finP (Φ:Tmp→Value→World→Prop) (w:World) (K:Act→Prop):List Tmp→Act→Prop
 | [],a=>K a
 | d :: r,a=>∀ v,Φ d v w→finP Φ w K r (a.put (some d) v)
theorem finP_ok {Φ:Tmp→Value→World→Prop} {w:World} {K:Act→Prop} {a:Act}:∀ (ds:List Tmp) (e:Act),e.defers = a.defers→e.tmps.size = a.tmps.size→(∀ d ∈ ds,∃ v,a.tmps[d]? = some v∧Φ d v w) →
  (∀ t,t ∉ ds→a.tmps[t]? = e.tmps[t]?)→finP Φ w K ds e→K a
 | [],e,h1,h2,_,h4,h=>by
  have:a = e:=act_ext h1.symm h2.symm fun t=>h4 t (by simp)
  rw [this]
  exact h
 | d :: r,e,h1,h2,h3,h4,h=>by
  obtain ⟨v,hv,hp⟩:=h3 d List.mem_cons_self
  have hd:d < e.tmps.size:=by rw [h2]; exact (Array.getElem?_eq_some_iff.1 hv).1
  refine finP_ok r (e.put (some d) v) (by rw [put_def,h1]) (by rw [put_size,h2]) (fun d' hd'=>h3 d' (List.mem_cons_of_mem _ hd')) (fun t ht=>?_) (h v hp)
  by_cases htd:d = t
  ·subst htd
   rw [put_get_eq _ _ hd,hv]
  ·rw [put_get_ne _ _ htd]
   exact h4 t (by simp only [List.mem_cons,not_or]; exact ⟨Ne.symm htd,ht⟩)

theorem region_pred {id:Nat} {Q:Exit→Act→World→Prop} {a0:Act} {w:World} {l:List Oper} (Φ:Tmp→Value→World→Prop) (hm:P.follows .mixedOrders = true) (hB:predB l a0.tmps.size = true)
  (hΦ:∀ t v w1 w2,Below w1.heap.size w1 w2→Φ t v w1→Φ t v w2)
  (hO:eachO (Obl P l.toArray (dsts l) a0 w Φ) l)
  (k:∀ w',Below w.heap.size w w'→finP Φ w' (fun a=>Q .normal a w') (dsts l) a0) :
  (Code.region id l.toArray true).wp P Q a0 w:=by
 refine wp_region_any hm ?_
 have k:=fun (a:Act) (g:Grown w) h1 h2 h3 h4=>finP_ok (Φ:=Φ) (w:=g.w) (K:=fun a=>Q .normal a g.w) (a:=a) (dsts l) a0 (Eq.symm h1) (Eq.symm h2) h4 h3 (k g.w g.h)
 have h0:cnt l.length (Array.replicate l.toArray.size false) = l.toArray.size:=by
  unfold cnt
  simp only [List.size_toArray]
  rw [List.countP_eq_length.2]
  ·simp
  ·intro i hi
   have:=List.mem_range.1 hi
   simp [this]
 refine pred_any Φ hB hΦ (eachO_at hO) k _ _ _ _ h0 ⟨⟨rfl,rfl,rfl,Nat.le_refl _,fun _ _=>rfl⟩,rfl,rfl,by simp,fun _ _=>rfl,fun i o d hi hd hL=>?_⟩
 exfalso
 have:i < l.length:=(List.getElem?_eq_some_iff.1 hi).1
 simp [this] at hL
end
end Go.Proofs.YtdfdpghdjlgghaaGreat
namespace Go.Proofs.YtdfdpghdjlgghaaGreat
open Go.RowKit
set_option linter.unusedVariables false
set_option linter.unusedSimpArgs false
section
variable {P:Program}
theorem dist_inj':∀ (l:List Oper),distB (dsts l) = true→∀ (i j:Nat) (o o':Oper) (d:Tmp),l[i]? = some o→l[j]? = some o'→o.dst = some d→o'.dst = some d→i = j
 | [],_,i,_,o,_,_,h,_,_,_=>by simp at h
 | o0 :: rest,hk,i,j,o,o',d,hi,hj,hd,hd'=>by
  cases h0:o0.dst with
  | none =>
   have hds:dsts (o0 :: rest) = dsts rest:=by simp [dsts,h0]
   rw [hds] at hk
   match i,j,hi,hj with
   | 0,_,hi,_ =>
    simp at hi
    subst hi
    rw [h0] at hd
    cases hd
   | _+1,0,_,hj =>
    simp at hj
    subst hj
    rw [h0] at hd'
    cases hd'
   | i+1,j+1,hi,hj =>
    simp at hi hj
    exact congrArg (· + 1) (dist_inj' rest hk i j o o' d hi hj hd hd')
  | some d0 =>
   have hds:dsts (o0 :: rest) = d0 :: dsts rest:=by simp [dsts,h0]
   rw [hds] at hk
   simp only [distB,Bool.and_eq_true] at hk
   obtain ⟨h1,hr⟩:=hk
   have no:∀ (k:Nat) (x:Oper),rest[k]? = some x→o0.dst = some d→x.dst = some d→False:=fun k x hx hz hxd=>by
    rw [h0] at hz
    have e:=Option.some.inj hz
    subst e
    have:d0 ∉ dsts rest:=by simpa using h1
    exact this (List.mem_filterMap.2 ⟨x,List.mem_of_getElem? hx,hxd⟩)
   match i,j,hi,hj with
   | 0,0,_,_=>rfl
   | 0,j+1,hi,hj =>
    simp at hi hj
    subst hi
    exact (no j o' hj hd hd').elim
   | i+1,0,hi,hj =>
    simp at hi hj
    subst hj
    exact (no i o hi hd' hd).elim
   | i+1,j+1,hi,hj =>
    simp at hi hj
    exact congrArg (· + 1) (dist_inj' rest hr i j o o' d hi hj hd hd')

def earlyB (os:Oper) (i:Nat):Bool:=os.after.any fun e=>Region.binds .any e && Nat.beq e.on i
def allBut:Nat→Nat→List Oper→Bool
 | _,_,[]=>true
 | s,i,o :: r=>(if Nat.beq i s then o.dst.isNone && o.guard.isNone else o.dst.isSome) && allBut s (i+1) r
theorem allBut_at:∀ (l:List Oper) (s k:Nat),allBut s k l = true→∀ (i:Nat) (o:Oper),l[i]? = some o→(k+i = s→o.dst = none∧o.guard = none)∧(k+i ≠ s→∃ d,o.dst = some d)
 | [],_,_,_,i,o,h=>by simp at h
 | o0 :: rest,s,k,hk,i,o,hi=>by
  simp only [allBut,Bool.and_eq_true] at hk
  match i,hi with
  | 0,hi =>
   simp at hi
   subst hi
   refine ⟨fun e=>?_,fun e=>?_⟩
   ·rw [if_pos (by rw [show k = s by omega]; exact Nat.beq_refl s)] at hk
    simpa using hk.1
   ·rw [if_neg (fun h=>e (by have:=Nat.eq_of_beq_eq_true h; omega))] at hk
    exact Option.isSome_iff_exists.1 hk.1
  | i+1,hi =>
   have:=allBut_at rest s (k+1) hk.2 i o (by simpa using hi)
   rw [show k+1+i = k+(i+1) by omega] at this
   exact this
def predSB (l:List Oper) (s N:Nat):Bool:=distB (dsts l) && allBut s 0 l && waitB l.toArray (dsts l) l && leadB 0 l && noSel l && sizeB l N

def eachS (p:Nat→Oper→Prop):Nat→List Oper→Prop
 | _,[]=>True
 | k,o :: r=>p k o∧eachS p (k+1) r
theorem eachS_at {p:Nat→Oper→Prop}:∀ {l:List Oper} (k:Nat),eachS p k l→∀ (i:Nat) (o:Oper),l[i]? = some o→p (k+i) o
 | [],_,_,i,o,h=>by simp at h
 | x :: r,k,h,i,o,ho=>by
  match i,ho with
  | 0,ho =>
   simp at ho
   subst ho
   exact h.1
  | i+1,ho =>
   have:=eachS_at (k+1) h.2 i o (by simpa using ho)
   rw [show k+1+i = k+(i+1) by omega] at this
   exact this
end
end Go.Proofs.YtdfdpghdjlgghaaGreat
namespace Go.Proofs.YtdfdpghdjlgghaaGreat
open Go.ChangeShapes Go.WideShapes Go.ChangeAt Go.RowKit
set_option linter.unusedVariables false
set_option linter.unusedSimpArgs false
set_option maxRecDepth 100000
section
variable {P:Program}
def lastB (l:List Oper) (s:Nat):Bool:=(List.range l.length).all fun i=>Nat.beq i s || l.any fun o=>earlyB o i
structure LInv (Φ:Tmp→Value→World→Prop) (s:Nat) (w0:World) (a0:Act) (l:List Oper) (L:Array Bool) (a:Act) (w:World):Prop where
 bel:Below w0.heap.size w0 w
 dfr:a.defers = a0.defers
 siz:a.tmps.size = a0.tmps.size
 lsz:L.size = l.length
 old:∀ t,t ∉ dsts l→a.tmps[t]? = a0.tmps[t]?
 val:∀ (i:Nat) (o:Oper) (d:Tmp),l[i]? = some o→o.dst = some d→L.getD i false = true→∃ v,a.tmps[d]? = some v∧Φ d v w
 sno:L.getD s false = false
 clo:∀ (j:Nat) (oj:Oper),l[j]? = some oj→L.getD j false = true→∀ i,earlyB oj i = true→L.getD i false = true
theorem pred_l {l:List Oper} {a0:Act} {w0:World} {Q:Exit→Act→World→Prop} (Φ:Tmp→Value→World→Prop) (s:Nat) (os:Oper) (hos:l[s]? = some os) (hB:predSB l s a0.tmps.size = true)
  (hLB:lastB l s = true)
  (hΦ:∀ t v w1 w2,Below w1.heap.size w1 w2→Φ t v w1→Φ t v w2)
  (hO:∀ i o,l[i]? = some o→i ≠ s→Obl P l.toArray (dsts l) a0 w0 Φ o)
  (k:∀ (a:Act) (g:Grown w0),a.defers = a0.defers→a.tmps.size = a0.tmps.size→(∀ t,t ∉ dsts l→a.tmps[t]? = a0.tmps[t]?)→(∀ d ∈ dsts l,∃ v,a.tmps[d]? = some v∧Φ d v g.w)→∃ w',(execOp a.eval os).run P g.w = .ok .skip w'∧Q .normal a w') :
  ∀ (f:Nat) (L:Array Bool) (a:Act) (w:World),cnt l.length L = f→LInv Φ s w0 a0 l L a w→wpAny P .any l.toArray Q f L a w:=by
 simp only [predSB,Bool.and_eq_true] at hB
 obtain ⟨⟨⟨⟨⟨b1,b2⟩,b3⟩,b4⟩,b5⟩,b6⟩:=hB
 have isz:∀ d ∈ dsts l,d < a0.tmps.size:=fun d hd=>by
  have:=List.all_eq_true.1 b6 d hd
  simpa using this
 have listedAll:∀ (L:Array Bool),L.size = l.length→cnt l.length L = 0→∀ i,i < l.length→L.getD i false = true:=fun L hs h0 i hi=>by
  unfold cnt at h0
  have:=List.countP_eq_zero.1 h0 i (List.mem_range.2 hi)
  have hs':i < L.size:=by omega
  simp [hs'] at this ⊢
  exact this
 intro f
 induction f with
 | zero =>
  intro L a w hc I
  exfalso
  have h1:=listedAll L I.lsz hc s (List.getElem?_eq_some_iff.1 hos).1
  rw [I.sno] at h1
  cases h1
 | succ f ih =>
  intro L a w hc I
  have hex:∃ i,i < l.length∧L.getD i true = false:=by
   by_cases h:∃ i,i < l.length∧L.getD i true = false
   ·exact h
   ·exfalso
    have:cnt l.length L = 0:=by
     unfold cnt
     refine List.countP_eq_zero.2 fun i hi=>?_
     have hin:=List.mem_range.1 hi
     cases hh:L.getD i true with
     | true=>simp
     | false=>exact absurd ⟨i,hin,hh⟩ h
    omega
  obtain ⟨i0,hi0,hu0⟩:=hex
  have hne:Region.ready .any l.toArray L ≠ []:=fun h0=>by
   have all:∀ i,i < l.length→L.getD i false = true:=fun i=>by
    induction i using Nat.strongRecOn with
    | _ i ihh =>
     intro hi
     cases hh:L.getD i false with
     | true=>rfl
     | false =>
      exfalso
      have hs:i < L.size:=by rw [I.lsz]; exact hi
      have hmem:i ∈ Region.ready .any l.toArray L:=mem_ready.2 ⟨getD_in hs hh,l[i],by simp [hi],fun ed hed hb=>by
       have:=leadB_at l 0 b4 i l[i] (by simp [hi]) ed hed hb
       exact ihh ed.on (by omega) (by omega)⟩
      rw [h0] at hmem
      cases hmem
   have:=all i0 hi0
   rw [getD_both hu0] at this
   cases this
  refine ⟨fun h0=>absurd h0 hne,fun i hi=>?_⟩
  obtain ⟨hun,o,ho,hall⟩:=mem_ready.1 hi
  have hol:l[i]? = some o:=by simpa using ho
  have hin:i < l.length:=(List.getElem?_eq_some_iff.1 hol).1
  have hmem:o ∈ l:=List.mem_of_getElem? hol
  have hsL:i < L.size:=by rw [I.lsz]; exact hin
  have hcnt:cnt l.length (L.setIfInBounds i true) = f:=by
   have:=cnt_set (fun k=>!L.getD k true) (fun k=>!(L.setIfInBounds i true).getD k true) i (by show (!L.getD i true) = true; rw [hun]; rfl) (by simp [Array.getD_eq_getD_getElem?,hsL]) (fun j hj=>by
    simp only [Array.getD_eq_getD_getElem?,Array.getElem?_setIfInBounds_ne (Ne.symm hj)]) l.length
   rw [if_pos hin] at this
   unfold cnt at *
   omega
  have hset:∀ k,(L.setIfInBounds i true).getD k false = if i = k then true else L.getD k false:=fun k=>by
   by_cases hik:i = k
   ·subst hik
    rw [if_pos rfl]
    simp [Array.getD_eq_getD_getElem?,hsL]
   ·rw [if_neg hik]
    simp [Array.getD_eq_getD_getElem?,Array.getElem?_setIfInBounds_ne hik]
  have hlook:seenAll (Φ) (dsts l) a0 a w (o.looksAt l.toArray):=seenAll_of _ fun t ht=>by
   unfold seen
   by_cases hin':inL t (dsts l) = true
   ·rw [if_pos hin']
    have hmt:=(inL_iff t _).1 hin'
    have h1:=List.all_eq_true.1 (List.all_eq_true.1 b3 o hmem) t ht
    simp only [Bool.or_eq_true,Bool.not_eq_true'] at h1
    rcases h1 with h1 | h1
    ·have:=(List.contains_iff_mem).2 hmt
     rw [h1] at this
     cases this
    ·obtain ⟨e,he,hb⟩:=Array.any_eq_true'.1 h1
     simp only [Bool.and_eq_true] at hb
     obtain ⟨hb1,hb2⟩:=hb
     have hlis:=hall e he hb1
     cases hoj:l.toArray[e.on]? with
     | none=>rw [hoj] at hb2; cases hb2
     | some oj =>
      rw [hoj] at hb2
      simp only [beq_iff_eq] at hb2
      exact I.val e.on oj t (by simpa using hoj) hb2 hlis
   ·rw [if_neg hin']
    exact I.old t fun h=>hin' ((inL_iff t _).2 h)
  by_cases his:i = s
  ·subst his
   obtain rfl:o = os:=by rw [hol] at hos; exact Option.some.inj hos
   have hoN:=(allBut_at l i 0 b2 i o hol).1 (by omega)
   have hoth:∀ (m j:Nat),l.length - j = m→j < l.length→j ≠ i→L.getD j false = true:=by
    intro m
    induction m using Nat.strongRecOn with
    | _ m ihm =>
     intro j hm hj hne
     have h1:=List.all_eq_true.1 hLB j (List.mem_range.2 hj)
     simp only [Bool.or_eq_true] at h1
     rcases h1 with h1 | h1
     ·exact absurd (Nat.eq_of_beq_eq_true h1) hne
     ·obtain ⟨ox,hox,he⟩:=List.any_eq_true.1 h1
      obtain ⟨x,hx⟩:=List.getElem?_of_mem hox
      have hxl:x < l.length:=(List.getElem?_eq_some_iff.1 hx).1
      obtain ⟨e,hem,hb⟩:=Array.any_eq_true'.1 he
      simp only [Bool.and_eq_true] at hb
      have hlt:=leadB_at l 0 b4 x ox hx e hem hb.1
      have hej:=Nat.eq_of_beq_eq_true hb.2
      by_cases hxi:x = i
      ·subst hxi
       obtain rfl:ox = o:=by rw [hol] at hx; exact (Option.some.inj hx).symm
       have:=hall e hem hb.1
       rwa [hej] at this
      ·exact I.clo x ox hx (ihm (l.length - x) (by omega) x rfl hxl hxi) j he
   have hL':∀ j,j < l.length→(L.setIfInBounds i true).getD j false = true:=fun j hj=>by
    rw [hset]
    by_cases e:i = j
    ·rw [if_pos e]
    ·rw [if_neg e]
     exact hoth _ j rfl hj (fun q=>e q.symm)
   have hf0:f = 0:=by
    rw [← hcnt]
    unfold cnt
    refine List.countP_eq_zero.2 fun j hj=>?_
    have hin:=List.mem_range.1 hj
    have h1:=hL' j hin
    cases hh:(L.setIfInBounds i true).getD j true with
    | true=>simp
    | false =>
     rw [getD_both hh] at h1
     cases h1
   obtain ⟨w',hr,hq⟩:=k a ⟨w,I.bel⟩ I.dfr I.siz I.old (fun d hd=>by
    obtain ⟨ox,hox,hdo⟩:=List.mem_filterMap.1 hd
    obtain ⟨x,hx⟩:=List.getElem?_of_mem hox
    have hxi:x ≠ i:=fun e=>by
     subst e
     rw [hol] at hx
     have e:=Option.some.inj hx
     subst e
     rw [hoN.1] at hdo
     cases hdo
    exact I.val x ox d hx hdo (hoth _ x rfl (List.getElem?_eq_some_iff.1 hx).1 hxi))
   have hw:Region.wanted o (yielded l.toArray a.tmps) = true:=by
    unfold Region.wanted
    rw [hoN.2]
   unfold wpOp
   simp only [ho]
   rw [if_pos hw]
   refine .inl ?_
   unfold Oper.wp
   rw [hr,Oper.upon_skip]
   have hput:a.put o.dst undef = a:=by rw [hoN.1]; rfl
   rw [hput]
   subst hf0
   refine ⟨?_,hq⟩
   cases hrd:Region.ready .any l.toArray (L.setIfInBounds i true) with
   | nil=>rfl
   | cons x r =>
    have hi:x ∈ Region.ready .any l.toArray (L.setIfInBounds i true):=by rw [hrd]; exact List.mem_cons_self
    obtain ⟨hun,ox,hox,_⟩:=mem_ready.1 hi
    have hin:x < l.length:=by
     have:=(Array.getElem?_eq_some_iff.1 hox).1
     simpa using this
    have:=hL' x hin
    rw [getD_both hun] at this
    cases this
  ·obtain ⟨d,hd⟩:=(allBut_at l s 0 b2 i o hol).2 (by omega)
   have hdm:d ∈ dsts l:=List.mem_filterMap.2 ⟨o,hmem,hd⟩
   have hdN:d < a.tmps.size:=by rw [I.siz]; exact isz d hdm
   -- behind the operation
   have step:∀ v w',Below w.heap.size w w'→meets (Φ) o.dst v w'→wpAny P .any l.toArray Q f (L.setIfInBounds i true) (a.put o.dst v) w':=fun v w' hb hv=>by
    refine ih _ _ _ hcnt ⟨I.bel.trans (hb.mono I.bel.size),by rw [put_def,I.dfr],by rw [put_size,I.siz],by simp [I.lsz],fun t ht=>?_,fun j oj dj hj hdj hLj=>?_,by rw [hset,if_neg his]; exact I.sno,fun j oj hj hLj x hej=>?_⟩
    ·have hne:d ≠ t:=fun e=>ht (e ▸ hdm)
     rw [hd,put_get_ne _ _ hne]
     exact I.old t ht
    ·by_cases hij:i = j
     ·subst hij
      rw [hol] at hj
      have e:=Option.some.inj hj
      subst e
      rw [hd] at hdj
      have e:=Option.some.inj hdj
      subst e
      rw [hd] at hv ⊢
      exact ⟨v,put_get_eq _ _ hdN,hv⟩
     ·rw [hset,if_neg hij] at hLj
      obtain ⟨u,h1,h2⟩:=I.val j oj dj hj hdj hLj
      have hne:d ≠ dj:=fun e=>hij (dist_inj' l b1 i j o oj d hol hj hd (by rw [e]; exact hdj))
      exact ⟨u,by rw [hd,put_get_ne _ _ hne]; exact h1,hΦ _ _ _ _ hb h2⟩
    ·rw [hset]
     by_cases hij:i = j
     ·subst hij
      rw [hol] at hj
      have e:=Option.some.inj hj
      subst e
      split
      ·rfl
      ·obtain ⟨e,he,hb⟩:=Array.any_eq_true'.1 hej
       simp only [Bool.and_eq_true] at hb
       have:=hall e he hb.1
       rwa [Nat.eq_of_beq_eq_true hb.2] at this
     ·rw [hset,if_neg hij] at hLj
      have:=I.clo j oj hj hLj x hej
      split
      ·rfl
      ·exact this
   have hob:=hO i o hol his a ⟨w,I.bel⟩ hlook
   unfold wpOp
   simp only [ho]
   by_cases hw:Region.wanted o (yielded l.toArray a.tmps) = true
   ·rw [if_pos hw] at hob ⊢
    refine .inl ?_
    unfold Oper.wp
    generalize hr:(execOp a.eval o).run P w = r at hob
    cases r with
    | ok n w' =>
     cases n with
     | value u =>
      rw [Oper.upon_value]
      exact step u w' hob.1 hob.2
     | enter f args =>
      obtain ⟨rfl,hc⟩:=hob
      rw [Oper.upon_enter]
      refine hc.mono ?_
      rintro e w'' ⟨v,rfl,hb,hv⟩
      exact step v w'' hb hv
     | _=>exact hob.elim
    | _=>exact hob.elim
   ·rw [if_neg hw] at hob ⊢
    exact step undef w (Below.refl _ _) hob


theorem region_pred_l {id:Nat} {Q:Exit→Act→World→Prop} {a0:Act} {w:World} {l:List Oper} (Φ:Tmp→Value→World→Prop) (s:Nat) (os:Oper) (hos:l[s]? = some os) (hm:P.follows .mixedOrders = true) (hB:predSB l s a0.tmps.size = true) (hLB:lastB l s = true)
  (hΦ:∀ t v w1 w2,Below w1.heap.size w1 w2→Φ t v w1→Φ t v w2)
  (hO:eachS (fun i o=>i ≠ s→Obl P l.toArray (dsts l) a0 w Φ o) 0 l)
  (k:∀ w',Below w.heap.size w w'→finP Φ w' (fun a=>∃ w'',(execOp a.eval os).run P w' = .ok .skip w''∧Q .normal a w'') (dsts l) a0) :
  (Code.region id l.toArray true).wp P Q a0 w:=by
 refine wp_region_any hm ?_
 have k:=fun (a:Act) (g:Grown w) h1 h2 h3 h4=>finP_ok (Φ:=Φ) (w:=g.w) (K:=fun a=>∃ w'',(execOp a.eval os).run P g.w = .ok .skip w''∧Q .normal a w'') (a:=a) (dsts l) a0 (Eq.symm h1) (Eq.symm h2) h4 h3 (k g.w g.h)
 have h0:cnt l.length (Array.replicate l.toArray.size false) = l.toArray.size:=by
  unfold cnt
  simp only [List.size_toArray]
  rw [List.countP_eq_length.2]
  ·simp
  ·intro i hi
   have:=List.mem_range.1 hi
   simp [this]
 refine pred_l Φ s os hos hB hLB hΦ (fun i o hi his=>by have:=eachS_at 0 hO i o hi; rw [Nat.zero_add] at this; exact this his) k _ _ _ _ h0 ⟨⟨rfl,rfl,rfl,Nat.le_refl _,fun _ _=>rfl⟩,rfl,rfl,by simp,fun _ _=>rfl,fun i o d hi hd hL=>?_,?_,fun j oj hj hL=>?_⟩
 ·exfalso
  have:i < l.length:=(List.getElem?_eq_some_iff.1 hi).1
  simp [this] at hL
 ·have:s < l.length:=(List.getElem?_eq_some_iff.1 hos).1
  simp [this]
 ·exfalso
  have:j < l.length:=(List.getElem?_eq_some_iff.1 hj).1
  simp [this] at hL
end
end Go.Proofs.YtdfdpghdjlgghaaGreat
