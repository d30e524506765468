/-
 PredM
-/
import Derived.Test.YtekjflfkbgklhaaGreatKcd
namespace Go.Proofs.YtekjflfkbgklhaaGreat
open Go.ChangeShapes Go.WideShapes Go.ChangeAt Go.RowKit
set_option linter.unusedVariables false
set_option linter.unusedSimpArgs false
set_option maxRecDepth 100000
section
variable {P:Program}
def PureOp (P:Program) (o:Oper):Prop:=∀ (e:Operand→Value) (w1 w2:World) (n:Next) (w':World),(execOp e o).run P w1 = .ok n w'→(∃ u,n = .value u)∧w' = w1∧(execOp e o).run P w2 = .ok n w2
def coverB (l:List Oper) (os:Oper) (s:Nat) (R:List Nat):Bool:=(List.range l.length).all fun i=>Nat.beq i s || earlyB os i || R.any (Nat.beq i)
structure MInv (P:Program) (Φ:Tmp→Value→World→Prop) (s:Nat) (os:Oper) (w0:World) (a0:Act) (l:List Oper) (L:Array Bool) (a:Act) (wv w:World):Prop where
 bel:Below w0.heap.size w0 wv
 dfr:a.defers = a0.defers
 siz:a.tmps.size = a0.tmps.size
 lsz:L.size = l.length
 old:∀ t,t ∉ dsts l→a.tmps[t]? = a0.tmps[t]?
 val:∀ (i:Nat) (o:Oper) (d:Tmp),l[i]? = some o→o.dst = some d→L.getD i false = true→∃ v,a.tmps[d]? = some v∧Φ d v wv
 run:(L.getD s false = false∧wv = w) ∨ (L.getD s false = true∧(execOp a.eval os).run P wv = .ok .skip w)
 clo:∀ (j:Nat) (oj:Oper),l[j]? = some oj→L.getD j false = true→∀ i,earlyB oj i = true→L.getD i false = true
theorem pred_m {l:List Oper} {a0:Act} {w0:World} {Q:Exit→Act→World→Prop} (Φ:Tmp→Value→World→Prop) (s:Nat) (os:Oper) (R:List Nat) (hos:l[s]? = some os) (hB:predSB l s a0.tmps.size = true)
  (hC:coverB l os s R = true) (hR:∀ i ∈ R,∀ o,l[i]? = some o→PureOp P o) (hE:∀ i ∈ R,∀ o,l[i]? = some o→∀ (a:Act) (v:Value),execOp (a.put o.dst v).eval os = execOp a.eval os)
  (hΦ:∀ t v w1 w2,Below w1.heap.size w1 w2→Φ t v w1→Φ t v w2)
  (hO:∀ i o,l[i]? = some o→i ≠ s→Obl P l.toArray (dsts l) a0 w0 Φ o)
  (hS:∀ (a:Act) (g:Grown w0),seenAll Φ (dsts l) a0 a g.w (os.looksAt l.toArray)→∃ w',(execOp a.eval os).run P g.w = .ok .skip w')
  (k:∀ (a:Act) (g:Grown w0),a.defers = a0.defers→a.tmps.size = a0.tmps.size→(∀ t,t ∉ dsts l→a.tmps[t]? = a0.tmps[t]?)→(∀ d ∈ dsts l,∃ v,a.tmps[d]? = some v∧Φ d v g.w)→∃ w',(execOp a.eval os).run P g.w = .ok .skip w'∧Q .normal a w') :
  ∀ (f:Nat) (L:Array Bool) (a:Act) (wv w:World),cnt l.length L = f→MInv P Φ s os w0 a0 l L a wv w→wpAny P .any l.toArray Q f L a w:=by
 simp only [predSB,Bool.and_eq_true] at hB
 obtain ⟨⟨⟨⟨⟨b1,b2⟩,b3⟩,b4⟩,b5⟩,b6⟩:=hB
 have isz:∀ d ∈ dsts l,d < a0.tmps.size:=fun d hd=>by
  have:=List.all_eq_true.1 b6 d hd
  simpa using this
 have listedAll:∀ (L:Array Bool),L.size = l.length→cnt l.length L = 0→∀ i,i < l.length→L.getD i false = true:=fun L hs h0 i hi=>by
  unfold cnt at h0
  have:=List.countP_eq_zero.1 h0 i (List.mem_range.2 hi)
  have hs':i < L.size:=by omega
  simp [hs'] at this ⊢
  exact this
 intro f
 induction f with
 | zero =>
  intro L a wv w hc I
  have hall:=listedAll L I.lsz hc
  have hsl:=(List.getElem?_eq_some_iff.1 hos).1
  rcases I.run with ⟨h1,_⟩ | ⟨_,hrun⟩
  ·rw [hall s hsl] at h1
   cases h1
  obtain ⟨w',hr,hq⟩:=k a ⟨wv,I.bel⟩ I.dfr I.siz I.old (fun d hd=>by
   obtain ⟨ox,hox,hdo⟩:=List.mem_filterMap.1 hd
   obtain ⟨x,hx⟩:=List.getElem?_of_mem hox
   exact I.val x ox d hx hdo (hall x (List.getElem?_eq_some_iff.1 hx).1))
  have hww:w = w':=by
   have:=hrun.symm.trans hr
   injection this
  subst hww
  refine ⟨?_,hq⟩
  cases hrd:Region.ready .any l.toArray L with
  | nil=>rfl
  | cons x r =>
   have hi:x ∈ Region.ready .any l.toArray L:=by rw [hrd]; exact List.mem_cons_self
   obtain ⟨hun,ox,hox,_⟩:=mem_ready.1 hi
   have hin:x < l.length:=by
    have:=(Array.getElem?_eq_some_iff.1 hox).1
    simpa using this
   have:=hall x hin
   rw [getD_both hun] at this
   cases this
 | succ f ih =>
  intro L a wv w hc I
  have hex:∃ i,i < l.length∧L.getD i true = false:=by
   by_cases h:∃ i,i < l.length∧L.getD i true = false
   ·exact h
   ·exfalso
    have:cnt l.length L = 0:=by
     unfold cnt
     refine List.countP_eq_zero.2 fun i hi=>?_
     have hin:=List.mem_range.1 hi
     cases hh:L.getD i true with
     | true=>simp
     | false=>exact absurd ⟨i,hin,hh⟩ h
    omega
  obtain ⟨i0,hi0,hu0⟩:=hex
  have hne:Region.ready .any l.toArray L ≠ []:=fun h0=>by
   have all:∀ i,i < l.length→L.getD i false = true:=fun i=>by
    induction i using Nat.strongRecOn with
    | _ i ihh =>
     intro hi
     cases hh:L.getD i false with
     | true=>rfl
     | false =>
      exfalso
      have hs:i < L.size:=by rw [I.lsz]; exact hi
      have hmem:i ∈ Region.ready .any l.toArray L:=mem_ready.2 ⟨getD_in hs hh,l[i],by simp [hi],fun ed hed hb=>by
       have:=leadB_at l 0 b4 i l[i] (by simp [hi]) ed hed hb
       exact ihh ed.on (by omega) (by omega)⟩
      rw [h0] at hmem
      cases hmem
   have:=all i0 hi0
   rw [getD_both hu0] at this
   cases this
  refine ⟨fun h0=>absurd h0 hne,fun i hi=>?_⟩
  obtain ⟨hun,o,ho,hall⟩:=mem_ready.1 hi
  have hol:l[i]? = some o:=by simpa using ho
  have hin:i < l.length:=(List.getElem?_eq_some_iff.1 hol).1
  have hmem:o ∈ l:=List.mem_of_getElem? hol
  have hsL:i < L.size:=by rw [I.lsz]; exact hin
  have hcnt:cnt l.length (L.setIfInBounds i true) = f:=by
   have:=cnt_set (fun k=>!L.getD k true) (fun k=>!(L.setIfInBounds i true).getD k true) i (by show (!L.getD i true) = true; rw [hun]; rfl) (by simp [Array.getD_eq_getD_getElem?,hsL]) (fun j hj=>by
    simp only [Array.getD_eq_getD_getElem?,Array.getElem?_setIfInBounds_ne (Ne.symm hj)]) l.length
   rw [if_pos hin] at this
   unfold cnt at *
   omega
  have hset:∀ k,(L.setIfInBounds i true).getD k false = if i = k then true else L.getD k false:=fun k=>by
   by_cases hik:i = k
   ·subst hik
    rw [if_pos rfl]
    simp [Array.getD_eq_getD_getElem?,hsL]
   ·rw [if_neg hik]
    simp [Array.getD_eq_getD_getElem?,Array.getElem?_setIfInBounds_ne hik]
  have hlook:seenAll (Φ) (dsts l) a0 a wv (o.looksAt l.toArray):=seenAll_of _ fun t ht=>by
   unfold seen
   by_cases hin':inL t (dsts l) = true
   ·rw [if_pos hin']
    have hmt:=(inL_iff t _).1 hin'
    have h1:=List.all_eq_true.1 (List.all_eq_true.1 b3 o hmem) t ht
    simp only [Bool.or_eq_true,Bool.not_eq_true'] at h1
    rcases h1 with h1 | h1
    ·have:=(List.contains_iff_mem).2 hmt
     rw [h1] at this
     cases this
    ·obtain ⟨e,he,hb⟩:=Array.any_eq_true'.1 h1
     simp only [Bool.and_eq_true] at hb
     obtain ⟨hb1,hb2⟩:=hb
     have hlis:=hall e he hb1
     cases hoj:l.toArray[e.on]? with
     | none=>rw [hoj] at hb2; cases hb2
     | some oj =>
      rw [hoj] at hb2
      simp only [beq_iff_eq] at hb2
      exact I.val e.on oj t (by simpa using hoj) hb2 hlis
   ·rw [if_neg hin']
    exact I.old t fun h=>hin' ((inL_iff t _).2 h)
  by_cases his:i = s
  ·subst his
   obtain rfl:o = os:=by rw [hol] at hos; exact Option.some.inj hos
   have hoN:=(allBut_at l i 0 b2 i o hol).1 (by omega)
   have hw:Region.wanted o (yielded l.toArray a.tmps) = true:=by
    unfold Region.wanted
    rw [hoN.2]
   have hwv:wv = w:=by
    rcases I.run with ⟨_,h⟩ | ⟨h,_⟩
    ·exact h
    ·rw [getD_both hun] at h
     cases h
   subst hwv
   obtain ⟨w',hr⟩:=hS a ⟨wv,I.bel⟩ hlook
   unfold wpOp
   simp only [ho]
   rw [if_pos hw]
   refine .inl ?_
   unfold Oper.wp
   rw [hr,Oper.upon_skip]
   have hput:a.put o.dst undef = a:=by rw [hoN.1]; rfl
   rw [hput]
   refine ih _ _ wv w' hcnt ⟨I.bel,I.dfr,I.siz,by simp [I.lsz],I.old,fun j oj dj hj hdj hLj=>?_,.inr ⟨by rw [hset,if_pos rfl],hr⟩,fun j oj hj hLj x hej=>?_⟩
   ·by_cases hij:i = j
    ·subst hij
     rw [hol] at hj
     have e:=Option.some.inj hj
     subst e
     rw [hoN.1] at hdj
     cases hdj
    ·rw [hset,if_neg hij] at hLj
     exact I.val j oj dj hj hdj hLj
   ·rw [hset]
    by_cases hij:i = j
    ·subst hij
     rw [hol] at hj
     have e:=Option.some.inj hj
     subst e
     split
     ·rfl
     ·obtain ⟨e,he,hb⟩:=Array.any_eq_true'.1 hej
      simp only [Bool.and_eq_true] at hb
      have:=hall e he hb.1
      rwa [Nat.eq_of_beq_eq_true hb.2] at this
    ·rw [hset,if_neg hij] at hLj
     have:=I.clo j oj hj hLj x hej
     split
     ·rfl
     ·exact this
  ·obtain ⟨d,hd⟩:=(allBut_at l s 0 b2 i o hol).2 (by omega)
   have hdm:d ∈ dsts l:=List.mem_filterMap.2 ⟨o,hmem,hd⟩
   have hdN:d < a.tmps.size:=by rw [I.siz]; exact isz d hdm
   -- behind the operation
   have step:∀ v w1 w2,Below wv.heap.size wv w1→meets (Φ) o.dst v w1→((L.getD s false = false∧w1 = w2) ∨ (L.getD s false = true∧(execOp (a.put o.dst v).eval os).run P w1 = .ok .skip w2))→wpAny P .any l.toArray Q f (L.setIfInBounds i true) (a.put o.dst v) w2:=fun v w1 w2 hb hv hrun=>by
    refine ih _ _ w1 w2 hcnt ⟨I.bel.trans (hb.mono I.bel.size),by rw [put_def,I.dfr],by rw [put_size,I.siz],by simp [I.lsz],fun t ht=>?_,fun j oj dj hj hdj hLj=>?_,by rw [hset,if_neg his]; exact hrun,fun j oj hj hLj x hej=>?_⟩
    ·have hne:d ≠ t:=fun e=>ht (e ▸ hdm)
     rw [hd,put_get_ne _ _ hne]
     exact I.old t ht
    ·by_cases hij:i = j
     ·subst hij
      rw [hol] at hj
      have e:=Option.some.inj hj
      subst e
      rw [hd] at hdj
      have e:=Option.some.inj hdj
      subst e
      rw [hd] at hv ⊢
      exact ⟨v,put_get_eq _ _ hdN,hv⟩
     ·rw [hset,if_neg hij] at hLj
      obtain ⟨u,h1,h2⟩:=I.val j oj dj hj hdj hLj
      have hne:d ≠ dj:=fun e=>hij (dist_inj' l b1 i j o oj d hol hj hd (by rw [e]; exact hdj))
      exact ⟨u,by rw [hd,put_get_ne _ _ hne]; exact h1,hΦ _ _ _ _ hb h2⟩
    ·rw [hset]
     by_cases hij:i = j
     ·subst hij
      rw [hol] at hj
      have e:=Option.some.inj hj
      subst e
      split
      ·rfl
      ·obtain ⟨e,he,hb⟩:=Array.any_eq_true'.1 hej
       simp only [Bool.and_eq_true] at hb
       have:=hall e he hb.1
       rwa [Nat.eq_of_beq_eq_true hb.2] at this
     ·rw [hset,if_neg hij] at hLj
      have:=I.clo j oj hj hLj x hej
      split
      ·rfl
      ·exact this
   have hob:=hO i o hol his a ⟨wv,I.bel⟩ hlook
   unfold wpOp
   simp only [ho]
   rcases I.run with ⟨h1,rfl⟩ | ⟨h1,hrun⟩
   ·by_cases hw:Region.wanted o (yielded l.toArray a.tmps) = true
    ·rw [if_pos hw] at hob ⊢
     refine .inl ?_
     unfold Oper.wp
     generalize hr:(execOp a.eval o).run P wv = r at hob
     cases r with
     | ok n w' =>
      cases n with
      | value u =>
       rw [Oper.upon_value]
       exact step u w' w' hob.1 hob.2 (.inl ⟨h1,rfl⟩)
      | enter f args =>
       obtain ⟨rfl,hc⟩:=hob
       rw [Oper.upon_enter]
       refine hc.mono ?_
       rintro e w'' ⟨v,rfl,hb,hv⟩
       exact step v w'' w'' hb hv (.inl ⟨h1,rfl⟩)
      | _=>exact hob.elim
     | _=>exact hob.elim
    ·rw [if_neg hw] at hob ⊢
     exact step undef wv wv (Below.refl _ _) hob (.inl ⟨h1,rfl⟩)
   ·have hiR:i ∈ R:=by
     have h2:=List.all_eq_true.1 hC i (List.mem_range.2 hin)
     simp only [Bool.or_eq_true] at h2
     rcases h2 with (h2 | h2) | h2
     ·exact absurd (Nat.eq_of_beq_eq_true h2) his
     ·have h3:=I.clo s os hos h1 i h2
      rw [getD_both hun] at h3
      cases h3
     ·obtain ⟨x,hx,he⟩:=List.any_eq_true.1 h2
      rw [Nat.eq_of_beq_eq_true he]
      exact hx
    have hpu:=hR i hiR o hol
    have hev:=hE i hiR o hol
    by_cases hw:Region.wanted o (yielded l.toArray a.tmps) = true
    ·rw [if_pos hw] at hob ⊢
     refine .inl ?_
     unfold Oper.wp
     generalize hr:(execOp a.eval o).run P wv = r at hob
     cases r with
     | ok n w' =>
      obtain ⟨⟨u,rfl⟩,rfl,hr2⟩:=hpu a.eval wv w n w' hr
      rw [hr2,Oper.upon_value]
      exact step u _ w hob.1 hob.2 (.inr ⟨h1,by rw [hev]; exact hrun⟩)
     | _=>exact hob.elim
    ·rw [if_neg hw] at hob ⊢
     exact step undef wv w (Below.refl _ _) hob (.inr ⟨h1,by rw [hev]; exact hrun⟩)
theorem region_pred_m {id:Nat} {Q:Exit→Act→World→Prop} {a0:Act} {w:World} {l:List Oper} (Φ:Tmp→Value→World→Prop) (s:Nat) (os:Oper) (R:List Nat) (hos:l[s]? = some os) (hm:P.follows .mixedOrders = true) (hB:predSB l s a0.tmps.size = true) (hC:coverB l os s R = true) (hR:∀ i ∈ R,∀ o,l[i]? = some o→PureOp P o) (hE:∀ i ∈ R,∀ o,l[i]? = some o→∀ (a:Act) (v:Value),execOp (a.put o.dst v).eval os = execOp a.eval os)
  (hS:∀ (a:Act) (g:Grown w),seenAll Φ (dsts l) a0 a g.w (os.looksAt l.toArray)→∃ w',(execOp a.eval os).run P g.w = .ok .skip w')
  (hΦ:∀ t v w1 w2,Below w1.heap.size w1 w2→Φ t v w1→Φ t v w2)
  (hO:eachS (fun i o=>i ≠ s→Obl P l.toArray (dsts l) a0 w Φ o) 0 l)
  (k:∀ w',Below w.heap.size w w'→finP Φ w' (fun a=>∃ w'',(execOp a.eval os).run P w' = .ok .skip w''∧Q .normal a w'') (dsts l) a0) :
  (Code.region id l.toArray true).wp P Q a0 w:=by
 refine wp_region_any hm ?_
 have k:=fun (a:Act) (g:Grown w) h1 h2 h3 h4=>finP_ok (Φ:=Φ) (w:=g.w) (K:=fun a=>∃ w'',(execOp a.eval os).run P g.w = .ok .skip w''∧Q .normal a w'') (a:=a) (dsts l) a0 (Eq.symm h1) (Eq.symm h2) h4 h3 (k g.w g.h)
 have h0:cnt l.length (Array.replicate l.toArray.size false) = l.toArray.size:=by
  unfold cnt
  simp only [List.size_toArray]
  rw [List.countP_eq_length.2]
  ·simp
  ·intro i hi
   have:=List.mem_range.1 hi
   simp [this]
 refine pred_m Φ s os R hos hB hC hR hE hΦ (fun i o hi his=>by have:=eachS_at 0 hO i o hi; rw [Nat.zero_add] at this; exact this his) hS k _ _ _ { w with drawn:=w.drawn+1 } { w with drawn:=w.drawn+1 } h0 ⟨⟨rfl,rfl,rfl,Nat.le_refl _,fun _ _=>rfl⟩,rfl,rfl,by simp,fun _ _=>rfl,fun i o d hi hd hL=>?_,?_,fun j oj hj hL=>?_⟩
 ·exfalso
  have:i < l.length:=(List.getElem?_eq_some_iff.1 hi).1
  simp [this] at hL
 ·have:s < l.length:=(List.getElem?_eq_some_iff.1 hos).1
  exact .inl ⟨by simp [this],rfl⟩
 ·exfalso
  have:j < l.length:=(List.getElem?_eq_some_iff.1 hj).1
  simp [this] at hL
end
end Go.Proofs.YtekjflfkbgklhaaGreat
