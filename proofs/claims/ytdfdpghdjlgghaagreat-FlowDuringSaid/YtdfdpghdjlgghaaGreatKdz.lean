/-
 PredG Sb Sc
-/
import Derived.Test.YtdfdpghdjlgghaaGreatKdd
import Derived.Test.YtdfdpghdjlgghaaGreatKde
import Derived.Test.YtdfdpghdjlgghaaGreatKdf
import Derived.Test.YtdfdpghdjlgghaaGreatKdq
import Derived.Test.YtdfdpghdjlgghaaGreatKdr
import Derived.Test.YtdfdpghdjlgghaaGreatKds
import Derived.Test.YtdfdpghdjlgghaaGreatKdy
import Derived.Maps.AppendAt
import Derived.Laws.OwnMore
namespace Go.Proofs.YtdfdpghdjlgghaaGreat
open Go.RowKit
set_option linter.unusedVariables false
set_option linter.unusedSimpArgs false
section
variable {P:Program}
def isSt (S:List (Nat × Tmp)) (i:Nat):Bool:=S.any fun x=>Nat.beq x.1 i
theorem isSt_mem {S:List (Nat × Tmp)} {i:Nat} (h:isSt S i = true):∃ p,(i,p) ∈ S:=by
 obtain ⟨x,hx,e⟩:=List.any_eq_true.1 h
 have:=Nat.eq_of_beq_eq_true e
 subst this
 exact ⟨x.2,hx⟩
def stg (S:List (Nat × Tmp)) (L:Array Bool):Nat→Bool:=fun s=>isSt S s && L.getD s false
def updS (σ:Nat→Bool) (i:Nat):Nat→Bool:=fun s=>if s = i then true else σ s
def allButG (S:List (Nat × Tmp)):Nat→List Oper→Bool
 | _,[]=>true
 | i,o :: r=>(if isSt S i then o.dst.isNone && o.guard.isNone else o.dst.isSome) && allButG S (i+1) r
theorem allButG_at (S:List (Nat × Tmp)):∀ (l:List Oper) (k:Nat),allButG S k l = true→∀ (i:Nat) (o:Oper),l[i]? = some o→(isSt S (k+i) = true→o.dst = none∧o.guard = none)∧(isSt S (k+i) = false→∃ d,o.dst = some d)
 | [],k,_,i,o,h=>by simp at h
 | o0 :: rest,k,hk,i,o,hi=>by
  simp only [allButG,Bool.and_eq_true] at hk
  match i,hi with
  | 0,hi =>
   simp at hi
   subst hi
   rw [Nat.add_zero]
   refine ⟨fun e=>?_,fun e=>?_⟩
   ·rw [if_pos e] at hk
    simpa using hk.1
   ·rw [if_neg (by rw [e]; exact Bool.false_ne_true)] at hk
    exact Option.isSome_iff_exists.1 hk.1
  | i+1,hi =>
   have:=allButG_at S rest (k+1) hk.2 i o (by simpa using hi)
   rw [show k+1+i = k+(i+1) by omega] at this
   exact this
def ptrB (l:List Oper) (x:Nat × Tmp):Bool:=match l[x.1]? with
 | some os=>(List.range l.length).any fun ip=>earlyB os ip && (match (l[ip]?).bind (·.dst) with | some d=>Nat.beq d x.2 | none=>false)
 | none=>false
theorem ptrB_of {l:List Oper} {x:Nat × Tmp} (h:ptrB l x = true):∃ os ip op,l[x.1]? = some os∧l[ip]? = some op∧op.dst = some x.2∧earlyB os ip = true:=by
 unfold ptrB at h
 cases ho:l[x.1]? with
 | none=>rw [ho] at h; cases h
 | some os =>
  rw [ho] at h
  obtain ⟨ip,_,h2⟩:=List.any_eq_true.1 h
  simp only [Bool.and_eq_true] at h2
  cases hp:l[ip]? with
  | none=>rw [hp] at h2; exact absurd h2.2 Bool.false_ne_true
  | some op =>
   rw [hp] at h2
   cases hd:op.dst with
   | none=>simp [hd] at h2
   | some d =>
    simp only [Option.bind_some,hd] at h2
    exact ⟨os,ip,op,rfl,hp,by rw [hd,Nat.eq_of_beq_eq_true h2.2],h2.1⟩
def predGB (l:List Oper) (S:List (Nat × Tmp)) (N:Nat):Bool:=distB (dsts l) && allButG S 0 l && waitB l.toArray (dsts l) l && leadB 0 l && noSel l && sizeB l N && S.all (ptrB l)

structure GInv (Φ:(Nat→Bool)→Tmp→Value→World→Prop) (K:Tmp→Value→Option Nat) (S:List (Nat × Tmp)) (C:List (Tmp × Tmp)) (w0:World) (a0:Act) (l:List Oper) (L:Array Bool) (a:Act) (w:World):Prop where
 bel:Below w0.heap.size w0 w
 dfr:a.defers = a0.defers
 siz:a.tmps.size = a0.tmps.size
 lsz:L.size = l.length
 old:∀ t,t ∉ dsts l→a.tmps[t]? = a0.tmps[t]?
 val:∀ (i:Nat) (o:Oper) (d:Tmp),l[i]? = some o→o.dst = some d→L.getD i false = true→∃ v,a.tmps[d]? = some v∧Φ (stg S L) d v w
 clo:∀ (j:Nat) (oj:Oper),l[j]? = some oj→L.getD j false = true→∀ i,earlyB oj i = true→L.getD i false = true
 dis:∀ (i j:Nat) (oi oj:Oper) (di dj:Tmp) (vi vj:Value) (b:Nat),i ≠ j→l[i]? = some oi→l[j]? = some oj→oi.dst = some di→oj.dst = some dj→L.getD i false = true→L.getD j false = true→a.tmps[di]? = some vi→a.tmps[dj]? = some vj→K di vi = some b→K dj vj ≠ some b
 cpy:∀ (d c:Tmp) (i:Nat) (o:Oper),(d,c) ∈ C→l[i]? = some o→o.dst = some d→L.getD i false = true→a.tmps[d]? = a.tmps[c]?
def CpyB (P:Program) (l:List Oper) (d c:Tmp):Prop:=∃ (i:Nat) (o:Oper) (j:Nat) (oj:Oper),l[i]? = some o∧o.dst = some d∧o.guard = none∧l[j]? = some oj∧oj.dst = some c∧earlyB o j = true∧∀ (a:Act) (w:World),(execOp a.eval o).run P w = .ok (.value (a.tmps.getD c undef)) w
def OblG (P:Program) (ops:Array Oper) (ds:List Tmp) (a0:Act) (w0:World) (Φ:Tmp→Value→World→Prop) (K:Tmp→Value→Option Nat) (o:Oper):Prop :=
 ∀ (a:Act) (g:Grown w0),seenAll Φ ds a0 a g.w (o.looksAt ops) →
  if Region.wanted o (yielded ops a.tmps) = true then uponP P g.w (fun v w'=>meets Φ o.dst v w'∧∀ d b,o.dst = some d→K d v = some b→g.w.heap.size ≤ b) ((execOp a.eval o).run P g.w) else meets Φ o.dst undef g.w∧∀ d,o.dst = some d→K d undef = none
theorem uponP_mono {w:World} {A B:Value→World→Prop} {r:Result Next} (h:∀ v w',A v w'→B v w') (hu:uponP P w A r):uponP P w B r:=by
 cases r with
 | ok n w' =>
  cases n with
  | value u=>exact ⟨hu.1,h _ _ hu.2⟩
  | enter f args=>exact ⟨hu.1,hu.2.mono fun e w'' ⟨v,he,hb,hv⟩=>⟨v,he,hb,h _ _ hv⟩⟩
  | _=>exact hu.elim
 | _=>exact hu.elim
theorem oblg_of {ops:Array Oper} {ds:List Tmp} {a0:Act} {w0:World} {Φ:Tmp→Value→World→Prop} {K:Tmp→Value→Option Nat} {o:Oper} (h:Obl P ops ds a0 w0 Φ o) (hk:∀ d v,o.dst = some d→K d v = none):OblG P ops ds a0 w0 Φ K o:=fun a g hs=>by
 have:=h a g hs
 split at this
 ·rename_i hw
  rw [if_pos hw]
  exact uponP_mono (fun v w' hv=>⟨hv,fun d b hd hb=>by rw [hk d v hd] at hb; cases hb⟩) this
 ·rename_i hw
  rw [if_neg hw]
  exact ⟨this,fun d hd=>hk d _ hd⟩
def OblT (P:Program) (ds:List Tmp) (a0:Act) (w0:World) (Φ:(Nat→Bool)→Tmp→Value→World→Prop) (K:Tmp→Value→Option Nat) (i:Nat) (p:Tmp) (o:Oper):Prop :=
 ∀ (σ:Nat→Bool) (a:Act) (g:Grown w0),σ i = false→seenAll (Φ σ) ds a0 a g.w (o.looksAt #[])→∃ w',(execOp a.eval o).run P g.w = .ok .skip w'∧Below w0.heap.size w0 w'∧∀ t v,a.tmps[t]? = some v→(t ≠ p→∀ vp b,a.tmps[p]? = some vp→K p vp = some b→K t v ≠ some b)→Φ σ t v g.w→Φ (updS σ i) t v w'
def disA (ds:List Tmp) (K:Tmp→Value→Option Nat) (a:Act):Prop:=∀ (d d':Tmp) (v v':Value) (b:Nat),d ≠ d'→d ∈ ds→d' ∈ ds→a.tmps[d]? = some v→a.tmps[d']? = some v'→K d v = some b→K d' v' ≠ some b
theorem pred_g {l:List Oper} {a0:Act} {w0:World} {Q:Exit→Act→World→Prop} (Φ:(Nat→Bool)→Tmp→Value→World→Prop) (K:Tmp→Value→Option Nat) (S:List (Nat × Tmp)) (C:List (Tmp × Tmp)) (hB:predGB l S a0.tmps.size = true) (hC:∀ x ∈ C,CpyB P l x.1 x.2)
  (hΦ:∀ σ t v w1 w2,Below w1.heap.size w1 w2→Φ σ t v w1→Φ σ t v w2)
  (hK:∀ σ t v w b,Φ σ t v w→K t v = some b→b < w.heap.size)
  (hO:∀ i o σ,l[i]? = some o→isSt S i = false→(∀ s os,σ s = true→l[s]? = some os→earlyB os i = false)→OblG P l.toArray (dsts l) a0 w0 (Φ σ) K o)
  (hS:∀ i p os,(i,p) ∈ S→l[i]? = some os→OblT P (dsts l) a0 w0 Φ K i p os)
  (k:∀ (a:Act) (g:Grown w0),a.defers = a0.defers→a.tmps.size = a0.tmps.size→(∀ t,t ∉ dsts l→a.tmps[t]? = a0.tmps[t]?)→(∀ d ∈ dsts l,∃ v,a.tmps[d]? = some v∧Φ (isSt S) d v g.w)→disA (dsts l) K a→(∀ x ∈ C,a.tmps[x.1]? = a.tmps[x.2]?)→Q .normal a g.w) :
  ∀ (f:Nat) (L:Array Bool) (a:Act) (w:World),cnt l.length L = f→GInv Φ K S C w0 a0 l L a w→wpAny P .any l.toArray Q f L a w:=by
 simp only [predGB,Bool.and_eq_true] at hB
 obtain ⟨⟨⟨⟨⟨⟨b1,b2⟩,b3⟩,b4⟩,b5⟩,b6⟩,b7⟩:=hB
 have isz:∀ d ∈ dsts l,d < a0.tmps.size:=fun d hd=>by
  have:=List.all_eq_true.1 b6 d hd
  simpa using this
 have listedAll:∀ (L:Array Bool),L.size = l.length→cnt l.length L = 0→∀ i,i < l.length→L.getD i false = true:=fun L hs h0 i hi=>by
  unfold cnt at h0
  have:=List.countP_eq_zero.1 h0 i (List.mem_range.2 hi)
  have hs':i < L.size:=by omega
  simp [hs'] at this ⊢
  exact this
 have fin:∀ (L:Array Bool) (a:Act) (w:World),cnt l.length L = 0→GInv Φ K S C w0 a0 l L a w→Q .normal a w:=fun L a w hc I=>by
  have hst:stg S L = isSt S:=by
   funext s
   unfold stg
   cases hs:isSt S s with
   | false=>rfl
   | true =>
    obtain ⟨p,hp⟩:=isSt_mem hs
    obtain ⟨os,ip,op,h1,_⟩:=ptrB_of (List.all_eq_true.1 b7 _ hp)
    rw [listedAll L I.lsz hc s (List.getElem?_eq_some_iff.1 h1).1]
    rfl
  refine k a ⟨w,I.bel⟩ I.dfr I.siz I.old (fun d hd=>?_) (fun d d' v v' b hne hd hd' hv hv' hb=>?_) (fun x hx=>?_)
  ·obtain ⟨o,ho,hdo⟩:=List.mem_filterMap.1 hd
   obtain ⟨i,hi⟩:=List.getElem?_of_mem ho
   have:=I.val i o d hi hdo (listedAll L I.lsz hc i (List.getElem?_eq_some_iff.1 hi).1)
   rw [hst] at this
   exact this
  ·obtain ⟨o,ho,hdo⟩:=List.mem_filterMap.1 hd
   obtain ⟨i,hi⟩:=List.getElem?_of_mem ho
   obtain ⟨o',ho',hdo'⟩:=List.mem_filterMap.1 hd'
   obtain ⟨j,hj⟩:=List.getElem?_of_mem ho'
   refine I.dis i j o o' d d' v v' b (fun e=>?_) hi hj hdo hdo' (listedAll L I.lsz hc i (List.getElem?_eq_some_iff.1 hi).1) (listedAll L I.lsz hc j (List.getElem?_eq_some_iff.1 hj).1) hv hv' hb
   subst e
   rw [hi] at hj
   cases hj
   rw [hdo] at hdo'
   cases hdo'
   exact hne rfl
  ·obtain ⟨i,o,j,oj,h1,h2,_⟩:=hC x hx
   exact I.cpy x.1 x.2 i o hx h1 h2 (listedAll L I.lsz hc i (List.getElem?_eq_some_iff.1 h1).1)
 intro f
 induction f with
 | zero =>
  intro L a w hc I
  refine ⟨?_,fin L a w hc I⟩
  cases hr:Region.ready .any l.toArray L with
  | nil=>rfl
  | cons i r =>
   have hi:i ∈ Region.ready .any l.toArray L:=by rw [hr]; exact List.mem_cons_self
   obtain ⟨hun,o,ho,_⟩:=mem_ready.1 hi
   have hin:i < l.length:=by
    have:=(Array.getElem?_eq_some_iff.1 ho).1
    simpa using this
   have:=listedAll L I.lsz hc i hin
   rw [getD_both hun] at this
   cases this
 | succ f ih =>
  intro L a w hc I
  have hex:∃ i,i < l.length∧L.getD i true = false:=by
   by_cases h:∃ i,i < l.length∧L.getD i true = false
   ·exact h
   ·exfalso
    have:cnt l.length L = 0:=by
     unfold cnt
     refine List.countP_eq_zero.2 fun i hi=>?_
     have hin:=List.mem_range.1 hi
     cases hh:L.getD i true with
     | true=>simp
     | false=>exact absurd ⟨i,hin,hh⟩ h
    omega
  obtain ⟨i0,hi0,hu0⟩:=hex
  have hne:Region.ready .any l.toArray L ≠ []:=fun h0=>by
   have all:∀ i,i < l.length→L.getD i false = true:=fun i=>by
    induction i using Nat.strongRecOn with
    | _ i ihh =>
     intro hi
     cases hh:L.getD i false with
     | true=>rfl
     | false =>
      exfalso
      have hs:i < L.size:=by rw [I.lsz]; exact hi
      have hmem:i ∈ Region.ready .any l.toArray L:=mem_ready.2 ⟨getD_in hs hh,l[i],by simp [hi],fun ed hed hb=>by
       have:=leadB_at l 0 b4 i l[i] (by simp [hi]) ed hed hb
       exact ihh ed.on (by omega) (by omega)⟩
      rw [h0] at hmem
      cases hmem
   have:=all i0 hi0
   rw [getD_both hu0] at this
   cases this
  refine ⟨fun h0=>absurd h0 hne,fun i hi=>?_⟩
  obtain ⟨hun,o,ho,hall⟩:=mem_ready.1 hi
  have hol:l[i]? = some o:=by simpa using ho
  have hin:i < l.length:=(List.getElem?_eq_some_iff.1 hol).1
  have hmem:o ∈ l:=List.mem_of_getElem? hol
  have hsL:i < L.size:=by rw [I.lsz]; exact hin
  have hcnt:cnt l.length (L.setIfInBounds i true) = f:=by
   have:=cnt_set (fun k=>!L.getD k true) (fun k=>!(L.setIfInBounds i true).getD k true) i (by show (!L.getD i true) = true; rw [hun]; rfl) (by simp [Array.getD_eq_getD_getElem?,hsL]) (fun j hj=>by
    simp only [Array.getD_eq_getD_getElem?,Array.getElem?_setIfInBounds_ne (Ne.symm hj)]) l.length
   rw [if_pos hin] at this
   unfold cnt at *
   omega
  have hset:∀ k,(L.setIfInBounds i true).getD k false = if i = k then true else L.getD k false:=fun k=>by
   by_cases hik:i = k
   ·subst hik
    rw [if_pos rfl]
    simp [Array.getD_eq_getD_getElem?,hsL]
   ·rw [if_neg hik]
    simp [Array.getD_eq_getD_getElem?,Array.getElem?_setIfInBounds_ne hik]
  have hlook:seenAll (Φ (stg S L)) (dsts l) a0 a w (o.looksAt l.toArray):=seenAll_of _ fun t ht=>by
   unfold seen
   by_cases hin':inL t (dsts l) = true
   ·rw [if_pos hin']
    have hmt:=(inL_iff t _).1 hin'
    have h1:=List.all_eq_true.1 (List.all_eq_true.1 b3 o hmem) t ht
    simp only [Bool.or_eq_true,Bool.not_eq_true'] at h1
    rcases h1 with h1 | h1
    ·have:=(List.contains_iff_mem).2 hmt
     rw [h1] at this
     cases this
    ·obtain ⟨e,he,hb⟩:=Array.any_eq_true'.1 h1
     simp only [Bool.and_eq_true] at hb
     obtain ⟨hb1,hb2⟩:=hb
     have hlis:=hall e he hb1
     cases hoj:l.toArray[e.on]? with
     | none=>rw [hoj] at hb2; cases hb2
     | some oj =>
      rw [hoj] at hb2
      simp only [beq_iff_eq] at hb2
      exact I.val e.on oj t (by simpa using hoj) hb2 hlis
   ·rw [if_neg hin']
    exact I.old t fun h=>hin' ((inL_iff t _).2 h)
  have hclo:∀ j oj,l[j]? = some oj→(L.setIfInBounds i true).getD j false = true→∀ x,earlyB oj x = true→(L.setIfInBounds i true).getD x false = true:=fun j oj hj hLj x hex=>by
   rw [hset] at hLj ⊢
   split
   ·rfl
   ·by_cases hij:i = j
    ·subst hij
     rw [hol] at hj
     cases hj
     obtain ⟨e,he,hb⟩:=Array.any_eq_true'.1 hex
     simp only [Bool.and_eq_true] at hb
     have:=hall e he hb.1
     rwa [Nat.eq_of_beq_eq_true hb.2] at this
    ·rw [if_neg hij] at hLj
     exact I.clo j oj hj hLj x hex
  have hLf:L.getD i false = false:=getD_both hun
  by_cases his:isSt S i = true
  ·obtain ⟨p,hp⟩:=isSt_mem his
   have hoN:=(allButG_at S l 0 b2 i o hol).1 (by rw [Nat.zero_add]; exact his)
   obtain ⟨os,ip,op,hos,hip,hpd,hpe⟩:=ptrB_of (List.all_eq_true.1 b7 _ hp)
   obtain rfl:o = os:=by
    have:l[i]? = some os:=hos
    rw [hol] at this
    exact Option.some.inj this
   have hLp:L.getD ip false = true:=by
    obtain ⟨e,he,hb⟩:=Array.any_eq_true'.1 hpe
    simp only [Bool.and_eq_true] at hb
    have:=hall e he hb.1
    rwa [Nat.eq_of_beq_eq_true hb.2] at this
   have hσ:stg S L i = false:=by
    unfold stg
    rw [hLf,Bool.and_false]
   have hupd:stg S (L.setIfInBounds i true) = updS (stg S L) i:=by
    funext s
    unfold stg updS
    by_cases e:s = i
    ·subst e
     rw [if_pos rfl,hset,if_pos rfl,his]
     rfl
    ·rw [if_neg e,hset,if_neg (Ne.symm e)]
   have hlk:seenAll (Φ (stg S L)) (dsts l) a0 a w (o.looksAt #[]):=by
    rw [← looks_none o (by rw [hoN.2]; rfl) (ops:=l.toArray)]
    exact hlook
   obtain ⟨w',hr,hbel,hst⟩:=hS i p o hp hol (stg S L) a ⟨w,I.bel⟩ hσ hlk
   have hw:Region.wanted o (yielded l.toArray a.tmps) = true:=by
    unfold Region.wanted
    rw [hoN.2]
   unfold wpOp
   simp only [ho]
   rw [if_pos hw]
   refine .inl ?_
   unfold Oper.wp
   rw [hr,Oper.upon_skip]
   have hput:a.put o.dst undef = a:=by rw [hoN.1]; rfl
   rw [hput]
   have hnei:∀ j oj dj,l[j]? = some oj→oj.dst = some dj→i ≠ j:=fun j oj dj hj hdj e=>by
    subst e
    rw [hol] at hj
    have e:=Option.some.inj hj
    subst e
    rw [hoN.1] at hdj
    cases hdj
   refine ih _ _ _ hcnt ⟨hbel,I.dfr,I.siz,by simp [I.lsz],I.old,fun j oj dj hj hdj hLj=>?_,hclo,fun j1 j2 o1 o2 d1 d2 v1 v2 b hne h1 h2 hd1 hd2 hL1 hL2 hv1 hv2 hb=>?_,fun d c j oj hdc hj hdj hLj=>?_⟩
   ·rw [hset,if_neg (hnei j oj dj hj hdj)] at hLj
    obtain ⟨v,h1,h2⟩:=I.val j oj dj hj hdj hLj
    rw [hupd]
    refine ⟨v,h1,hst dj v h1 (fun hne vp b hvp hb=>?_) h2⟩
    refine I.dis ip j op oj p dj vp v b (fun e=>?_) hip hj hpd hdj hLp hLj hvp h1 hb
    subst e
    rw [hip] at hj
    cases hj
    rw [hpd] at hdj
    cases hdj
    exact hne rfl
   ·rw [hset,if_neg (hnei j1 o1 d1 h1 hd1)] at hL1
    rw [hset,if_neg (hnei j2 o2 d2 h2 hd2)] at hL2
    exact I.dis j1 j2 o1 o2 d1 d2 v1 v2 b hne h1 h2 hd1 hd2 hL1 hL2 hv1 hv2 hb
   ·rw [hset,if_neg (hnei j oj d hj hdj)] at hLj
    exact I.cpy d c j oj hdc hj hdj hLj
  ·have hisf:isSt S i = false:=by simpa using his
   obtain ⟨d,hd⟩:=(allButG_at S l 0 b2 i o hol).2 (by rw [Nat.zero_add]; exact hisf)
   have hdm:d ∈ dsts l:=List.mem_filterMap.2 ⟨o,hmem,hd⟩
   have hdN:d < a.tmps.size:=by rw [I.siz]; exact isz d hdm
   have hsame:stg S (L.setIfInBounds i true) = stg S L:=by
    funext s
    unfold stg
    by_cases e:s = i
    ·subst e
     rw [hisf]
     rfl
    ·rw [hset,if_neg (Ne.symm e)]
   -- behind the operation
   have step:∀ v w',Below w.heap.size w w'→meets (Φ (stg S L)) o.dst v w'→(∀ d b,o.dst = some d→K d v = some b→w.heap.size ≤ b)→(∀ c,(d,c) ∈ C→a.tmps[c]? = some v)→wpAny P .any l.toArray Q f (L.setIfInBounds i true) (a.put o.dst v) w':=fun v w' hb hv hfr hcp=>by
    have hget:∀ j oj dj,i ≠ j→l[j]? = some oj→oj.dst = some dj→(a.put o.dst v).tmps[dj]? = a.tmps[dj]?:=fun j oj dj hij hj hdj=>by
     have hne:d ≠ dj:=fun e=>hij (dist_inj' l b1 i j o oj d hol hj hd (by rw [e]; exact hdj))
     rw [hd,put_get_ne _ _ hne]
    refine ih _ _ _ hcnt ⟨I.bel.trans (hb.mono I.bel.size),by rw [put_def,I.dfr],by rw [put_size,I.siz],by simp [I.lsz],fun t ht=>?_,fun j oj dj hj hdj hLj=>?_,hclo,fun j1 j2 o1 o2 d1 d2 v1 v2 b hne h1 h2 hd1 hd2 hL1 hL2 hv1 hv2 hb1=>?_,fun d2 c j oj hdc hj hdj hLj=>?_⟩
    ·have hne:d ≠ t:=fun e=>ht (e ▸ hdm)
     rw [hd,put_get_ne _ _ hne]
     exact I.old t ht
    ·rw [hsame]
     by_cases hij:i = j
     ·subst hij
      rw [hol] at hj
      have e:=Option.some.inj hj
      subst e
      rw [hd] at hdj
      have e:=Option.some.inj hdj
      subst e
      rw [hd] at hv ⊢
      exact ⟨v,put_get_eq _ _ hdN,hv⟩
     ·rw [hset,if_neg hij] at hLj
      obtain ⟨u,h1,h2⟩:=I.val j oj dj hj hdj hLj
      exact ⟨u,by rw [hget j oj dj hij hj hdj]; exact h1,hΦ _ _ _ _ _ hb h2⟩
    ·-- the new value against an elder one
     have hold:∀ j oj dj vj b,i ≠ j→l[j]? = some oj→oj.dst = some dj→(L.setIfInBounds i true).getD j false = true→(a.put o.dst v).tmps[dj]? = some vj→K dj vj = some b→b < w.heap.size:=fun j oj dj vj b hij hj hdj hLj hvj hb=>by
      rw [hset,if_neg hij] at hLj
      obtain ⟨u,h1,h2⟩:=I.val j oj dj hj hdj hLj
      rw [hget j oj dj hij hj hdj,h1] at hvj
      cases hvj
      exact hK _ _ _ _ _ h2 hb
     have hnew:∀ oj dj vj b,l[i]? = some oj→oj.dst = some dj→(a.put o.dst v).tmps[dj]? = some vj→K dj vj = some b→w.heap.size ≤ b:=fun oj dj vj b hj hdj hvj hb=>by
      rw [hol] at hj
      cases hj
      have hd0:=hdj
      rw [hd] at hdj
      cases hdj
      rw [hd,put_get_eq _ _ hdN] at hvj
      cases hvj
      exact hfr _ _ hd0 hb
     intro hb2
     by_cases e1:i = j1
     ·subst e1
      have:=hnew o1 d1 v1 b h1 hd1 hv1 hb1
      have:=hold j2 o2 d2 v2 b hne h2 hd2 hL2 hv2 hb2
      omega
     ·by_cases e2:i = j2
      ·subst e2
       have:=hnew o2 d2 v2 b h2 hd2 hv2 hb2
       have:=hold j1 o1 d1 v1 b e1 h1 hd1 hL1 hv1 hb1
       omega
      ·rw [hset,if_neg e1] at hL1
       rw [hset,if_neg e2] at hL2
       rw [hget j1 o1 d1 e1 h1 hd1] at hv1
       rw [hget j2 o2 d2 e2 h2 hd2] at hv2
       exact I.dis j1 j2 o1 o2 d1 d2 v1 v2 b hne h1 h2 hd1 hd2 hL1 hL2 hv1 hv2 hb1 hb2
    ·obtain ⟨ix,ox,jc,oc,hx1,hx2,hx3,hc1,hc2,hce,_⟩:=hC _ hdc
     have hxj:ix = j:=dist_inj' l b1 ix j ox oj d2 hx1 hj hx2 hdj
     subst hxj
     rw [hx1] at hj
     cases hj
     have hLc:ix = i ∨ L.getD ix false = true:=by
      rw [hset] at hLj
      by_cases e:i = ix
      ·exact .inl e.symm
      ·rw [if_neg e] at hLj
       exact .inr hLj
     have hjc:i ≠ jc:=fun e=>by
      subst e
      rcases hLc with rfl | h
      ·rw [hol] at hx1
       cases hx1
       obtain ⟨e,he,hb⟩:=Array.any_eq_true'.1 hce
       simp only [Bool.and_eq_true] at hb
       have:=hall e he hb.1
       rw [Nat.eq_of_beq_eq_true hb.2,hLf] at this
       cases this
      ·have:=I.clo ix oj hx1 h i hce
       rw [hLf] at this
       cases this
     rw [hget jc oc c hjc hc1 hc2]
     by_cases e:i = ix
     ·subst e
      rw [hol] at hx1
      cases hx1
      rw [hd] at hdj
      cases hdj
      rw [hd,put_get_eq _ _ hdN,hcp c hdc]
     ·rw [hget ix oj d2 e hx1 hdj]
      rcases hLc with h | h
      ·exact absurd h.symm e
      ·exact I.cpy d2 c ix oj hdc hx1 hdj h
   have hear:∀ s os,stg S L s = true→l[s]? = some os→earlyB os i = false:=fun s os hs hos=>by
    cases he:earlyB os i with
    | false=>rfl
    | true =>
     unfold stg at hs
     simp only [Bool.and_eq_true] at hs
     have:=I.clo s os hos hs.2 i he
     rw [hLf] at this
     cases this
   have hob:=hO i o (stg S L) hol hisf hear a ⟨w,I.bel⟩ hlook
   unfold wpOp
   simp only [ho]
   by_cases hw:Region.wanted o (yielded l.toArray a.tmps) = true
   ·rw [if_pos hw] at hob ⊢
    refine .inl ?_
    unfold Oper.wp
    have hcv:∀ c,(d,c) ∈ C→(execOp a.eval o).run P w = .ok (.value (a.tmps.getD c undef)) w∧∃ u,a.tmps[c]? = some u:=fun c hdc=>by
     obtain ⟨ix,ox,jc,oc,hx1,hx2,hx3,hc1,hc2,hce,hrun⟩:=hC _ hdc
     have hxj:ix = i:=dist_inj' l b1 ix i ox o d hx1 hol hx2 hd
     subst hxj
     rw [hol] at hx1
     cases hx1
     refine ⟨hrun a w,?_⟩
     have hLj:L.getD jc false = true:=by
      obtain ⟨e,he,hb⟩:=Array.any_eq_true'.1 hce
      simp only [Bool.and_eq_true] at hb
      have:=hall e he hb.1
      rwa [Nat.eq_of_beq_eq_true hb.2] at this
     obtain ⟨u,h1,_⟩:=I.val jc oc c hc1 hc2 hLj
     exact ⟨u,h1⟩
    generalize hr:(execOp a.eval o).run P w = r at hob hcv
    cases r with
    | ok n w' =>
     cases n with
     | value u =>
      rw [Oper.upon_value]
      refine step u w' hob.1 hob.2.1 hob.2.2 (fun c hdc=>?_)
      obtain ⟨h1,u',h2⟩:=hcv c hdc
      rw [getD_of h2] at h1
      cases h1
      exact h2
     | enter f args =>
      obtain ⟨rfl,hc⟩:=hob
      rw [Oper.upon_enter]
      refine hc.mono ?_
      rintro e w'' ⟨v,rfl,hb,hv⟩
      exact step v w'' hb hv.1 hv.2 (fun c hdc=>by have:=(hcv c hdc).1; cases this)
     | _=>exact hob.elim
    | _=>exact hob.elim
   ·rw [if_neg hw] at hob ⊢
    exact step undef w (Below.refl _ _) hob.1 (fun d b hd hb=>by rw [hob.2 d hd] at hb; cases hb) (fun c hdc=>by
     obtain ⟨ix,ox,jc,oc,hx1,hx2,hx3,_⟩:=hC _ hdc
     have hxj:ix = i:=dist_inj' l b1 ix i ox o d hx1 hol hx2 hd
     subst hxj
     rw [hol] at hx1
     cases hx1
     exact absurd (by unfold Region.wanted; rw [hx3]) hw)

theorem region_pred_g {id:Nat} {Q:Exit→Act→World→Prop} {a0:Act} {w:World} {l:List Oper} (Φ:(Nat→Bool)→Tmp→Value→World→Prop) (K:Tmp→Value→Option Nat) (S:List (Nat × Tmp)) (C:List (Tmp × Tmp)) (hm:P.follows .mixedOrders = true) (hB:predGB l S a0.tmps.size = true) (hC:∀ x ∈ C,CpyB P l x.1 x.2)
  (hΦ:∀ σ t v w1 w2,Below w1.heap.size w1 w2→Φ σ t v w1→Φ σ t v w2)
  (hK:∀ σ t v w b,Φ σ t v w→K t v = some b→b < w.heap.size)
  (hO:eachS (fun i o=>isSt S i = false→∀ σ,(∀ s os,σ s = true→l[s]? = some os→earlyB os i = false)→OblG P l.toArray (dsts l) a0 w (Φ σ) K o) 0 l)
  (hS:∀ i p os,(i,p) ∈ S→l[i]? = some os→OblT P (dsts l) a0 w Φ K i p os)
  (k:∀ w',Below w.heap.size w w'→finP (Φ (isSt S)) w' (fun a=>disA (dsts l) K a→(∀ x ∈ C,a.tmps[x.1]? = a.tmps[x.2]?)→Q .normal a w') (dsts l) a0) :
  (Code.region id l.toArray true).wp P Q a0 w:=by
 refine wp_region_any hm ?_
 have k:=fun (a:Act) (g:Grown w) h1 h2 h3 h4=>finP_ok (Φ:=Φ (isSt S)) (w:=g.w) (K:=fun a=>disA (dsts l) K a→(∀ x ∈ C,a.tmps[x.1]? = a.tmps[x.2]?)→Q .normal a g.w) (a:=a) (dsts l) a0 (Eq.symm h1) (Eq.symm h2) h4 h3 (k g.w g.h)
 have h0:cnt l.length (Array.replicate l.toArray.size false) = l.toArray.size:=by
  unfold cnt
  simp only [List.size_toArray]
  rw [List.countP_eq_length.2]
  ·simp
  ·intro i hi
   have:=List.mem_range.1 hi
   simp [this]
 have hno:∀ i o,l[i]? = some o→(Array.replicate l.toArray.size false).getD i false = true→False:=fun i o hi hL=>by
  have:i < l.length:=(List.getElem?_eq_some_iff.1 hi).1
  simp [this] at hL
 refine pred_g Φ K S C hB hC hΦ hK (fun i o σ hi his hσ=>by have:=eachS_at 0 hO i o hi; rw [Nat.zero_add] at this; exact this his σ hσ) hS k _ _ _ _ h0 ⟨⟨rfl,rfl,rfl,Nat.le_refl _,fun _ _=>rfl⟩,rfl,rfl,by simp,fun _ _=>rfl,fun i o d hi hd hL=>(hno i o hi hL).elim,fun j oj hj hL=>(hno j oj hj hL).elim,fun i j oi oj di dj vi vj b _ hi _ _ _ hL=>(hno i oi hi hL).elim,fun d c i o _ hi _ hL=>(hno i o hi hL).elim⟩
def pairAll (R:Tmp→(Value→World→Prop)→(Value→World→Prop)→Prop):List (Tmp × (Value→World→Prop))→List (Tmp × (Value→World→Prop))→Prop
 | [],[]=>True
 | (d,S) :: r,(e,T) :: q=>d = e∧R d S T∧pairAll R r q
 | _,_=>False
theorem lk_pair {t:Tmp} {v:Value} {W W':World}:∀ {l1 l2:List (Tmp × (Value→World→Prop))},pairAll (fun d S T=>d = t→S v W→T v W') l1 l2→lk l1 t v W→lk l2 t v W'
 | [],[],_,h=>h
 | (d,S) :: r,(e,T) :: q,h,hl=>by
  obtain ⟨rfl,h1,h2⟩:=h
  unfold lk at *
  by_cases hd:Nat.beq d t = true
  ·rw [if_pos hd] at *
   exact h1 (Nat.eq_of_beq_eq_true hd) hl
  ·rw [if_neg hd] at *
   exact lk_pair h2 hl
def kk:List (Tmp × (Value→Option Nat))→Tmp→Value→Option Nat
 | [],_=>fun _=>none
 | (d,f) :: r,t=>if Nat.beq d t = true then f else kk r t
theorem kk_lt {W:World} {t:Tmp} {v:Value} {b:Nat}:∀ {k:List (Tmp × (Value→Option Nat))} {l:List (Tmp × (Value→World→Prop))},(∀ x ∈ k,x.1 = t→lk l t v W→x.2 v = some b→b < W.heap.size)→lk l t v W→kk k t v = some b→b < W.heap.size
 | [],l,_,_,h=>by cases h
 | (d,f) :: r,l,h,hl,hb=>by
  unfold kk at hb
  by_cases hd:Nat.beq d t = true
  ·rw [if_pos hd] at hb
   exact h (d,f) List.mem_cons_self (Nat.eq_of_beq_eq_true hd) hl hb
  ·rw [if_neg hd] at hb
   exact kk_lt (fun x hx=>h x (List.mem_cons_of_mem _ hx)) hl hb
theorem updS_self (σ:Nat→Bool) (i:Nat):updS σ i i = true:=if_pos rfl
theorem oblg_plain {ops:Array Oper} {ds:List Tmp} {a0:Act} {w0:World} {Φ:Tmp→Value→World→Prop} {K:Tmp→Value→Option Nat} {o:Oper} (ts:List Tmp) (hg:o.guard = none) (ht:o.looksAt #[] = ts)
  (h:∀ (a:Act) (g:Grown w0),seenAll Φ ds a0 a g.w ts→uponP P g.w (fun v w'=>meets Φ o.dst v w'∧∀ d b,o.dst = some d→K d v = some b→g.w.heap.size ≤ b) ((execOp a.eval o).run P g.w)):OblG P ops ds a0 w0 Φ K o:=fun a g hs=>by
 have hw:Region.wanted o (yielded ops a.tmps) = true:=by
  unfold Region.wanted
  rw [hg]
 rw [if_pos hw]
 refine h a g ?_
 rw [looks_none o (by rw [hg]; rfl),ht] at hs
 exact hs
def ptrK:Value→Option Nat
 | .pointer (some a)=>some a.block
 | _=>none
end
end Go.Proofs.YtdfdpghdjlgghaaGreat
namespace Go.Proofs.YtdfdpghdjlgghaaGreat
open Go.ChangeShapes Go.WideShapes Go.ChangeAt Go.RowKit
set_option linter.unusedVariables false
set_option linter.unusedSimpArgs false
set_option maxRecDepth 100000
attribute [local irreducible] Calls
theorem oth_at (W:World) (X k:Nat) (v:Value):Oth X W (W.setCell ⟨X,k,none⟩ v) :=
 have h:=grownBy_setN W ⟨X,k,none⟩ v
 ⟨h.os,h.tape,h.output,h.size,fun j hj hn=>h.block j hj (fun e=>hn (Option.some.inj e))⟩
theorem Oth.blk' {X k:Nat} {W W':World} {o:Obj} (h:Oth X W W') (hb:W.heap[k]? = some o) (hne:k ≠ X):W'.heap[k]? = some o:=(h.blk k (Array.getElem?_eq_some_iff.1 hb).1 hne).trans hb
theorem Oth.bel {X B:Nat} {W0 W W':World} (h:Oth X W W') (hb:Below B W0 W) (hX:B ≤ X) (hB:B ≤ W.heap.size):Below B W0 W':=hb.trans (h.below hX hB)
theorem op_add (a b c d:Int):opI 7 (a,b) (c,d) = (addLo a b c d,addHi a b c d):=by simp [opI]
theorem op_mul (a b c d:Int):opI 9 (a,b) (c,d) = (mulLo a b c d,mulHi a b c d):=by simp [opI]
theorem g_of {l:List (Int × Int)} {i:Nat} (h:i < l.length):l[i]? = some ((gI l i).1,(gI l i).2):=by
 unfold gI
 rw [List.getD_eq_getElem?_getD,List.getElem?_eq_getElem h]
 rfl
theorem pt0_ok (w:World):Calls Tryz.prog 96 #[.int .i64 0] w fun e w'=>e = .returned (.agg #[.int .i64 0,.int .i64 0])∧Below w.heap.size w w':=iv_point 0 w
theorem wrapS {a b:Nat} (h:b ≤ a) (ha:a ≤ 1000000):IntKind.i64.wrap ((a:Int) - (b:Int)) = ((a - b:Nat):Int):=by
 rw [wrapN _ (by omega) (by omega)]
 omega

def domV:Array Value:=#[.func (.func 169) #[] #[],.func (.func 169) #[] #[],.func (.func 170) #[] #[],.func (.func 171) #[] #[],.func (.func 165) #[] #[],.func (.func 172) #[] #[],.func (.func 166) #[] #[],.func (.func 166) #[] #[],.func (.func 173) #[] #[]]
theorem dom_ok (w:World):Calls Tryz.prog 142 #[] w fun e w'=>e = .returned (.agg domV)∧Below w.heap.size w w':=by
 have hB:Below w.heap.size w (w.alloc (.cells domV 201)):=(Below.refl _ _).alloc (Nat.le_refl _) _
 have hx:=World.alloc_heap_new w (.cells domV 201)
 unfold domV at *
 have x0:=heapN_cellj hx (k:=0) rfl
 have x1:=heapN_cellj hx (k:=1) rfl
 have x2:=heapN_cellj hx (k:=2) rfl
 have x3:=heapN_cellj hx (k:=3) rfl
 have x4:=heapN_cellj hx (k:=4) rfl
 have x5:=heapN_cellj hx (k:=5) rfl
 have x6:=heapN_cellj hx (k:=6) rfl
 have x7:=heapN_cellj hx (k:=7) rfl
 have x8:=heapN_cellj hx (k:=8) rfl
 have HB:=Lib.hid hB
 clear hB hx
 go_enter Tryz.func142,Tryz.ntmps142
 go_wp2_with (fail)
 exact bodyPost_ret (v:=.agg domV) (by simp [results,Tryz.results142,go_sem,domV,x0,x1,x2,x3,x4,x5,x6,x7,x8]) rfl ⟨rfl,HB.out⟩
theorem same_ok (a b:Int) (w:World):Calls Tryz.prog 169 #[.agg #[.int .i64 a,.int .i64 b]] w fun e w'=>e = .returned (.agg #[.int .i64 a,.int .i64 b])∧Below w.heap.size w w':=by
 have HB:=Lib.hid (show Below w.heap.size w ((w.alloc (.cells #[.int .i64 a,.int .i64 b] 66)).alloc (.cells #[.int .i64 a,.int .i64 b] 66)) from allocs_below [.cells #[.int .i64 a,.int .i64 b] 66,.cells #[.int .i64 a,.int .i64 b] 66] w)
 have hx:((w.alloc (.cells #[.int .i64 a,.int .i64 b] 66)).alloc (.cells #[.int .i64 a,.int .i64 b] 66)).heap[w.heap.size+1]? = some (.cells #[.int .i64 a,.int .i64 b] 66 (0,0)):=allocs_at [.cells #[.int .i64 a,.int .i64 b] 66,.cells #[.int .i64 a,.int .i64 b] 66] w 1 _ rfl
 have x0:=heapN_cellj hx (k:=0) rfl
 have x1:=heapN_cellj hx (k:=1) rfl
 clear hx
 go_enter Tryz.func169,Tryz.ntmps169
 go_wp2_with (fail)
 exact bodyPost_ret (v:=.agg #[.int .i64 a,.int .i64 b]) (by simp [results,Tryz.results169,go_sem,x0,x1]) rfl ⟨rfl,HB.out⟩
theorem over_ok (a b n:Int) (w:World) (hv:VI a b) (h1:1 ≤ n) (h2:n ≤ 1000000):Calls Tryz.prog 173 #[.agg #[.int .i64 a,.int .i64 b],.int .i64 n] w fun e w'=>e = .returned (.agg #[.int .i64 (mrN 1 n (a,b)).1,.int .i64 (mrN 1 n (a,b)).2])∧Below w.heap.size w w':=by
 unfold mrN
 have KM:=Lib.hid (fun w=>iv_mulratio a b 1 n w hv (by decide) (by decide) h1 (by omega))
 obtain ⟨c,hc⟩:∃ c,mrLo a b 1 n = c:=⟨_,rfl⟩
 obtain ⟨d,hd⟩:∃ d,mrHi a b 1 n = d:=⟨_,rfl⟩
 dsimp only
 rw [hc,hd] at KM ⊢
 clear hc hd
 have HB:=Lib.hid (show Below w.heap.size w ((w.alloc (.cells #[.int .i64 a,.int .i64 b] 66)).alloc (.cells #[.int .i64 0,.int .i64 0] 66)) from allocs_below [.cells #[.int .i64 a,.int .i64 b] 66,.cells #[.int .i64 0,.int .i64 0] 66] w)
 have HX:=Lib.hid (show Blk ((w.alloc (.cells #[.int .i64 a,.int .i64 b] 66)).alloc (.cells #[.int .i64 0,.int .i64 0] 66)) (w.heap.size+1) (.cells #[.int .i64 0,.int .i64 0] 66) from allocs_at [.cells #[.int .i64 a,.int .i64 b] 66,.cells #[.int .i64 0,.int .i64 0] 66] w 1 _ rfl)
 go_enter Tryz.func173,Tryz.ntmps173
 go_wp2_with (fail)
 refine (KM.out _).mono ?_
 rintro e w1 ⟨rfl,hB⟩
 have hx:=HX.out.grow hB
 have hb:=below_then HB.out hB
 have q0:=heapN_cellj hx (k:=0) rfl
 have q1:=heapN_cellj hx (k:=1) rfl
 have y0:w1.frozen? ⟨w.heap.size+1,0,none⟩ = false:=by simp [World.frozen?,show w1.heap[w.heap.size+1]? = _ from hx]
 have y1:w1.frozen? ⟨w.heap.size+1,1,none⟩ = false:=by simp [World.frozen?,show w1.heap[w.heap.size+1]? = _ from hx]
 have HW:=Lib.hid ((hb.setCell (p:=⟨w.heap.size+1,0,none⟩) (by dsimp only; omega) (.int .i64 c)).setCell (p:=⟨w.heap.size+1,1,none⟩) (by dsimp only; omega) (.int .i64 d))
 have hs:=cellsT_setN (o:=1) (u:=.int .i64 d) (cellsT_setN (o:=0) (u:=.int .i64 c) hx)
 have x0:=heapN_cellj hs (k:=0) (u:=.int .i64 c) rfl
 have x1:=heapN_cellj hs (k:=1) (u:=.int .i64 d) rfl
 clear hB hb hx hs
 go_wp2_with (fail)
 exact bodyPost_ret (v:=.agg #[.int .i64 c,.int .i64 d]) (by simp [results,Tryz.results173,go_sem,x0,x1]) rfl ⟨rfl,HW.out⟩
end Go.Proofs.YtdfdpghdjlgghaaGreat
namespace Go.Proofs.YtdfdpghdjlgghaaGreat
open Go.ChangeShapes Go.WideShapes Go.ChangeAt Go.RowKit
set_option linter.unusedVariables false
set_option linter.unusedSimpArgs false
set_option maxRecDepth 100000
attribute [local irreducible] Calls
set_option maxHeartbeats 4000000 in
theorem coef_ok (k:Nat) (v:Value) (l:List (Int × Int)) (w:World) (hv:Vx w v l) (hk:k ≤ 100000) :
  Calls Tryz.prog 189 #[.int .i64 k,v] w fun e w'=>e = .returned (.agg #[.int .i64 (gI l k).1,.int .i64 (gI l k).2])∧Below w.heap.size w w':=by
 obtain ⟨p,c,rfl⟩:=hv.cut
 have hE:Below w.heap.size w (w.alloc (.cells #[.int .i64 0,.int .i64 0] 66)):=allocs_below [.cells #[.int .i64 0,.int .i64 0] 66] w
 have HR:=Lib.hid (show Blk (w.alloc (.cells #[.int .i64 0,.int .i64 0] 66)) (w.heap.size) (.cells #[.int .i64 0,.int .i64 0] 66) from allocs_at [.cells #[.int .i64 0,.int .i64 0] 66] w 0 _ rfl)
 have HW:=Lib.hid hE
 have HV:=Lib.hid (hv.grow hE)
 clear hE hv
 by_cases hlt:k < l.length
 ·have i2:(k:Int) < l.length:=by omega
  obtain ⟨b,o,rfl,hb,rd⟩:=vx_rd HV.out (g_of hlt)
  obtain ⟨c0,hc0⟩:∃ c0,(gI l k).1 = c0:=⟨_,rfl⟩
  obtain ⟨c1,hc1⟩:∃ c1,(gI l k).2 = c1:=⟨_,rfl⟩
  rw [hc0,hc1] at rd ⊢
  obtain ⟨x8,x9⟩:=rd ⟨_,Below.refl _ _⟩
  dsimp only at x8 x9
  clear hc0 hc1 rd
  have hx:(w.alloc (.cells #[.int .i64 c0,.int .i64 c1] 66)).heap[w.heap.size]? = some (.cells #[.int .i64 c0,.int .i64 c1] 66 (0,0)):=World.alloc_heap_new w _
  have x0:=heapN_cellj hx (k:=0) rfl
  have x1:=heapN_cellj hx (k:=1) rfl
  clear hx
  go_enter Tryz.func189,Tryz.ntmps189
  go_wp2_with (fail)
  exact bodyPost_ret (v:=.agg #[.int .i64 c0,.int .i64 c1]) (by simp [results,Tryz.results189,go_sem,x0,x1]) rfl ⟨rfl,(Below.refl _ _).alloc (Nat.le_refl _) _⟩
 ·have i2:¬ (k:Int) < l.length:=by omega
  have e0:gI l k = (0,0):=by
   unfold gI
   rw [List.getD_eq_getElem?_getD,List.getElem?_eq_none (by omega)]
   rfl
  rw [e0]
  go_enter Tryz.func189,Tryz.ntmps189
  go_wp2_with (fail)
  refine (pt0_ok _).mono ?_
  rintro e w1 ⟨rfl,hB⟩
  have hx:=HR.out.grow hB
  have HB:=below_then HW.out hB
  have q0:=heapN_cellj hx (k:=0) rfl
  have q1:=heapN_cellj hx (k:=1) rfl
  have y0:w1.frozen? ⟨w.heap.size,0,none⟩ = false:=by simp [World.frozen?,show w1.heap[w.heap.size]? = _ from hx]
  have y1:w1.frozen? ⟨w.heap.size,1,none⟩ = false:=by simp [World.frozen?,show w1.heap[w.heap.size]? = _ from hx]
  have HW9:=Lib.hid (((HB).setCell (p:=⟨w.heap.size,0,none⟩) (by dsimp only; omega) (.int .i64 (0))).setCell (p:=⟨w.heap.size,1,none⟩) (by dsimp only; omega) (.int .i64 (0)))
  have hs9:=cellsT_setN (o:=1) (u:=.int .i64 (0)) (cellsT_setN (o:=0) (u:=.int .i64 (0)) hx)
  have x0:=heapN_cellj hs9 (k:=0) (u:=.int .i64 (0)) rfl
  have x1:=heapN_cellj hs9 (k:=1) (u:=.int .i64 (0)) rfl
  clear hs9 hx
  go_wp2_with (fail)
  exact bodyPost_ret (v:=.agg #[.int .i64 (0),.int .i64 (0)]) (by simp [results,Tryz.results189,go_sem,x0,x1]) rfl ⟨rfl,HW9.out⟩
end Go.Proofs.YtdfdpghdjlgghaaGreat
