/-
 PredIn U3
-/
import Derived.Test.YtdfdpghdjlgghaaGreatKda
import Derived.Test.YtdfdpghdjlgghaaGreatKdd
import Derived.Test.YtdfdpghdjlgghaaGreatKde
import Derived.RangeFuncNested
import Derived.RangeFuncCalls
import Derived.OrdersIn
import Derived.TacticsIn
import Derived.Laws.EntriesVeiled
namespace Go.Proofs.YtdfdpghdjlgghaaGreat
open Go.RowKit
set_option linter.unusedVariables false
set_option linter.unusedSimpArgs false
section
variable {P:Program} {F:Fence} {nf:Nat}
theorem wpAnyIn_of_seq {md:Region.Mode} {ops:Array Oper} {Q':Exit→Act→World→Prop}:∀ (l:List Oper) (k:Nat) (listed:Array Bool) (a:Act) (w:World),(∀ j,l[j]? = ops[k+j]?) →
  Region.seqB md ops l.length k listed = true→wpListIn F nf P ops Q' l a w→wpAnyIn F nf P md ops Q' l.length listed a w
 | [],_,_,_,_,_,hB,h=>⟨by simpa [Region.seqB] using hB,h⟩
 | o :: l,k,listed,a,w,hl,hB,h=>by
  have h0:ops[k]? = some o:=by simpa using (hl 0).symm
  simp only [List.length_cons,Region.seqB,Bool.and_eq_true,decide_eq_true_eq] at hB
  refine ⟨fun h1=>(by rw [hB.1] at h1; cases h1),fun i hi=>?_⟩
  rw [hB.1] at hi
  have hik:i = k:=by simpa using hi
  subst hik
  have hw:wpOpIn F nf P ops Q' i (wpListIn F nf P ops Q' l) a w:=by unfold wpOpIn; simp only [h0]; exact h
  exact wpOpIn_mono (fun a' w' h'=>wpAnyIn_of_seq l (i+1) _ a' w' (fun j=>by have:=hl (j+1); simpa [Nat.add_assoc,Nat.add_comm 1 j] using this) hB.2 h') hw

def plainB (l:List Oper):Bool:=l.all fun o=>!isAl o && (match o.op with | .defer _=>false | _=>true)
def headInB (l:List Oper) (n:Nat) (N:Nat):Bool :=
 okHead (l.take n) && sizeB (l.take n) N && plainB (l.take n) && Region.noSelect l.toArray && depB .any l.toArray n && backB l.toArray n && decide (n < l.length) && Region.sinkB .any l.toArray n && Region.chainB .any l.toArray n &&
  Region.seqB .any l.toArray (l.length - n) n (Array.replicate n true ++ Array.replicate (l.length - n) false)

structure VInv (w0:World) (e:Act) (l:List Oper) (n:Nat) (L:Array Bool) (a:Act) (w:World):Prop where
 bel:Below w0.heap.size w0 w
 dfr:a.defers = e.defers
 siz:a.tmps.size = e.tmps.size
 old:∀ t,(∀ (i:Nat) (o:Oper),i < n→l[i]? = some o→L.getD i false = false→o.dst ≠ some t)→a.tmps[t]? = e.tmps[t]?

theorem any_in {w0:World} {l:List Oper} {n:Nat} {e:Act} {Q:Exit→Act→World→Prop} (hfn:∀ f,F.fn f) (hdep:F.depth = none)
  (hcall:∀ m f args w R,Calls P f args w R→CallsIn F m P f args w R) (hB:headInB l n e.tmps.size = true)
  (he:∀ o ∈ l.take n,isAl o = false→∃ d v,o.dst = some d∧e.tmps[d]? = some v∧RQ P o e w0 v)
  (hfin:∀ w',Below w0.heap.size w0 w'→wpListIn F nf P l.toArray Q (l.drop n) e w') :
  ∀ (f:Nat) (L:Array Bool) (a:Act) (w:World),cnt n L = f→HeadInv .any l.toArray n L→VInv w0 e (l.take n) n L a w→wpAnyIn F nf P .any l.toArray Q (f+(l.length - n)) L a w:=by
 simp only [headInB,Bool.and_eq_true,decide_eq_true_eq] at hB
 obtain ⟨⟨⟨⟨⟨⟨⟨⟨⟨b1,b2⟩,b3⟩,b4⟩,b5⟩,b6⟩,b7⟩,b8⟩,b9⟩,b10⟩:=hB
 have hlen:(l.take n).length = n:=by rw [List.length_take]; omega
 have hl:∀ k,k < n→l.toArray[k]? = (l.take n)[k]?:=fun k hk=>by
  rw [List.getElem?_take_of_lt hk]
  simp
 have hsel:∀ o ∈ l.take n,∀ cs b,o.op ≠ .select cs b:=fun o ho cs b=>by
  obtain ⟨k,hk⟩:=List.getElem?_of_mem ho
  have hkn:k < n:=by
   have:=(List.getElem?_eq_some_iff.1 hk).1
   omega
  exact Region.noSelect_spec b4 k o cs b (by rw [hl k hkn]; exact hk)
 have listedAll:∀ (L:Array Bool),L.size = l.toArray.size→cnt n L = 0→∀ i,i < n→L.getD i true = true:=fun L _ h0 i hi=>by
  unfold cnt at h0
  have:=List.countP_eq_zero.1 h0 i (List.mem_range.2 hi)
  simpa using this
 intro f
 induction f with
 | zero =>
  intro L a w hc inv I
  have hall:=listedAll L inv.size hc
  have hLe:L = Array.replicate n true ++ Array.replicate (l.length - n) false:=by
   refine Array.ext (by rw [inv.size]; simp; omega) fun i hi hi'=>?_
   by_cases hin:i < n
   ·have:=hall i hin
    simp [hi] at this
    rw [this,Array.getElem_append_left (by simpa using hin)]
    simp
   ·have h2:i < l.toArray.size:=by rw [← inv.size]; exact hi
    have:=inv.tail i (by omega) h2
    simp [hi] at this
    rw [this,Array.getElem_append_right (by simp; omega)]
    simp
  have lst:∀ i,i < n→L.getD i false = true:=fun i hi=>by
   have:=hall i hi
   have hs:i < L.size:=by rw [inv.size]; simp; omega
   simp [hs] at this ⊢
   exact this
  rw [Nat.zero_add]
  have hd:(l.drop n).length = l.length - n:=by simp
  rw [← hd]
  have hae:a = e:=act_ext I.dfr I.siz fun t=>I.old t fun i o hi ho hL=>by rw [lst i hi] at hL; cases hL
  rw [hae]
  exact wpAnyIn_of_seq (l.drop n) n L e w (fun j=>by simp [List.getElem?_drop]) (by rw [hd,hLe]; exact b10) (hfin w I.bel)
 | succ f ih =>
  intro L a w hc inv I
  have hex:∃ i,i < n∧L.getD i true = false:=by
   by_cases h:∃ i,i < n∧L.getD i true = false
   ·exact h
   ·exfalso
    have:cnt n L = 0:=by
     unfold cnt
     refine List.countP_eq_zero.2 fun i hi=>?_
     have hin:=List.mem_range.1 hi
     cases hh:L.getD i true with
     | true=>simp
     | false=>exact absurd ⟨i,hin,hh⟩ h
    omega
  obtain ⟨i0,hi0,hu0⟩:=hex
  have hne:Region.ready .any l.toArray L ≠ []:=fun h0=>by
   have all:∀ i,i < n→L.getD i false = true:=fun i=>by
    induction i using Nat.strongRecOn with
    | _ i ihh =>
     intro hi
     cases hh:L.getD i false with
     | true=>rfl
     | false =>
      exfalso
      have hs:i < L.size:=by rw [inv.size]; simp; omega
      have hsl:i < l.length:=by omega
      have hmem:i ∈ Region.ready .any l.toArray L:=mem_ready.2 ⟨getD_in hs hh,l[i],by simp [hsl],fun ed hed hb=>by
       have h1:=List.all_eq_true.1 b6 i (List.mem_range.2 hi)
       have ho:l.toArray[i]? = some l[i]:=by simp [hsl]
       simp only [ho] at h1
       have h2:=(Array.all_eq_true'.1 h1) ed hed
       simp only [decide_eq_true_eq] at h2
       exact ihh ed.on h2 (by omega)⟩
      rw [h0] at hmem
      cases hmem
   have:=all i0 hi0
   rw [getD_both hu0] at this
   cases this
  rw [show f+1+(l.length - n) = (f+(l.length - n))+1 by omega]
  refine ⟨fun h0=>absurd h0 hne,fun i hi=>?_⟩
  have hin:i < n:=by
   rcases Nat.lt_or_ge i n with h | h
   ·exact h
   ·exact absurd hi (tail_waits b8 b9 (by simpa using b7) inv _ i0 rfl hi0 hu0 i h)
  obtain ⟨hun,o,ho,hall⟩:=mem_ready.1 hi
  have hol:(l.take n)[i]? = some o:=by rw [← hl i hin]; exact ho
  have hmem:o ∈ l.take n:=List.mem_of_getElem? hol
  obtain ⟨hg,d,hd⟩:=okHead_at _ b1 i o hol
  have hdN:d < e.tmps.size:=by
   have:=List.all_eq_true.1 b2 d (List.mem_filterMap.2 ⟨o,hmem,hd⟩)
   simpa using this
  have hs:i < L.size:=by rw [inv.size]; simp; omega
  have hcnt:cnt n (L.setIfInBounds i true) = f:=by
   have:=cnt_set (fun k=>!L.getD k true) (fun k=>!(L.setIfInBounds i true).getD k true) i (by show (!L.getD i true) = true; rw [hun]; rfl) (by simp [Array.getD_eq_getD_getElem?,hs]) (fun j hj=>by
    simp only [Array.getD_eq_getD_getElem?,Array.getElem?_setIfInBounds_ne (Ne.symm hj)]) n
   rw [if_pos hin] at this
   unfold cnt at *
   omega
  have hset:∀ k,(L.setIfInBounds i true).getD k false = if i = k then true else L.getD k false:=fun k=>by
   by_cases hik:i = k
   ·subst hik
    rw [if_pos rfl]
    simp [Array.getD_eq_getD_getElem?,hs]
   ·rw [if_neg hik]
    simp [Array.getD_eq_getD_getElem?,Array.getElem?_setIfInBounds_ne hik]
  have hpl:=List.all_eq_true.1 b3 o hmem
  simp only [Bool.and_eq_true,Bool.not_eq_true'] at hpl
  obtain ⟨hna,hnd⟩:=hpl
  have hsame:execOp a.eval o = execOp e.eval o:=by
   refine exec_agree o (hsel o hmem) a e fun t ht=>I.old t fun j oj hj hoj hor hdj=>?_
   have h1:=List.all_eq_true.1 (List.all_eq_true.1 b5 i (List.mem_range.2 hin)) j (List.mem_range.2 hj)
   have hoj':l.toArray[j]? = some oj:=by rw [hl j hj]; exact hoj
   simp only [ho,hoj',hdj] at h1
   simp only [Bool.or_eq_true,Bool.and_eq_true,Bool.not_eq_true'] at h1
   rcases h1 with h1 | ⟨h1,h2⟩
   ·have:=(List.contains_iff_mem).2 ht
    rw [h1] at this
    cases this
   ·obtain ⟨o',ho',ed,hed,hb,hon⟩:=Region.waitsFor_spec h1
    rw [ho] at ho'
    have:=hall ed (by rw [Option.some.inj ho']; exact hed) hb
    rw [hon] at this
    rw [this] at hor; cases hor
  have keep:∀ v w',e.tmps[d]? = some v→Below w.heap.size w w'→wpAnyIn F nf P .any l.toArray Q (f+(l.length - n)) (L.setIfInBounds i true) (a.put o.dst v) w':=fun v w' hv hb=>by
   refine ih _ _ _ hcnt (inv.set hi hin) ⟨I.bel.trans (hb.mono I.bel.size),by rw [put_def,I.dfr],by rw [put_size,I.siz],fun t ht=>?_⟩
   by_cases htd:d = t
   ·subst htd
    rw [hd,put_get_eq _ _ (by rw [I.siz]; exact hdN),hv]
   ·rw [hd,put_get_ne _ _ htd]
    refine I.old t fun j oj hj hoj hor hdj=>?_
    refine ht j oj hj hoj ?_ hdj
    rw [hset]
    by_cases hij:i = j
    ·subst hij
     rw [hol] at hoj
     have:=Option.some.inj hoj
     subst this
     rw [hd] at hdj
     exact absurd (Option.some.inj hdj) htd
    ·rw [if_neg hij]; exact hor
  have hwant:Region.wanted o (yielded l.toArray a.tmps) = true:=by
   unfold Region.wanted
   cases hgo:o.guard with
   | none=>rfl
   | some x=>rw [hgo] at hg; cases hg
  unfold wpOpIn
  simp only [ho,hwant,if_true]
  unfold Oper.wpIn
  refine ⟨fun f _=>hfn f,?_⟩
  rw [Oper.semAt_eq _ _ _ (fun c h=>by rw [h] at hnd; cases hnd),hsame]
  obtain ⟨d',v,hd',hv,hq⟩:=he o hmem hna
  rw [hd] at hd'
  have:=Option.some.inj hd'
  subst this
  have h3:=hq ⟨w,I.bel⟩
  simp only at h3
  generalize (execOp e.eval o).run P w = r at *
  cases r with
  | ok x w' =>
   cases x <;> simp only [rUpon] at h3 <;> simp only [Oper.uponIn]
   case value u =>
    obtain ⟨e1,e2⟩:=h3
    rw [e1,e2]
    exact keep v w hv (Below.refl _ _)
   case enter f args =>
    obtain ⟨e1,hc⟩:=h3
    rw [e1]
    refine ⟨fun h=>(by rw [hdep] at h; cases h),?_⟩
    exact (hcall _ _ _ _ _ hc).mono fun e w'' ⟨he,hw''⟩=>by subst he; exact keep v w'' hv hw''
  | halt x w'=>simp only [rUpon] at h3

theorem region_in {id:Nat} {Q:Exit→Act→World→Prop} {a:Act} {w:World} {l:List Oper} (n:Nat) (hfn:∀ f,F.fn f) (hdep:F.depth = none)
  (hcall:∀ m f args w R,Calls P f args w R→CallsIn F m P f args w R) (hm:P.follows .mixedOrders = true) (hB:headInB l n a.tmps.size = true)
  (h:wpData P w (fun e=>∀ w',Below w.heap.size w w'→wpListIn F nf P l.toArray Q (l.drop n) e w') (l.take n) a):(Code.region id l.toArray true).wpIn F nf P Q a w:=by
 have hB':=hB
 simp only [headInB,Bool.and_eq_true,decide_eq_true_eq] at hB'
 obtain ⟨⟨⟨⟨⟨⟨⟨⟨⟨b1,b2⟩,b3⟩,b4⟩,b5⟩,b6⟩,b7⟩,b8⟩,b9⟩,b10⟩:=hB'
 have hlen:(l.take n).length = n:=by rw [List.length_take]; omega
 have hsel:∀ o ∈ l.take n,∀ cs b,o.op ≠ .select cs b:=fun o ho cs b=>by
  obtain ⟨k,hk⟩:=List.getElem?_of_mem ho
  have hkn:k < n:=by
   have:=(List.getElem?_eq_some_iff.1 hk).1
   omega
  refine Region.noSelect_spec b4 k o cs b ?_
  rw [List.getElem?_take_of_lt hkn] at hk
  simpa using hk
 obtain ⟨e,h1,h2,h3,h4,h5⟩:=wpData_end a.tmps.size (l.take n) a b1 b2 hsel rfl h
 refine wpIn_region_any hm ?_
 have hsz:l.toArray.size = n+(l.length - n):=by simp; omega
 have:=any_in (nf:=nf) (w0:=w) (Q:=Q) hfn hdep hcall (by rw [h3]; exact hB) h5 h1 n (Array.replicate l.toArray.size false) a { w with drawn:=w.drawn+1 } ?_ ?_ ?_
 ·rw [← hsz] at this
  exact this
 ·unfold cnt
  have:(List.range n).countP (fun i=>!(Array.replicate l.toArray.size false).getD i true) = (List.range n).length:=by
   refine List.countP_eq_length.2 fun i hi=>?_
   have hi':=List.mem_range.1 hi
   have hs:i < l.length:=by omega
   simp [Array.getD_eq_getD_getElem?,hs]
  simpa using this
 ·refine ⟨by simp,fun j oj hj hl=>?_,fun t ht ht'=>?_⟩
  ·rw [getD_replicate_false] at hl; cases hl
  ·simp only [List.size_toArray] at ht'
   simp [Array.getD_eq_getD_getElem?,ht']
 ·refine ⟨⟨rfl,rfl,rfl,Nat.le_refl _,fun _ _=>rfl⟩,h2.symm,h3.symm,fun t ht=>?_⟩
  refine (h4 t fun htd=>?_).symm
  obtain ⟨o,ho,hdo⟩:=List.mem_filterMap.1 htd
  obtain ⟨i,hi⟩:=List.getElem?_of_mem ho
  have hin:i < n:=by
   have:=(List.getElem?_eq_some_iff.1 hi).1
   omega
  exact ht i o hin hi (getD_replicate_false _ _) hdo
theorem wide_fn (f:FuncId):Fence.wide.fn f:=trivial
theorem wide_call (m:Nat) (f:FuncId) (args:Array Value) (w:World) (R:Ending→World→Prop) (h:Calls P f args w R):CallsIn Fence.wide m P f args w R:=callsIn_wide.2 h
theorem round_fn (l:Nat) (f:FuncId):(Fence.wide.inRound l).fn f:=trivial
theorem round_call (l:Nat) (m:Nat) (f:FuncId) (args:Array Value) (w:World) (R:Ending→World→Prop) (h:Calls P f args w R):CallsIn (Fence.wide.inRound l) m P f args w R:=CallsIn.inRound l (callsIn_wide.2 h)
end
end Go.Proofs.YtdfdpghdjlgghaaGreat
namespace Go.Proofs.YtdfdpghdjlgghaaGreat
open Go.RowKit
set_option linter.unusedVariables false
set_option linter.unusedSimpArgs false
section
variable {P:Program} {F:Fence} {nf:Nat}
def noDef (l:List Oper):Bool:=l.all fun o=>match o.op with | .defer _=>false | _=>true
def predInB (l:List Oper) (n:Nat) (N:Nat):Bool:=distB (dsts (l.take n)) && allDst (l.take n) && waitB l.toArray (dsts (l.take n)) (l.take n) && leadB 0 (l.take n) && noDef (l.take n) && sizeB (l.take n) N &&
 decide (n < l.length) && Region.sinkB .any l.toArray n && Region.chainB .any l.toArray n && Region.seqB .any l.toArray (l.length - n) n (Array.replicate n true ++ Array.replicate (l.length - n) false)

structure QInv (Φ:Tmp→Value→World→Prop) (w0:World) (a0:Act) (l:List Oper) (L:Array Bool) (a:Act) (w:World):Prop where
 bel:Below w0.heap.size w0 w
 dfr:a.defers = a0.defers
 siz:a.tmps.size = a0.tmps.size
 old:∀ t,t ∉ dsts l→a.tmps[t]? = a0.tmps[t]?
 val:∀ (i:Nat) (o:Oper) (d:Tmp),l[i]? = some o→o.dst = some d→L.getD i false = true→∃ v,a.tmps[d]? = some v∧Φ d v w

theorem pred_in {l:List Oper} {n:Nat} {a0:Act} {w0:World} {Q:Exit→Act→World→Prop} (Φ:Tmp→Value→World→Prop) (hfn:∀ f,F.fn f) (hdep:F.depth = none)
  (hcall:∀ m f args w R,Calls P f args w R→CallsIn F m P f args w R) (hB:predInB l n a0.tmps.size = true)
  (hΦ:∀ t v w1 w2,Below w1.heap.size w1 w2→Φ t v w1→Φ t v w2)
  (hO:∀ o ∈ l.take n,Obl P l.toArray (dsts (l.take n)) a0 w0 Φ o)
  (k:∀ w',Below w0.heap.size w0 w'→finP Φ w' (fun a=>wpListIn F nf P l.toArray Q (l.drop n) a w') (dsts (l.take n)) a0) :
  ∀ (f:Nat) (L:Array Bool) (a:Act) (w:World),cnt n L = f→HeadInv .any l.toArray n L→QInv Φ w0 a0 (l.take n) L a w→wpAnyIn F nf P .any l.toArray Q (f+(l.length - n)) L a w:=by
 simp only [predInB,Bool.and_eq_true,decide_eq_true_eq] at hB
 obtain ⟨⟨⟨⟨⟨⟨⟨⟨⟨b1,b2⟩,b3⟩,b4⟩,b5⟩,b6⟩,b7⟩,b8⟩,b9⟩,b10⟩:=hB
 have hlen:(l.take n).length = n:=by rw [List.length_take]; omega
 have hl:∀ k,k < n→l.toArray[k]? = (l.take n)[k]?:=fun k hk=>by
  rw [List.getElem?_take_of_lt hk]
  simp
 have isz:∀ d ∈ dsts (l.take n),d < a0.tmps.size:=fun d hd=>by
  have:=List.all_eq_true.1 b6 d hd
  simpa using this
 intro f
 induction f with
 | zero =>
  intro L a w hc inv I
  have hall:∀ i,i < n→L.getD i true = true:=fun i hi=>by
   unfold cnt at hc
   have:=List.countP_eq_zero.1 hc i (List.mem_range.2 hi)
   simpa using this
  have hLe:L = Array.replicate n true ++ Array.replicate (l.length - n) false:=by
   refine Array.ext (by rw [inv.size]; simp; omega) fun i hi hi'=>?_
   by_cases hin:i < n
   ·have:=hall i hin
    simp [hi] at this
    rw [this,Array.getElem_append_left (by simpa using hin)]
    simp
   ·have h2:i < l.toArray.size:=by rw [← inv.size]; exact hi
    have:=inv.tail i (by omega) h2
    simp [hi] at this
    rw [this,Array.getElem_append_right (by simp; omega)]
    simp
  have lst:∀ i,i < n→L.getD i false = true:=fun i hi=>by
   have:=hall i hi
   have hs:i < L.size:=by rw [inv.size]; simp; omega
   simp [hs] at this ⊢
   exact this
  rw [Nat.zero_add]
  have hd:(l.drop n).length = l.length - n:=by simp
  rw [← hd]
  refine wpAnyIn_of_seq (l.drop n) n L a w (fun j=>by simp [List.getElem?_drop]) (by rw [hd,hLe]; exact b10) ?_
  refine finP_ok (Φ:=Φ) (w:=w) (K:=fun a=>wpListIn F nf P l.toArray Q (l.drop n) a w) (dsts (l.take n)) a0 I.dfr.symm I.siz.symm (fun d hd=>?_) I.old (k w I.bel)
  obtain ⟨o,ho,hdo⟩:=List.mem_filterMap.1 hd
  obtain ⟨i,hi⟩:=List.getElem?_of_mem ho
  have hin:i < n:=by
   have:=(List.getElem?_eq_some_iff.1 hi).1
   omega
  exact I.val i o d hi hdo (lst i hin)
 | succ f ih =>
  intro L a w hc inv I
  have hex:∃ i,i < n∧L.getD i true = false:=by
   by_cases h:∃ i,i < n∧L.getD i true = false
   ·exact h
   ·exfalso
    have:cnt n L = 0:=by
     unfold cnt
     refine List.countP_eq_zero.2 fun i hi=>?_
     have hin:=List.mem_range.1 hi
     cases hh:L.getD i true with
     | true=>simp
     | false=>exact absurd ⟨i,hin,hh⟩ h
    omega
  obtain ⟨i0,hi0,hu0⟩:=hex
  have hne:Region.ready .any l.toArray L ≠ []:=fun h0=>by
   have all:∀ i,i < n→L.getD i false = true:=fun i=>by
    induction i using Nat.strongRecOn with
    | _ i ihh =>
     intro hi
     cases hh:L.getD i false with
     | true=>rfl
     | false =>
      exfalso
      have hs:i < L.size:=by rw [inv.size]; simp; omega
      have hsl:i < l.length:=by omega
      have hmem:i ∈ Region.ready .any l.toArray L:=mem_ready.2 ⟨getD_in hs hh,l[i],by simp [hsl],fun ed hed hb=>by
       have hio:(l.take n)[i]? = some l[i]:=by rw [← hl i hi]; simp [hsl]
       have:=leadB_at (l.take n) 0 b4 i l[i] hio ed hed hb
       exact ihh ed.on (by omega) (by omega)⟩
      rw [h0] at hmem
      cases hmem
   have:=all i0 hi0
   rw [getD_both hu0] at this
   cases this
  rw [show f+1+(l.length - n) = (f+(l.length - n))+1 by omega]
  refine ⟨fun h0=>absurd h0 hne,fun i hi=>?_⟩
  have hin:i < n:=by
   rcases Nat.lt_or_ge i n with h | h
   ·exact h
   ·exact absurd hi (tail_waits b8 b9 (by simpa using b7) inv _ i0 rfl hi0 hu0 i h)
  obtain ⟨hun,o,ho,hall⟩:=mem_ready.1 hi
  have hol:(l.take n)[i]? = some o:=by rw [← hl i hin]; exact ho
  have hmem:o ∈ l.take n:=List.mem_of_getElem? hol
  obtain ⟨d,hd⟩:∃ d,o.dst = some d:=by
   have:=List.all_eq_true.1 b2 o hmem
   exact Option.isSome_iff_exists.1 this
  have hdm:d ∈ dsts (l.take n):=List.mem_filterMap.2 ⟨o,hmem,hd⟩
  have hdN:d < a.tmps.size:=by rw [I.siz]; exact isz d hdm
  have hsL:i < L.size:=by rw [inv.size]; simp; omega
  have hcnt:cnt n (L.setIfInBounds i true) = f:=by
   have:=cnt_set (fun k=>!L.getD k true) (fun k=>!(L.setIfInBounds i true).getD k true) i (by show (!L.getD i true) = true; rw [hun]; rfl) (by simp [Array.getD_eq_getD_getElem?,hsL]) (fun j hj=>by
    simp only [Array.getD_eq_getD_getElem?,Array.getElem?_setIfInBounds_ne (Ne.symm hj)]) n
   rw [if_pos hin] at this
   unfold cnt at *
   omega
  have hset:∀ k,(L.setIfInBounds i true).getD k false = if i = k then true else L.getD k false:=fun k=>by
   by_cases hik:i = k
   ·subst hik
    rw [if_pos rfl]
    simp [Array.getD_eq_getD_getElem?,hsL]
   ·rw [if_neg hik]
    simp [Array.getD_eq_getD_getElem?,Array.getElem?_setIfInBounds_ne hik]
  have step:∀ v w',Below w.heap.size w w'→meets Φ o.dst v w'→wpAnyIn F nf P .any l.toArray Q (f+(l.length - n)) (L.setIfInBounds i true) (a.put o.dst v) w':=fun v w' hb hv=>by
   refine ih _ _ _ hcnt (inv.set hi hin) ⟨I.bel.trans (hb.mono I.bel.size),by rw [put_def,I.dfr],by rw [put_size,I.siz],fun t ht=>?_,fun j oj dj hj hdj hLj=>?_⟩
   ·have hne:d ≠ t:=fun e=>ht (e ▸ hdm)
    rw [hd,put_get_ne _ _ hne]
    exact I.old t ht
   ·by_cases hij:i = j
    ·subst hij
     rw [hol] at hj
     have e:=Option.some.inj hj
     subst e
     rw [hd] at hdj
     have e:=Option.some.inj hdj
     subst e
     rw [hd] at hv ⊢
     exact ⟨v,put_get_eq _ _ hdN,hv⟩
    ·have hjn:j < n:=by
      have:=(List.getElem?_eq_some_iff.1 hj).1
      omega
     rw [hset,if_neg hij] at hLj
     obtain ⟨u,h1,h2⟩:=I.val j oj dj hj hdj hLj
     have hne:d ≠ dj:=fun e=>hij (dist_inj (l.take n) b1 b2 i j o oj d hol hj hd (by rw [e]; exact hdj))
     exact ⟨u,by rw [hd,put_get_ne _ _ hne]; exact h1,hΦ _ _ _ _ hb h2⟩
  have hlook:seenAll Φ (dsts (l.take n)) a0 a w (o.looksAt l.toArray):=seenAll_of _ fun t ht=>by
   unfold seen
   by_cases hin':inL t (dsts (l.take n)) = true
   ·rw [if_pos hin']
    have hmt:=(inL_iff t _).1 hin'
    have h1:=List.all_eq_true.1 (List.all_eq_true.1 b3 o hmem) t ht
    simp only [Bool.or_eq_true,Bool.not_eq_true'] at h1
    rcases h1 with h1 | h1
    ·have:=(List.contains_iff_mem).2 hmt
     rw [h1] at this
     cases this
    ·obtain ⟨e,he,hb⟩:=Array.any_eq_true'.1 h1
     simp only [Bool.and_eq_true] at hb
     obtain ⟨hb1,hb2⟩:=hb
     have hlis:=hall e he hb1
     have hen:e.on < n:=by
      have:=leadB_at (l.take n) 0 b4 i o hol e he hb1
      omega
     cases hoj:l.toArray[e.on]? with
     | none=>rw [hoj] at hb2; cases hb2
     | some oj =>
      rw [hoj] at hb2
      simp only [beq_iff_eq] at hb2
      exact I.val e.on oj t (by rw [← hl _ hen]; exact hoj) hb2 hlis
   ·rw [if_neg hin']
    exact I.old t fun h=>hin' ((inL_iff t _).2 h)
  have hob:=hO o hmem a ⟨w,I.bel⟩ hlook
  have hnd:∀ c,o.op ≠ .defer c:=fun c h=>by
   have:=List.all_eq_true.1 b5 o hmem
   rw [h] at this
   cases this
  unfold wpOpIn
  simp only [ho]
  by_cases hw:Region.wanted o (yielded l.toArray a.tmps) = true
  ·rw [if_pos hw] at hob ⊢
   unfold Oper.wpIn
   refine ⟨fun f _=>hfn f,?_⟩
   rw [Oper.semAt_eq _ _ _ hnd]
   generalize hr:(execOp a.eval o).run P w = r at hob
   cases r with
   | ok n w' =>
    cases n with
    | value u =>
     rw [Oper.uponIn_value]
     exact step u w' hob.1 hob.2
    | enter f args =>
     obtain ⟨rfl,hc⟩:=hob
     rw [Oper.uponIn_enter]
     refine ⟨fun h=>(by rw [hdep] at h; cases h),?_⟩
     refine (hcall _ _ _ _ _ hc).mono ?_
     rintro e w'' ⟨v,rfl,hb,hv⟩
     exact step v w'' hb hv
    | _=>exact hob.elim
   | _=>exact hob.elim
  ·rw [if_neg hw] at hob ⊢
   exact ⟨fun f _=>hfn f,step undef w (Below.refl _ _) hob⟩

theorem region_pred_in {id:Nat} {Q:Exit→Act→World→Prop} {a0:Act} {w:World} {l:List Oper} (n:Nat) (Φ:Tmp→Value→World→Prop) (hfn:∀ f,F.fn f) (hdep:F.depth = none)
  (hcall:∀ m f args w R,Calls P f args w R→CallsIn F m P f args w R) (hm:P.follows .mixedOrders = true) (hB:predInB l n a0.tmps.size = true)
  (hΦ:∀ t v w1 w2,Below w1.heap.size w1 w2→Φ t v w1→Φ t v w2)
  (hO:eachO (Obl P l.toArray (dsts (l.take n)) a0 w Φ) (l.take n))
  (k:∀ w',Below w.heap.size w w'→finP Φ w' (fun a=>wpListIn F nf P l.toArray Q (l.drop n) a w') (dsts (l.take n)) a0) :
  (Code.region id l.toArray true).wpIn F nf P Q a0 w:=by
 have hn:n < l.length:=by
  simp only [predInB,Bool.and_eq_true,decide_eq_true_eq] at hB
  exact hB.1.1.1.2
 refine wpIn_region_any hm ?_
 have hsz:l.toArray.size = n+(l.length - n):=by simp; omega
 have:=pred_in (nf:=nf) (Q:=Q) Φ hfn hdep hcall hB hΦ (eachO_at hO) k n (Array.replicate l.toArray.size false) a0 { w with drawn:=w.drawn+1 } ?_ ?_ ?_
 ·rw [← hsz] at this
  exact this
 ·unfold cnt
  have:(List.range n).countP (fun i=>!(Array.replicate l.toArray.size false).getD i true) = (List.range n).length:=by
   refine List.countP_eq_length.2 fun i hi=>?_
   have hi':=List.mem_range.1 hi
   have hs:i < l.length:=by omega
   simp [Array.getD_eq_getD_getElem?,hs]
  simpa using this
 ·refine ⟨by simp,fun j oj hj hl=>?_,fun t ht ht'=>?_⟩
  ·rw [getD_replicate_false] at hl; cases hl
  ·simp only [List.size_toArray] at ht'
   simp [Array.getD_eq_getD_getElem?,ht']
 ·refine ⟨⟨rfl,rfl,rfl,Nat.le_refl _,fun _ _=>rfl⟩,rfl,rfl,fun _ _=>rfl,fun i o d hi hd hL=>?_⟩
  exfalso
  have:i < n:=by
   have:=(List.getElem?_eq_some_iff.1 hi).1
   rw [List.length_take] at this
   omega
  rw [getD_replicate_false] at hL
  cases hL
end
end Go.Proofs.YtdfdpghdjlgghaaGreat
namespace Go.Proofs.YtdfdpghdjlgghaaGreat
open Go.RowKit
set_option linter.unusedVariables false
set_option linter.unusedSimpArgs false
section
variable {P:Program}
theorem pred_n {l:List Oper} {n:Nat} {a0:Act} {w0:World} {Q:Exit→Act→World→Prop} (Φ:Tmp→Value→World→Prop) (hB:predInB l n a0.tmps.size = true)
  (hΦ:∀ t v w1 w2,Below w1.heap.size w1 w2→Φ t v w1→Φ t v w2)
  (hO:∀ o ∈ l.take n,Obl P l.toArray (dsts (l.take n)) a0 w0 Φ o)
  (k:∀ w',Below w0.heap.size w0 w'→finP Φ w' (fun a=>wpList P l.toArray Q (l.drop n) a w') (dsts (l.take n)) a0) :
  ∀ (f:Nat) (L:Array Bool) (a:Act) (w:World),cnt n L = f→HeadInv .any l.toArray n L→QInv Φ w0 a0 (l.take n) L a w→wpAny P .any l.toArray Q (f+(l.length - n)) L a w:=by
 simp only [predInB,Bool.and_eq_true,decide_eq_true_eq] at hB
 obtain ⟨⟨⟨⟨⟨⟨⟨⟨⟨b1,b2⟩,b3⟩,b4⟩,b5⟩,b6⟩,b7⟩,b8⟩,b9⟩,b10⟩:=hB
 have hlen:(l.take n).length = n:=by rw [List.length_take]; omega
 have hl:∀ k,k < n→l.toArray[k]? = (l.take n)[k]?:=fun k hk=>by
  rw [List.getElem?_take_of_lt hk]
  simp
 have isz:∀ d ∈ dsts (l.take n),d < a0.tmps.size:=fun d hd=>by
  have:=List.all_eq_true.1 b6 d hd
  simpa using this
 intro f
 induction f with
 | zero =>
  intro L a w hc inv I
  have hall:∀ i,i < n→L.getD i true = true:=fun i hi=>by
   unfold cnt at hc
   have:=List.countP_eq_zero.1 hc i (List.mem_range.2 hi)
   simpa using this
  have hLe:L = Array.replicate n true ++ Array.replicate (l.length - n) false:=by
   refine Array.ext (by rw [inv.size]; simp; omega) fun i hi hi'=>?_
   by_cases hin:i < n
   ·have:=hall i hin
    simp [hi] at this
    rw [this,Array.getElem_append_left (by simpa using hin)]
    simp
   ·have h2:i < l.toArray.size:=by rw [← inv.size]; exact hi
    have:=inv.tail i (by omega) h2
    simp [hi] at this
    rw [this,Array.getElem_append_right (by simp; omega)]
    simp
  have lst:∀ i,i < n→L.getD i false = true:=fun i hi=>by
   have:=hall i hi
   have hs:i < L.size:=by rw [inv.size]; simp; omega
   simp [hs] at this ⊢
   exact this
  rw [Nat.zero_add]
  have hd:(l.drop n).length = l.length - n:=by simp
  rw [← hd]
  refine wpAny_of_seq (l.drop n) n L a w (fun j=>by simp [List.getElem?_drop]) (by rw [hd,hLe]; exact b10) ?_
  refine finP_ok (Φ:=Φ) (w:=w) (K:=fun a=>wpList P l.toArray Q (l.drop n) a w) (dsts (l.take n)) a0 I.dfr.symm I.siz.symm (fun d hd=>?_) I.old (k w I.bel)
  obtain ⟨o,ho,hdo⟩:=List.mem_filterMap.1 hd
  obtain ⟨i,hi⟩:=List.getElem?_of_mem ho
  have hin:i < n:=by
   have:=(List.getElem?_eq_some_iff.1 hi).1
   omega
  exact I.val i o d hi hdo (lst i hin)
 | succ f ih =>
  intro L a w hc inv I
  have hex:∃ i,i < n∧L.getD i true = false:=by
   by_cases h:∃ i,i < n∧L.getD i true = false
   ·exact h
   ·exfalso
    have:cnt n L = 0:=by
     unfold cnt
     refine List.countP_eq_zero.2 fun i hi=>?_
     have hin:=List.mem_range.1 hi
     cases hh:L.getD i true with
     | true=>simp
     | false=>exact absurd ⟨i,hin,hh⟩ h
    omega
  obtain ⟨i0,hi0,hu0⟩:=hex
  have hne:Region.ready .any l.toArray L ≠ []:=fun h0=>by
   have all:∀ i,i < n→L.getD i false = true:=fun i=>by
    induction i using Nat.strongRecOn with
    | _ i ihh =>
     intro hi
     cases hh:L.getD i false with
     | true=>rfl
     | false =>
      exfalso
      have hs:i < L.size:=by rw [inv.size]; simp; omega
      have hsl:i < l.length:=by omega
      have hmem:i ∈ Region.ready .any l.toArray L:=mem_ready.2 ⟨getD_in hs hh,l[i],by simp [hsl],fun ed hed hb=>by
       have hio:(l.take n)[i]? = some l[i]:=by rw [← hl i hi]; simp [hsl]
       have:=leadB_at (l.take n) 0 b4 i l[i] hio ed hed hb
       exact ihh ed.on (by omega) (by omega)⟩
      rw [h0] at hmem
      cases hmem
   have:=all i0 hi0
   rw [getD_both hu0] at this
   cases this
  rw [show f+1+(l.length - n) = (f+(l.length - n))+1 by omega]
  refine ⟨fun h0=>absurd h0 hne,fun i hi=>?_⟩
  have hin:i < n:=by
   rcases Nat.lt_or_ge i n with h | h
   ·exact h
   ·exact absurd hi (tail_waits b8 b9 (by simpa using b7) inv _ i0 rfl hi0 hu0 i h)
  obtain ⟨hun,o,ho,hall⟩:=mem_ready.1 hi
  have hol:(l.take n)[i]? = some o:=by rw [← hl i hin]; exact ho
  have hmem:o ∈ l.take n:=List.mem_of_getElem? hol
  obtain ⟨d,hd⟩:∃ d,o.dst = some d:=by
   have:=List.all_eq_true.1 b2 o hmem
   exact Option.isSome_iff_exists.1 this
  have hdm:d ∈ dsts (l.take n):=List.mem_filterMap.2 ⟨o,hmem,hd⟩
  have hdN:d < a.tmps.size:=by rw [I.siz]; exact isz d hdm
  have hsL:i < L.size:=by rw [inv.size]; simp; omega
  have hcnt:cnt n (L.setIfInBounds i true) = f:=by
   have:=cnt_set (fun k=>!L.getD k true) (fun k=>!(L.setIfInBounds i true).getD k true) i (by show (!L.getD i true) = true; rw [hun]; rfl) (by simp [Array.getD_eq_getD_getElem?,hsL]) (fun j hj=>by
    simp only [Array.getD_eq_getD_getElem?,Array.getElem?_setIfInBounds_ne (Ne.symm hj)]) n
   rw [if_pos hin] at this
   unfold cnt at *
   omega
  have hset:∀ k,(L.setIfInBounds i true).getD k false = if i = k then true else L.getD k false:=fun k=>by
   by_cases hik:i = k
   ·subst hik
    rw [if_pos rfl]
    simp [Array.getD_eq_getD_getElem?,hsL]
   ·rw [if_neg hik]
    simp [Array.getD_eq_getD_getElem?,Array.getElem?_setIfInBounds_ne hik]
  have step:∀ v w',Below w.heap.size w w'→meets Φ o.dst v w'→wpAny P .any l.toArray Q (f+(l.length - n)) (L.setIfInBounds i true) (a.put o.dst v) w':=fun v w' hb hv=>by
   refine ih _ _ _ hcnt (inv.set hi hin) ⟨I.bel.trans (hb.mono I.bel.size),by rw [put_def,I.dfr],by rw [put_size,I.siz],fun t ht=>?_,fun j oj dj hj hdj hLj=>?_⟩
   ·have hne:d ≠ t:=fun e=>ht (e ▸ hdm)
    rw [hd,put_get_ne _ _ hne]
    exact I.old t ht
   ·by_cases hij:i = j
    ·subst hij
     rw [hol] at hj
     have e:=Option.some.inj hj
     subst e
     rw [hd] at hdj
     have e:=Option.some.inj hdj
     subst e
     rw [hd] at hv ⊢
     exact ⟨v,put_get_eq _ _ hdN,hv⟩
    ·have hjn:j < n:=by
      have:=(List.getElem?_eq_some_iff.1 hj).1
      omega
     rw [hset,if_neg hij] at hLj
     obtain ⟨u,h1,h2⟩:=I.val j oj dj hj hdj hLj
     have hne:d ≠ dj:=fun e=>hij (dist_inj (l.take n) b1 b2 i j o oj d hol hj hd (by rw [e]; exact hdj))
     exact ⟨u,by rw [hd,put_get_ne _ _ hne]; exact h1,hΦ _ _ _ _ hb h2⟩
  have hlook:seenAll Φ (dsts (l.take n)) a0 a w (o.looksAt l.toArray):=seenAll_of _ fun t ht=>by
   unfold seen
   by_cases hin':inL t (dsts (l.take n)) = true
   ·rw [if_pos hin']
    have hmt:=(inL_iff t _).1 hin'
    have h1:=List.all_eq_true.1 (List.all_eq_true.1 b3 o hmem) t ht
    simp only [Bool.or_eq_true,Bool.not_eq_true'] at h1
    rcases h1 with h1 | h1
    ·have:=(List.contains_iff_mem).2 hmt
     rw [h1] at this
     cases this
    ·obtain ⟨e,he,hb⟩:=Array.any_eq_true'.1 h1
     simp only [Bool.and_eq_true] at hb
     obtain ⟨hb1,hb2⟩:=hb
     have hlis:=hall e he hb1
     have hen:e.on < n:=by
      have:=leadB_at (l.take n) 0 b4 i o hol e he hb1
      omega
     cases hoj:l.toArray[e.on]? with
     | none=>rw [hoj] at hb2; cases hb2
     | some oj =>
      rw [hoj] at hb2
      simp only [beq_iff_eq] at hb2
      exact I.val e.on oj t (by rw [← hl _ hen]; exact hoj) hb2 hlis
   ·rw [if_neg hin']
    exact I.old t fun h=>hin' ((inL_iff t _).2 h)
  have hob:=hO o hmem a ⟨w,I.bel⟩ hlook
  unfold wpOp
  simp only [ho]
  by_cases hw:Region.wanted o (yielded l.toArray a.tmps) = true
  ·rw [if_pos hw] at hob ⊢
   refine .inl ?_
   unfold Oper.wp
   generalize hr:(execOp a.eval o).run P w = r at hob
   cases r with
   | ok n w' =>
    cases n with
    | value u =>
     rw [Oper.upon_value]
     exact step u w' hob.1 hob.2
    | enter f args =>
     obtain ⟨rfl,hc⟩:=hob
     rw [Oper.upon_enter]
     refine hc.mono ?_
     rintro e w'' ⟨v,rfl,hb,hv⟩
     exact step v w'' hb hv
    | _=>exact hob.elim
   | _=>exact hob.elim
  ·rw [if_neg hw] at hob ⊢
   exact step undef w (Below.refl _ _) hob

theorem region_pred_n {id:Nat} {Q:Exit→Act→World→Prop} {a0:Act} {w:World} {l:List Oper} (n:Nat) (Φ:Tmp→Value→World→Prop) (hm:P.follows .mixedOrders = true) (hB:predInB l n a0.tmps.size = true)
  (hΦ:∀ t v w1 w2,Below w1.heap.size w1 w2→Φ t v w1→Φ t v w2)
  (hO:eachO (Obl P l.toArray (dsts (l.take n)) a0 w Φ) (l.take n))
  (k:∀ w',Below w.heap.size w w'→finP Φ w' (fun a=>wpList P l.toArray Q (l.drop n) a w') (dsts (l.take n)) a0) :
  (Code.region id l.toArray true).wp P Q a0 w:=by
 have hn:n < l.length:=by
  simp only [predInB,Bool.and_eq_true,decide_eq_true_eq] at hB
  exact hB.1.1.1.2
 refine wp_region_any hm ?_
 have hsz:l.toArray.size = n+(l.length - n):=by simp; omega
 have:=pred_n (Q:=Q) Φ hB hΦ (eachO_at hO) k n (Array.replicate l.toArray.size false) a0 { w with drawn:=w.drawn+1 } ?_ ?_ ?_
 ·rw [← hsz] at this
  exact this
 ·unfold cnt
  have:(List.range n).countP (fun i=>!(Array.replicate l.toArray.size false).getD i true) = (List.range n).length:=by
   refine List.countP_eq_length.2 fun i hi=>?_
   have hi':=List.mem_range.1 hi
   have hs:i < l.length:=by omega
   simp [Array.getD_eq_getD_getElem?,hs]
  simpa using this
 ·refine ⟨by simp,fun j oj hj hl=>?_,fun t ht ht'=>?_⟩
  ·rw [getD_replicate_false] at hl; cases hl
  ·simp only [List.size_toArray] at ht'
   simp [Array.getD_eq_getD_getElem?,ht']
 ·refine ⟨⟨rfl,rfl,rfl,Nat.le_refl _,fun _ _=>rfl⟩,rfl,rfl,fun _ _=>rfl,fun i o d hi hd hL=>?_⟩
  exfalso
  have:i < n:=by
   have:=(List.getElem?_eq_some_iff.1 hi).1
   rw [List.length_take] at this
   omega
  rw [getD_replicate_false] at hL
  cases hL
end
end Go.Proofs.YtdfdpghdjlgghaaGreat
namespace Go.Proofs.YtdfdpghdjlgghaaGreat
open Go.ChangeShapes Go.WideShapes Go.ChangeAt Go.RowKit Go.Maps
set_option linter.unusedVariables false
set_option linter.unusedSimpArgs false
set_option maxRecDepth 100000
attribute [local irreducible] Calls
section
variable {P:Program}
theorem tupon_enter {w w1:World} {K:Value→World→Prop} {r:Result Next} {f:FuncId} {args:Array Value} (hr:r = .ok (.enter f args) w1) (hw:w1 = w) (h:Calls P f args w fun e w''=>∃ v,e = .returned v∧Below w.heap.size w w''∧K v w''):uponP P w K r:=by
 subst hr
 exact ⟨hw,h⟩
theorem tupon_value {w w1:World} {K:Value→World→Prop} {r:Result Next} {v:Value} (hr:r = .ok (.value v) w1) (hB:Below w.heap.size w w1) (h:K v w1):uponP P w K r:=by
 subst hr
 exact ⟨hB,h⟩
theorem tvS {P:Program} {w:World} {K:Value→World→Prop} {r:Result Next} {v:Value} (hr:r = .ok (.value v) w) (h:K v w):uponP P w K r:=tupon_value hr (Below.refl _ _) h
end
section
variable {B bl bm eb lb:Nat} {u u':Value} {L:List Is} {W W':World}
theorem own_ne {X:Nat} (h:∀ g,u.ownBlock = some g→g ≠ X):u.ownBlock = none ∨ u.ownBlock ≠ some X:=.inr fun e=>h X e rfl
theorem IsC.set {X:Nat} {x:Is} (h:IsC W X x) (k:Int):IsC (W.setCell ⟨X,1,none⟩ (.int .i64 k)) X ⟨x.op,k,x.b,x.lo,x.hi⟩∧IsC (W.setCell ⟨X,2,none⟩ (.int .i64 k)) X ⟨x.op,x.a,k,x.lo,x.hi⟩:=⟨cellsT_setN (o:=1) (u:=.int .i64 k) h,cellsT_setN (o:=2) (u:=.int .i64 k) h⟩
end
end Go.Proofs.YtdfdpghdjlgghaaGreat
namespace Go.Proofs.YtdfdpghdjlgghaaGreat
open Go.ChangeShapes Go.WideShapes Go.ChangeAt Go.RowKit
set_option linter.unusedVariables false
set_option linter.unusedSimpArgs false
set_option maxRecDepth 100000
attribute [local irreducible] Calls
end Go.Proofs.YtdfdpghdjlgghaaGreat
namespace Go.Proofs.YtdfdpghdjlgghaaGreat
open Go.ChangeShapes Go.WideShapes Go.ChangeAt Go.RowKit
set_option linter.unusedVariables false
set_option linter.unusedSimpArgs false
set_option maxRecDepth 100000
attribute [local irreducible] Calls
section
variable {P:Program}
theorem ob_gtrue {ops:Array Oper} {ds:List Tmp} {a0:Act} {w0:World} {Φ:Tmp→Value→World→Prop} {o:Oper} (ts:List Tmp) (j:Nat) (want:Bool) (u:Tmp) (hg:o.guard = some (j,want)) (hj:((ops[j]?).bind (·.dst)) = some u) (ht:o.looksAt #[] = ts)
  (hin:inL u ds = true) (hu:∀ v w,Φ u v w→v = .bool want)
  (h:∀ (a:Act) (g:Grown w0),seenAll Φ ds a0 a g.w ts→uponP P g.w (meets Φ o.dst) ((execOp a.eval o).run P g.w)):Obl P ops ds a0 w0 Φ o :=
 ob_guard ts j want u hg hj ht fun a g hs hsu=>by
  refine ⟨fun _=>h a g hs,fun hn=>?_⟩
  obtain ⟨v,hv,hp⟩:=seen_in hin hsu
  exact absurd (by rw [hv,hu v _ hp]) hn

end
theorem heapN_cellj {W:World} {b k:Nat} {cs:Array Value} {t:TypeId} {z:Nat × Nat} {u:Value} (h:W.heap[b]? = some (.cells cs t z)) (hk:cs[k]? = some u):W.cell? ⟨b,k,none⟩ = some u:=by
 simp [World.cell?,h,hk]
end Go.Proofs.YtdfdpghdjlgghaaGreat
namespace Go.Proofs.YtdfdpghdjlgghaaGreat
open Go.ChangeShapes Go.WideShapes Go.ChangeAt Go.RowKit Go.Maps
set_option linter.unusedVariables false
set_option linter.unusedSimpArgs false
set_option maxRecDepth 100000
attribute [local irreducible] Calls
theorem info_int:(Tryz.prog.info? 3).map (fun i=>(i.zero,i.size,i.bytes)) = some (some (.int .i64 0),1,8):=by kernel_rfl
end Go.Proofs.YtdfdpghdjlgghaaGreat
namespace Go.Proofs.YtdfdpghdjlgghaaGreat
open Go.ChangeShapes Go.WideShapes Go.ChangeAt Go.RowKit Go.Maps
set_option linter.unusedVariables false
set_option linter.unusedSimpArgs false
set_option maxRecDepth 100000
attribute [local irreducible] Calls
theorem alloc_sz (w:World) (o:Obj):(w.alloc o).heap.size = w.heap.size+1:=Array.size_push _
theorem own_base {B B' n sz:Nat} {W:World} {v:Value} {t:TypeId} {xs:List Value} (h:W.ownsRow B t sz v n xs) (hB:B' ≤ B):W.ownsRow B' t sz v n xs:=by
 refine ⟨h.1,h.2.imp id ?_⟩
 rintro ⟨g,cap,cur,e,hg,rest⟩
 exact ⟨g,cap,cur,e,Nat.le_trans hB hg,rest⟩
theorem own_setT {B n sz X:Nat} {W:World} {v:Value} {t t':TypeId} {cs:Array Value} {z:Nat × Nat} {xs:List Value} (h:W.ownsRow B t sz v n xs) (hX:W.heap[X]? = some (.cells cs t' z)) (ht:t' ≠ t) (o:Nat) (y:Value):(W.setCell ⟨X,o,none⟩ y).ownsRow B t sz v n xs:=by
 refine h.kept (grownBy_setN W ⟨X,o,none⟩ y) (own_ne fun g hg e=>?_)
 rcases id h.2 with ⟨e1,_⟩ | ⟨g',cap,cur,e1,_,hh,_⟩
 ·rw [e1] at hg; simp [Value.ownBlock] at hg
 ·rw [e1] at hg
  simp only [Value.ownBlock,Option.some.injEq] at hg
  rw [hg,e,hX] at hh
  simp only [Option.some.injEq,Obj.cells.injEq] at hh
  exact ht hh.2.1
theorem one_i64' (n:Int):∀ u ∈ [Value.int .i64 n],u.oneCell' = true:=by
 intro u hu
 simp at hu
 subst hu
 rfl
end Go.Proofs.YtdfdpghdjlgghaaGreat
