/-
 Ve Sa
-/
import Derived.Test.YtdfdpghdjlgghaaGreatKdl
import Derived.Test.YtdfdpghdjlgghaaGreatKdm
import Derived.Test.YtdfdpghdjlgghaaGreatKdr
import Derived.RangeFuncNested
import Derived.RangeFuncBound
import Derived.RangeFuncCalls
import Derived.RangeFuncLeaves
import Derived.Shelf.Abstract
import Derived.WalkKit
import Derived.Below
import Derived.Laws.OwnMore
import Derived.Maps.AppendAt
namespace Go.Proofs.YtdfdpghdjlgghaaGreat
open Go Go.RowKit Go.Shelf
set_option linter.unusedVariables false
set_option linter.unusedSimpArgs false
def Keep (B:Nat) (W W':World):Prop:=W.heap.size ≤ W'.heap.size∧∀ k o,B ≤ k→W.heap[k]? = some o→o.isCells = false→W'.heap[k]? = some o
def rfPost (B:Nat) (p:Nat→Prop) (Ix:Code→Nat→World→Prop) (i:Nat) (W:World):Exit→Act→World→Prop
 | .normal,_,W'=>Below W.heap.size W W'∧p (i+1)
 | .ret,_,W'=>Keep B W W'∧Ix .ret (i+1) W'
 | .exit id,_,W'=>Keep B W W'∧Ix (.exit id) (i+1) W'
 | .goto t,_,W'=>Keep B W W'∧Ix (.goto t) (i+1) W'
 | .panic _,_,_=>False
 | .outgrown,_,_=>False
def SeqN (P:Program) (n gf:Nat) (lb:Array Value) (N:Nat) (Y:Nat→Array Value→World→Prop) (w:World):Prop :=
 ∀ (l:Nat) (J Jx:Nat→World→Prop) (W:World),Below w.heap.size w W→w.heap.size ≤ l→(∀ i A,J i A→∃ r,A.heap[l]? = some (.loop r)) →
  (∀ i A B,J i A→Below A.heap.size A B→J i B)→(∀ i A B,Jx i A→Below A.heap.size A B→Jx i B) →
  (∀ i xs W1,i < N→J i W1→Y i xs W1→YieldAt Fence.wide (n - 1) P l xs W1 fun e W' =>
   (e = .returned (.bool true)∧J (i+1) W'∧W1.grownBy W' (some l)) ∨ (e = .returned (.bool false)∧Jx (i+1) W')) →
  J 0 W→CallsIn Fence.wide n P gf (#[.func (.yield l) #[] #[]] ++ lb) W fun e W'=>(∃ v,e = .returned v)∧(J N W' ∨ ∃ i,Jx i W')
theorem gb_trans {A B C:World} {row:Option Nat} (h:A.grownBy B row) (k:B.grownBy C row):A.grownBy C row :=
 ⟨k.os.trans h.os,k.tape.trans h.tape,k.output.trans h.output,Nat.le_trans h.size k.size,fun j hj hn=>(k.block j (Nat.lt_of_lt_of_le hj h.size) hn).trans (h.block j hj hn)⟩
theorem gb_below {A B:World} (h:Below A.heap.size A B) (row:Option Nat):A.grownBy B row:=⟨h.os,h.tape,h.output,h.size,fun j hj _=>h.block j hj⟩
theorem gb_old {A B:World} {l n0:Nat} {a:World} (h:A.grownBy B (some l)) (hl:n0 ≤ l) (hb:Below n0 a A) (hn:n0 ≤ A.heap.size):Below n0 a B:=hb.grown h hn (fun k e=>by cases e; exact hl)
theorem keep_below {B0:Nat} {A B:World} (h:Below A.heap.size A B):Keep B0 A B:=⟨h.size,fun k o _ hk _=>(h.block k (Array.getElem?_eq_some_iff.1 hk).1).trans hk⟩
theorem rf_nat {P:Program} {g:Operand} {ps:Array Tmp} {assign body:Code} {Q:Exit→Act→World→Prop} {a:Act} {w:World} (n:Nat) (h1:1 ≤ n) {gf:Nat} {lb:Array Value}
  (hg:a.eval g = .func (.func gf) #[] lb) (eg:∀ args w,(callFunc gf args).run P w = .ok (.enter gf args) w)
  (N:Nat) (Y:Nat→Array Value→World→Prop) (hYs:∀ i xs W,Y i xs W→xs.size = ps.size) (p:Nat→Prop) (Ix:Code→Nat→World→Prop) (hseq:SeqN P (n - 1) gf lb N Y w)
  (hIx:∀ c i A k o o',Ix c i A→w.heap.size ≤ k→A.heap[k]? = some o→o.isCells = false→Ix c i (A.putObj k o')) (hIxB:∀ c i A B,Ix c i A→Below A.heap.size A B→Ix c i B)
  (Ax:Nat→Array Value→Act→World→Prop) (hAx:∀ i xs a' A k o o',Ax i xs a' A→w.heap.size ≤ k→A.heap[k]? = some o→o.isCells = false→Ax i xs a' (A.putObj k o')) (h0:p 0)
  (hassign:∀ l i xs W (K:Act→World→Prop),Y i xs W→(∀ a' W',Below W.heap.size W W'→Ax i xs a' W'→K a' W') →
   assign.wpIn (Fence.wide.inRound l) (n - 1 - 1) P (Exit.then K (fun _ _ _=>False)) { tmps:=(ps.zip xs).foldl (fun t (p,v)=>t.setIfInBounds p v) a.tmps,defers:=[] } W)
  (hbody:∀ l i xs a' W,w.heap.size+1 = l→(∃ r,W.heap[l]? = some (.loop r))→p i→i < N→Below w.heap.size w W→Ax i xs a' W→body.wpIn (Fence.wide.inRound l) (n - 1 - 1) P (rfPost w.heap.size p Ix i W) a' W)
  (hdone:∀ W,p N→Below w.heap.size w W→W.heap[w.heap.size]? = some (.deferred (some []))→Q .normal { a with defers:={ target:=.collected w.heap.size,args:=#[] } :: a.defers } W)
  (hstop:∀ c i W,Ix c i W→W.heap[w.heap.size]? = some (.deferred (some []))→c.wpIn Fence.wide n P Q { a with defers:={ target:=.collected w.heap.size,args:=#[] } :: a.defers } W) :
  (Code.rangeFunc g ps assign body).wpIn Fence.wide n P Q a w:=by
 refine wpIn_rangeFunc fun fn hfn=>?_
 obtain ⟨rec,hrec⟩:∃ rec:LoopState→Option Code→Loop,rec = fun st pe=>⟨st,pe,fn,a.tmps,ps,assign,body,w.heap.size⟩:=⟨_,rfl⟩
 obtain ⟨W1,hW1⟩:∃ W1,(w.alloc (.deferred (some []))).alloc (.loop (rec .ready none)) = W1:=⟨_,rfl⟩
 have e1:W1.heap[w.heap.size+1]? = some (.loop (rec .ready none)):=by
  subst hW1
  have h:=World.alloc_heap_new (w.alloc (.deferred (some []))) (.loop (rec .ready none))
  rwa [World.size_alloc] at h
 have e2:W1.heap[w.heap.size]? = some (.deferred (some [])):=by
  subst hW1
  exact (Below.heap_alloc _ _ _ (by simp)).trans (World.alloc_heap_new w _)
 have hb1:Below w.heap.size w W1:=by
  subst hW1
  exact ((Below.refl _ w).alloc (Nat.le_refl _) _).alloc (by simp) _
 refine ⟨w.heap.size+1,[{ target:=.collected w.heap.size,args:=#[] }],W1,{ target:=.fn (.func gf) lb,args:=#[.func (.yield (w.heap.size+1)) #[] #[]] },W1,gf,#[.func (.yield (w.heap.size+1)) #[] #[]] ++ lb,W1,
  by rw [← hW1,hrec]; exact run_enterLoop_outer _ _ _ _ _,by simp only [resolve,hg]; simp [go_sem],fun f' hf'=>by simp [Target.leads] at hf'; subst hf'; trivial,by simp [invoke,go_sem,eg],fun _=>h1,?_⟩
 -- the caller's invariant,with the two facts of book-keeping
 refine (hseq (w.heap.size+1) (fun i W=>p i∧Below w.heap.size w W∧W.heap[w.heap.size+1]? = some (.loop (rec .ready none))∧W.heap[w.heap.size]? = some (.deferred (some [])))
  (fun i W=>∃ c,Ix c i W∧W.heap[w.heap.size+1]? = some (.loop (rec .done (some c)))∧W.heap[w.heap.size]? = some (.deferred (some []))) W1 hb1 (Nat.le_succ _) (fun i A h=>⟨_,h.2.2.1⟩)
  (fun i A B h hAB=>⟨h.1,h.2.1.trans (hAB.mono h.2.1.size),(hAB.block _ (Array.getElem?_eq_some_iff.1 h.2.2.1).1).trans h.2.2.1,(hAB.block _ (Array.getElem?_eq_some_iff.1 h.2.2.2).1).trans h.2.2.2⟩)
  (fun i A B ⟨c,h,k1,k2⟩ hAB=>⟨c,hIxB c i A B h hAB,(hAB.block _ (Array.getElem?_eq_some_iff.1 k1).1).trans k1,(hAB.block _ (Array.getElem?_eq_some_iff.1 k2).1).trans k2⟩) ?_ ⟨h0,hb1,e1,e2⟩).mono ?_
 ·rintro i xs W hi ⟨hp,hB,hl,hk⟩ hY
  have hy:=run_yield (P:=P) (args:=xs) hl (by rw [hrec]; exact hYs i xs W hY)
  rw [hrec] at hy
  refine ⟨fn,_,assign,body,hy,roundIn_of_wpIn hfn (hassign _ i xs W _ hY fun a' Wa hBa hAxa=>?_)⟩
  have hl1:=(hBa.block _ (Array.getElem?_eq_some_iff.1 hl).1).trans hl
  have hk1:=(hBa.block _ (Array.getElem?_eq_some_iff.1 hk).1).trans hk
  have hlt:=(Array.getElem?_eq_some_iff.1 hl1).1
  refine ⟨_,run_beginRound hl1 (by rw [hrec]),?_⟩
  obtain ⟨W2,hW2⟩:∃ W2,Wa.putObj (w.heap.size+1) (.loop { rec .ready none with state:=.busy }) = W2:=⟨_,rfl⟩
  have hl2:W2.heap[w.heap.size+1]? = some (.loop { rec .ready none with state:=.busy }):=by rw [← hW2]; exact World.putObj_heap_same hlt
  have hk2:W2.heap[w.heap.size]? = some (.deferred (some [])):=by rw [← hW2]; exact (World.putObj_heap_other (by omega)).trans hk1
  have g2:W.grownBy W2 (some (w.heap.size+1)):=by rw [← hW2]; exact gb_trans (gb_below hBa _) (grownBy_putObj' _ _ _)
  have hB2:Below w.heap.size w W2:=gb_old g2 (Nat.le_succ _) hB hB.size
  have hAx2:Ax i xs a' W2:=by rw [← hW2]; exact hAx i xs a' Wa _ _ _ hAxa (Nat.le_succ _) hl1 rfl
  rw [hW2]
  refine wpIn_mono (hbody _ i xs a' W2 rfl ⟨_,hl2⟩ hp hi hB2 hAx2) ?_
  have fin:∀ (jump:Option Code) (W3:World),W3.heap[w.heap.size+1]? = some (.loop { rec .ready none with state:=.busy })→W3.heap[w.heap.size]? = some (.deferred (some [])) →
    (Instr.endRound (w.heap.size+1) jump).run P W3 = .ok (.bool jump.isNone) (W3.putObj (w.heap.size+1) (.loop (rec (if jump.isNone then .ready else .done) jump))) ∧
    (W3.putObj (w.heap.size+1) (.loop (rec (if jump.isNone then .ready else .done) jump))).heap[w.heap.size+1]? = some (.loop (rec (if jump.isNone then .ready else .done) jump)) ∧
    (W3.putObj (w.heap.size+1) (.loop (rec (if jump.isNone then .ready else .done) jump))).heap[w.heap.size]? = some (.deferred (some [])):=fun jump W3 a3 b3=>by
   have hr:=run_endRound (P:=P) jump a3
   rw [hrec] at hr ⊢
   exact ⟨hr,World.putObj_heap_same (Array.getElem?_eq_some_iff.1 a3).1,(World.putObj_heap_other (by omega)).trans b3⟩
  have stop:∀ (c:Code) (W3:World),Keep w.heap.size W2 W3∧Ix c (i+1) W3→∃ v w',(Instr.endRound (w.heap.size+1) (some c)).run P W3 = .ok v w' ∧
    ((Ending.returned v = .returned (.bool true)∧(p (i+1)∧Below w.heap.size w w'∧w'.heap[w.heap.size+1]? = some (.loop (rec .ready none))∧w'.heap[w.heap.size]? = some (.deferred (some [])))∧W.grownBy w' (some (w.heap.size+1))) ∨
     (Ending.returned v = .returned (.bool false)∧∃ c,Ix c (i+1) w'∧w'.heap[w.heap.size+1]? = some (.loop (rec .done (some c)))∧w'.heap[w.heap.size]? = some (.deferred (some [])))):=fun c W3 ⟨hk3,hx3⟩=>by
   have a3:=hk3.2 _ _ (Nat.le_succ _) hl2 rfl
   obtain ⟨r1,r2,r3⟩:=fin (some c) W3 a3 (hk3.2 _ _ (Nat.le_refl _) hk2 rfl)
   exact ⟨_,_,r1,.inr ⟨rfl,c,hIx _ _ _ _ _ _ hx3 (Nat.le_succ _) a3 rfl,r2,r3⟩⟩
  rintro e a3 W3 hp3
  cases e with
  | normal =>
   obtain ⟨hb3,hpn⟩:=hp3
   have a3:=(hb3.block _ (Array.getElem?_eq_some_iff.1 hl2).1).trans hl2
   obtain ⟨r1,r2,r3⟩:=fin none W3 a3 ((hb3.block _ (Array.getElem?_eq_some_iff.1 hk2).1).trans hk2)
   have g3:W.grownBy (W3.putObj (w.heap.size+1) (.loop (rec .ready none))) (some (w.heap.size+1)):=gb_trans (gb_trans g2 (gb_below hb3 _)) (grownBy_putObj' _ _ _)
   exact ⟨_,_,r1,.inl ⟨rfl,⟨hpn,gb_old g3 (Nat.le_succ _) hB hB.size,r2,r3⟩,g3⟩⟩
  | ret=>exact stop .ret W3 hp3
  | exit id=>exact stop (.exit id) W3 hp3
  | goto t=>exact stop (.goto t) W3 hp3
  | panic ch=>exact hp3.elim
  | outgrown=>exact hp3.elim
 ·rintro e W2 ⟨⟨v,rfl⟩,(⟨hpN,hB,hl,hk⟩ | ⟨i,c,hx,hl,hk⟩)⟩
  ·have hr:=run_endLoop (P:=P) hl (by rw [hrec]; simp)
   rw [hrec] at hr
   refine ⟨none,_,hr,hdone _ hpN (gb_old (grownBy_putObj' _ _ _) (Nat.le_succ _) hB hB.size) ((World.putObj_heap_other (by omega)).trans hk)⟩
  ·have hr:=run_endLoop (P:=P) hl (by rw [hrec]; simp)
   rw [hrec] at hr
   exact ⟨some c,_,hr,hstop c i _ (hIx _ _ _ _ _ _ hx (Nat.le_succ _) hl rfl) ((World.putObj_heap_other (by omega)).trans hk)⟩
end Go.Proofs.YtdfdpghdjlgghaaGreat
namespace Go.Proofs.YtdfdpghdjlgghaaGreat
open Go.ChangeShapes Go.WideShapes Go.ChangeAt Go.RowKit Go.Shelf
set_option linter.unusedVariables false
set_option linter.unusedSimpArgs false
set_option maxRecDepth 100000
attribute [local go_sem] Oper.semAt_some
attribute [local irreducible] Calls
theorem cell_cells {W:World} {b i:Nat} {u:Value} (h:W.cell? ⟨b,i,none⟩ = some u):∃ cs t z,W.heap[b]? = some (.cells cs t z):=by
 unfold World.cell? at h
 dsimp only at h
 split at h
 ·exact ⟨_,_,_,by assumption⟩
 ·cases h
theorem vx_row {W W':World} {v:Value} {l:List (Int × Int)} {k:Nat} (h:Vx W v l) (hg:W.grownBy W' (some k)) (hk:∃ o:Obj,W.heap[k]? = some o∧o.isCells = false):Vx W' v l:=by
 obtain ⟨h1,p,c,rfl,h2⟩:=h
 refine ⟨h1,p,c,rfl,fun i x hx=>?_⟩
 obtain ⟨b,o,rfl,h3,h4⟩:=h2 i x hx
 refine ⟨b,o,rfl,Nat.lt_of_lt_of_le h3 hg.size,fun j u hu=>?_⟩
 have hc:=h4 j u hu
 refine hg.cell hc ?_
 intro e
 obtain rfl:b = k:=Option.some.inj e
 obtain ⟨cs,t,z,hb⟩:=cell_cells hc
 obtain ⟨ob,ho,hn⟩:=hk
 rw [hb] at ho
 obtain rfl:=Option.some.inj ho
 cases hn
theorem vx_put {W:World} {v:Value} {l:List (Int × Int)} {k:Nat} {o o':Obj} (h:Vx W v l) (hk:W.heap[k]? = some o) (hn:o.isCells = false):Vx (W.putObj k o') v l:=vx_row h (grownBy_putObj' W k o') ⟨o,hk,hn⟩
def hsq (img:List (Int × Int)→List (Int × Int)) (X:List (Int × Int)):Nat→List (Int × Int)
 | 0=>hulL X (img X)
 | i+1=>hulL (infL (hsq img X i)) (img (infL (hsq img X i)))
theorem hsq_ok {img:List (Int × Int)→List (Int × Int)} {X:List (Int × Int)} (hX:∀ p ∈ X,VI p.1 p.2) (hi:∀ B:List (Int × Int),B.length = X.length→(∀ p ∈ B,VI p.1 p.2)→(img B).length = X.length∧∀ p ∈ img B,VI p.1 p.2) :
  ∀ i,(hsq img X i).length = X.length∧∀ p ∈ hsq img X i,VI p.1 p.2
 | 0=>⟨by show (hulL X (img X)).length = _; rw [hul_len (by rw [(hi X rfl hX).1])],hul_vi hX (hi X rfl hX).2⟩
 | i+1=>by
  obtain ⟨h1,h2⟩:=hsq_ok hX hi i
  have h3:(infL (hsq img X i)).length = X.length:=by rw [inf_len,h1]
  obtain ⟨h4,h5⟩:=hi _ h3 (inf_vi h2)
  exact ⟨by show (hulL _ _).length = _; rw [hul_len (by rw [h3,h4]),h3],hul_vi (inf_vi h2) h5⟩
theorem hull_vx (va vb:Value) (la lb:List (Int × Int)) (w:World) (hva:Vx w va la) (hvb:Vx w vb lb) (hlen:lb.length = la.length) (h1:∀ p ∈ la,VI p.1 p.2) (h2:∀ p ∈ lb,VI p.1 p.2) (hsm:la.length ≤ 6) :
  Calls Tryz.prog 72 #[va,vb] w fun e W'=>∃ v,e = .returned v∧Vx W' v (hulL la lb)∧Below w.heap.size w W' :=
 ((callsIn_wide (n:=5)).1 (hull_in 5 (by decide) va vb la lb w (vx_bx hva) (vx_bx hvb) hlen (fun z hz=>⟨h1 _ (List.of_mem_zip hz).1,h2 _ (List.of_mem_zip hz).2⟩) (by omega))).mono fun e W' ⟨v,he,hv,hB⟩=>⟨v,he,bx_vx hv,hB⟩
theorem inf_vx (vx:Value) (X:List (Int × Int)) (w:World) (hx:Vx w vx X) (hsm:X.length ≤ 6) (hvx:∀ p ∈ X,VI p.1 p.2) :
  Calls Tryz.prog 137 #[vx] w fun e w'=>∃ u,e = .returned u∧Vx w' u (infL X)∧Below w.heap.size w w':=by
 have hlen:=inf_len X
 refine (inf_ok vx X _ w hx hsm hvx rfl).mono fun e w' ⟨p,c,he,hown,hB⟩=>⟨_,he,?_,hB⟩
 have h:=hown
 rw [← hlen] at h
 have h2:=Rx.own encB_len h (by rw [hlen]; unfold maxLen; omega)
 rwa [hlen] at h2
end Go.Proofs.YtdfdpghdjlgghaaGreat
namespace Go.Proofs.YtdfdpghdjlgghaaGreat
open Go.ChangeShapes Go.WideShapes Go.ChangeAt Go.RowKit Go.Shelf
set_option linter.unusedVariables false
set_option linter.unusedSimpArgs false
set_option maxRecDepth 100000
attribute [local go_sem] Oper.semAt_some
attribute [local irreducible] Calls
def encR (img:List (Int × Int)→List (Int × Int)) (X:List (Int × Int)):Option (List (Int × Int)):=encG img 8 (hulL X (img X))
theorem encG_at (img:List (Int × Int)→List (Int × Int)) (X:List (Int × Int)) (k n:Nat) (h:k+n = 8) (hg:encG img n (hsq img X k) = encR img X) (hn:0 < n) :
  ((bndB (infL (hsq img X k)) && bndB (img (infL (hsq img X k)))) = false→encR img X = none) ∧
  ((bndB (infL (hsq img X k)) && bndB (img (infL (hsq img X k)))) = true→subB (img (infL (hsq img X k))) (infL (hsq img X k)) = true→encR img X = some (img (infL (hsq img X k)))) ∧
  ((bndB (infL (hsq img X k)) && bndB (img (infL (hsq img X k)))) = true→subB (img (infL (hsq img X k))) (infL (hsq img X k)) = false→encG img (n - 1) (hsq img X (k+1)) = encR img X):=by
 obtain ⟨m,rfl⟩:∃ m,n = m+1:=⟨n - 1,by omega⟩
 have hs:encG img (m+1) (hsq img X k) = if (bndB (infL (hsq img X k)) && bndB (img (infL (hsq img X k)))) = false then none else if subB (img (infL (hsq img X k))) (infL (hsq img X k)) = true then some (img (infL (hsq img X k))) else encG img m (hulL (infL (hsq img X k)) (img (infL (hsq img X k)))):=rfl
 rw [hs] at hg
 refine ⟨fun h1=>?_,fun h1 h2=>?_,fun h1 h2=>?_⟩
 ·rw [← hg,if_pos h1]
 ·rw [← hg,if_neg (by rw [h1]; decide),if_pos h2]
 ·rw [if_neg (by rw [h1]; decide),if_neg (by rw [h2]; decide)] at hg
  exact hg
theorem vx_setb {W:World} {v u:Value} {t:TypeId} {l:List (Int × Int)} {B:Nat} (h:Vx W v l) (hb:Boxed W B t u) (hu:∀ k n,u ≠ .int k n) (y:Value):Vx (W.setCell ⟨B,0,none⟩ y) v l:=by
 obtain ⟨h1,p,c,rfl,h2⟩:=h
 have hg:=grownBy_setCell' W B y
 refine ⟨h1,p,c,rfl,fun i x hx=>?_⟩
 obtain ⟨b,o,rfl,h3,h4⟩:=h2 i x hx
 refine ⟨b,o,rfl,Nat.lt_of_lt_of_le h3 hg.size,fun j z hz=>?_⟩
 have hc:=h4 j z hz
 refine hg.cell hc fun e=>?_
 obtain rfl:b = B:=Option.some.inj e
 unfold World.cell? at hc
 rw [show W.heap[b]? = _ from hb] at hc
 simp only [Option.isSome_none,Bool.false_eq_true,if_false] at hc
 cases ho:o+i * 2+j with
 | zero =>
  rw [ho] at hc
  have e2:u = z:=by simpa using hc
  subst e2
  unfold encB at hz
  match j,hz with
  | 0,hz=>cases hz; exact hu _ _ rfl
  | 1,hz=>cases hz; exact hu _ _ rfl
  | j+2,hz=>cases hz
 | succ m=>rw [ho] at hc; simp at hc
theorem attempts_ok (N T H:Int) (vl vo:Value) (px:Option Addr) (m cx:Nat) (w:World) :
  Calls Tryz.prog 115 #[.agg #[.int .i64 N,vl,vo],.slice px m cx,.agg #[.int .i64 T,.int .i64 H]] w fun e w'=>e = .returned (.func (.func 135) #[] #[.pointer (some ⟨w.heap.size+1,0,none⟩),.pointer (some ⟨w.heap.size,0,none⟩),.pointer (some ⟨w.heap.size+2,0,none⟩)]) ∧
   w' = ((w.alloc (.cells #[.int .i64 N,vl,vo] 35)).alloc (.cells #[.slice px m cx] 23)).alloc (.cells #[.int .i64 T,.int .i64 H] 116):=by
 go_enter Tryz.func115,Tryz.ntmps115
 go_wp2_with (fail)
 go_ret
 exact ⟨rfl,rfl⟩

end Go.Proofs.YtdfdpghdjlgghaaGreat
namespace Go.Proofs.YtdfdpghdjlgghaaGreat
open Go.ChangeShapes Go.WideShapes Go.ChangeAt Go.RowKit
set_option linter.unusedVariables false
set_option linter.unusedSimpArgs false
set_option maxRecDepth 100000
def gI (l:List (Int × Int)) (i:Nat):Int × Int:=l.getD i (0,0)
def gR (l:List (List (Int × Int))) (i:Nat):List (Int × Int):=l.getD i []
def mrN (n d:Int) (p:Int × Int):Int × Int:=(mrLo p.1 p.2 n d,mrHi p.1 p.2 n d)
def cvI (a b:List (Int × Int)) (k f:Nat):Nat→Int × Int
 | 0=>(0,0)
 | n+1=>opI 7 (cvI a b k f n) (opI 9 (gI a (f+n)) (gI b (k - (f+n))))
def qtI (a b q:List (Int × Int)):Int × Int:=opI 10 (opI 8 (gI a q.length) (cvI b q q.length 1 q.length)) (gI b 0)
def rnI (a r:List (Int × Int)):Int × Int:=if r.length = 0 then rtI (gI a 0) else opI 10 (opI 8 (gI a r.length) (cvI r r r.length 1 (r.length - 1))) (mrN 2 1 (gI r 0))
def squI (a:List (Int × Int)) (k:Nat):Int × Int:=if k = 0 then opI 5 (gI a 0) (0,0) else cvI a a k 0 (k+1)
def nxI (x:Is) (st rows:List (List (Int × Int))) (own:List (Int × Int)) (t:Int × Int) (k:Nat):Int × Int :=
 if x.op = 1 then gI [(x.lo,x.hi)] k else if x.op = 3 then gI [t,(65536,65536)] k else if x.op = 2 then gI (gR st x.a.toNat) k
 else if x.op = 5 then squI (gR rows x.a.toNat) k
 else if x.op = 9 then cvI (gR rows x.a.toNat) (gR rows x.b.toNat) k 0 (k+1)
 else if x.op = 10 then qtI (gR rows x.a.toNat) (gR rows x.b.toNat) own
 else if x.op = 6 then rnI (gR rows x.a.toNat) own
 else opI x.op (gI (gR rows x.a.toNat) k) (gI (gR rows x.b.toNat) k)
def nilI:Is:=⟨0,0,0,0,0⟩
def rwStep (L:List Is) (st:List (List (Int × Int))) (t:Int × Int) (k:Nat) (rows:List (List (Int × Int))) (i:Nat):List (List (Int × Int)):=rows.set i (gR rows i ++ [nxI (L.getD i nilI) st rows (gR rows i) t k])
def rwN (L:List Is) (st:List (List (Int × Int))) (t:Int × Int) (k:Nat) (rows:List (List (Int × Int))):Nat→List (List (Int × Int))
 | 0=>rows
 | n+1=>rwStep L st t k (rwN L st t k rows n) n
def stStep (out:List Int) (rows:List (List (Int × Int))) (k:Nat) (st:List (List (Int × Int))) (i:Nat):List (List (Int × Int)):=st.set i (gR st i ++ [mrN 1 (k+1:Nat) (gI (gR rows (out.getD i 0).toNat) k)])
def stN (out:List Int) (rows:List (List (Int × Int))) (k:Nat) (st:List (List (Int × Int))):Nat→List (List (Int × Int))
 | 0=>st
 | n+1=>stStep out rows k (stN out rows k st n) n
def exN (L:List Is) (out:List Int) (X:List (Int × Int)) (t:Int × Int):Nat→List (List (Int × Int)) × List (List (Int × Int))
 | 0=>(List.replicate L.length [],X.map fun p=>[p])
 | k+1=>(rwN L (exN L out X t k).2 t k (exN L out X t k).1 L.length,stN out (rwN L (exN L out X t k).2 t k (exN L out X t k).1 L.length) k (exN L out X t k).2 out.length)
def serI (L:List Is) (out:List Int) (X:List (Int × Int)) (t:Int × Int) (order:Nat):List (List (Int × Int)):=(exN L out X t order).2
def hoI (h:Int × Int):List (Int × Int)→Int × Int
 | []=>(-2147483648,2147483648)
 | [c]=>c
 | c :: r=>opI 7 (opI 9 (hoI h r) h) c
def AV (l:List (Int × Int)):Prop:=∀ p ∈ l,VI p.1 p.2
def AVR (l:List (List (Int × Int))):Prop:=∀ r ∈ l,AV r
theorem vi_0:VI (0:Int) 0:=.inr ⟨by unfold Num; omega,by unfold Num; omega,Int.le_refl 0⟩
theorem vi_1:VI (65536:Int) 65536:=.inr ⟨by unfold Num; omega,by unfold Num; omega,Int.le_refl _⟩
theorem gI_vi {l:List (Int × Int)} (h:AV l) (i:Nat):VI (gI l i).1 (gI l i).2:=by
 unfold gI
 rw [List.getD_eq_getElem?_getD]
 cases e:l[i]? with
 | none=>exact vi_0
 | some p=>exact h p (List.mem_of_getElem? e)
theorem gR_av {l:List (List (Int × Int))} (h:AVR l) (i:Nat):AV (gR l i):=by
 unfold gR
 rw [List.getD_eq_getElem?_getD]
 cases e:l[i]? with
 | none=>intro p hp; cases hp
 | some p=>exact h p (List.mem_of_getElem? e)
theorem mrN_vi (n:Int) {d:Int} (hd:0 < d) (p:Int × Int):VI (mrN n d p).1 (mrN n d p).2:=mr_vi hd
theorem cvI_vi {a b:List (Int × Int)} (ha:AV a) (hb:AV b) (k f:Nat):∀ n,VI (cvI a b k f n).1 (cvI a b k f n).2
 | 0=>vi_0
 | n+1=>opI_vi 7 (cvI_vi ha hb k f n) (opI_vi 9 (gI_vi ha _) (gI_vi hb _))
theorem qtI_vi {a b q:List (Int × Int)} (ha:AV a) (hb:AV b) (hq:AV q):VI (qtI a b q).1 (qtI a b q).2:=opI_vi 10 (opI_vi 8 (gI_vi ha _) (cvI_vi hb hq _ _ _)) (gI_vi hb _)
theorem rnI_vi {a r:List (Int × Int)} (ha:AV a) (hr:AV r):VI (rnI a r).1 (rnI a r).2:=by
 unfold rnI
 split
 ·exact rtI_vi (gI_vi ha 0)
 ·exact opI_vi 10 (opI_vi 8 (gI_vi ha _) (cvI_vi hr hr _ _ _)) (mrN_vi 2 (by omega) _)
theorem sqI_vi {a:List (Int × Int)} (ha:AV a) (k:Nat):VI (squI a k).1 (squI a k).2:=by
 unfold squI
 split
 ·exact opI_vi 5 (gI_vi ha 0) vi_0
 ·exact cvI_vi ha ha _ _ _
theorem nxI_vi {x:Is} {st rows:List (List (Int × Int))} {own:List (Int × Int)} {t:Int × Int} (k:Nat) (hc:x.op = 1→VI x.lo x.hi) (hs:AVR st) (hr:AVR rows) (ho:AV own) (ht:VI t.1 t.2):VI (nxI x st rows own t k).1 (nxI x st rows own t k).2:=by
 unfold nxI
 have ha:=gR_av hr x.a.toNat
 have hb:=gR_av hr x.b.toNat
 split
 ·next h=>exact gI_vi (fun p hp=>by rw [List.mem_singleton.1 hp]; exact hc h) k
 split
 ·refine gI_vi (fun p hp=>?_) k
  simp only [List.mem_cons,List.not_mem_nil,or_false] at hp
  rcases hp with rfl | rfl
  ·exact ht
  ·exact vi_1
 split
 ·exact gI_vi (gR_av hs _) k
 split
 ·exact sqI_vi ha k
 split
 ·exact cvI_vi ha hb _ _ _
 split
 ·exact qtI_vi ha hb ho
 split
 ·exact rnI_vi ha ho
 ·exact opI_vi _ (gI_vi ha _) (gI_vi hb _)
theorem avr_set {l:List (List (Int × Int))} (h:AVR l) (i:Nat) {r:List (Int × Int)} (hr:AV r):AVR (l.set i r):=by
 intro s hs
 rcases List.mem_or_eq_of_mem_set hs with h1 | rfl
 ·exact h s h1
 ·exact hr
theorem av_snoc {l:List (Int × Int)} (h:AV l) {p:Int × Int} (hp:VI p.1 p.2):AV (l ++ [p]):=by
 intro q hq
 rcases List.mem_append.1 hq with h1 | h1
 ·exact h q h1
 ·rw [List.mem_singleton.1 h1]; exact hp
def CV (L:List Is):Prop:=∀ x ∈ L,x.op = 1→VI x.lo x.hi
theorem cv_at {L:List Is} (h:CV L) (i:Nat):(L.getD i nilI).op = 1→VI (L.getD i nilI).lo (L.getD i nilI).hi:=by
 rw [List.getD_eq_getElem?_getD]
 cases e:L[i]? with
 | none=>intro h1; simp [nilI] at h1
 | some x=>exact h x (List.mem_of_getElem? e)
theorem gR_set {l:List (List (Int × Int))} {i:Nat} (hi:i < l.length) (r:List (Int × Int)) (j:Nat):gR (l.set i r) j = if j = i then r else gR l j:=by
 unfold gR
 rw [List.getD_eq_getElem?_getD,List.getD_eq_getElem?_getD,List.getElem?_set]
 by_cases h:i = j
 ·subst h; simp [hi]
 ·rw [if_neg h,if_neg (fun e=>h e.symm)]
structure RwK (k i:Nat) (n:Nat) (rows:List (List (Int × Int))):Prop where
 len:rows.length = n
 row:∀ j,j < n→(gR rows j).length = if j < i then k+1 else k
 av:AVR rows
theorem rw_one {L:List Is} {st rows:List (List (Int × Int))} {t:Int × Int} {k i:Nat} (hL:CV L) (hs:AVR st) (ht:VI t.1 t.2) (h:RwK k i L.length rows) (hi:i < L.length):RwK k (i+1) L.length (rwStep L st t k rows i):=by
 unfold rwStep
 have hi':i < rows.length:=by rw [h.len]; exact hi
 refine ⟨by rw [List.length_set,h.len],fun j hj=>?_,avr_set h.av i (av_snoc (gR_av h.av i) (nxI_vi k (cv_at hL i) hs h.av (gR_av h.av i) ht))⟩
 rw [gR_set hi']
 by_cases e:j = i
 ·subst e
  rw [if_pos rfl,List.length_append,h.row j hj,if_neg (by omega),if_pos (by omega)]; rfl
 ·rw [if_neg e,h.row j hj]
  by_cases c:j < i
  ·rw [if_pos c,if_pos (by omega)]
  ·rw [if_neg c,if_neg (by omega)]
theorem rw_all {L:List Is} {st rows:List (List (Int × Int))} {t:Int × Int} {k:Nat} (hL:CV L) (hs:AVR st) (ht:VI t.1 t.2) (h:RwK k 0 L.length rows):∀ n,n ≤ L.length→RwK k n L.length (rwN L st t k rows n)
 | 0,_=>h
 | n+1,hn=>rw_one hL hs ht (rw_all hL hs ht h n (by omega)) (by omega)
theorem rwk_next {k n:Nat} {rows:List (List (Int × Int))} (h:RwK k n n rows):RwK (k+1) 0 n rows:=⟨h.len,fun j hj=>by rw [h.row j hj,if_pos hj,if_neg (by omega)],h.av⟩
theorem st_one {out:List Int} {st rows:List (List (Int × Int))} {k i n:Nat} (h:RwK (k+1) i n st) (hi:i < n):RwK (k+1) (i+1) n (stStep out rows k st i):=by
 unfold stStep
 have hi':i < st.length:=by rw [h.len]; exact hi
 refine ⟨by rw [List.length_set,h.len],fun j hj=>?_,avr_set h.av i (av_snoc (gR_av h.av i) (mrN_vi 1 (by omega) _))⟩
 rw [gR_set hi']
 by_cases e:j = i
 ·subst e
  rw [if_pos rfl,List.length_append,h.row j hj,if_neg (by omega),if_pos (by omega)]; rfl
 ·rw [if_neg e,h.row j hj]
  by_cases c:j < i
  ·rw [if_pos c,if_pos (by omega)]
  ·rw [if_neg c,if_neg (by omega)]
theorem st_all {out:List Int} {st rows:List (List (Int × Int))} {k n:Nat} (h:RwK (k+1) 0 n st):∀ m,m ≤ n→RwK (k+1) m n (stN out rows k st m)
 | 0,_=>h
 | m+1,hm=>st_one (st_all h m (by omega)) (by omega)
theorem ex_ok {L:List Is} {out:List Int} {X:List (Int × Int)} {t:Int × Int} (hL:CV L) (hX:AV X) (ht:VI t.1 t.2) (ho:out.length = X.length):∀ k,RwK k 0 L.length (exN L out X t k).1∧RwK (k+1) 0 X.length (exN L out X t k).2
 | 0=>⟨⟨by simp [exN],fun j hj=>by simp [exN,gR,List.getD_eq_getElem?_getD,hj],fun r hr=>by
   have:=List.eq_of_mem_replicate hr
   subst this
   intro p hp; cases hp⟩,⟨by simp [exN],fun j hj=>by simp [exN,gR,List.getD_eq_getElem?_getD,hj],fun r hr=>by
   simp only [exN,List.mem_map] at hr
   obtain ⟨p,hp,rfl⟩:=hr
   intro q hq
   rw [List.mem_singleton.1 hq]
   exact hX p hp⟩⟩
 | k+1=>by
  obtain ⟨h1,h2⟩:=ex_ok hL hX ht ho k
  have h3:=rw_all hL h2.av ht h1 L.length (Nat.le_refl _)
  have h4:=st_all (out:=out) (rows:=rwN L (exN L out X t k).2 t k (exN L out X t k).1 L.length) h2 X.length (Nat.le_refl _)
  refine ⟨rwk_next h3,rwk_next ?_⟩
  unfold exN
  dsimp only
  rw [ho]
  exact h4
section
variable {α:Type} {enc:α→List Value} {sz:Nat} {t ts:TypeId}
theorem ot_grown {W W':World} (h:Below W.heap.size W W'):W.grownBy W' none:=⟨h.os,h.tape,h.output,h.size,fun k hk _=>h.block k hk⟩
theorem ot_kept {W W':World} {B n size:Nat} {e:TypeId} {v:Value} {xs:List Value} (h:W.ownsRow B e size v n xs) (hB:Below W.heap.size W W'):W'.ownsRow B e size v n xs:=h.kept (ot_grown hB) (by cases v.ownBlock <;> simp)
theorem ot_ne {W:World} {B B' n n' size size':Nat} {e e':TypeId} {v v':Value} {xs xs':List Value} (ht:e ≠ e') (h:W.ownsRow B e size v n xs) (h':W.ownsRow B' e' size' v' n' xs'):v.ownBlock = none ∨ v.ownBlock ≠ v'.ownBlock:=by
 rcases h.2 with ⟨rfl,_⟩ | ⟨g,cap,cur,rfl,_,hg,_⟩
 ·exact .inl rfl
 ·refine .inr fun e1=>?_
  rcases h'.2 with ⟨rfl,_⟩ | ⟨g',cap',cur',rfl,_,hg',_⟩
  ·simp [Value.ownBlock] at e1
  ·simp only [Value.ownBlock,Option.some.injEq] at e1
   subst e1
   rw [hg] at hg'
   simp only [Option.some.injEq,Obj.cells.injEq] at hg'
   exact ht hg'.2.1
theorem ot_cut {W:World} {B n size:Nat} {e:TypeId} {v:Value} {xs:List Value} (h:W.ownsRow B e size v n xs) (hn:0 < n):∃ O c,v = .slice (some ⟨O,0,none⟩) n c∧B ≤ O∧O < W.heap.size:=by
 rcases h.2 with ⟨_,e1⟩ | ⟨g,cap,cur,rfl,hb,hg,_⟩
 ·omega
 ·exact ⟨g,cap,rfl,hb,(Array.getElem?_eq_some_iff.1 hg).1⟩
structure OwT (enc:α→List Value) (sz:Nat) (t ts:TypeId) (B:Nat) (W:World) (v:Value) (rows:List (List α)) (us:List Value):Prop where
 out:W.ownsRow B ts 1 v rows.length us
 row:∀ (i:Nat) (r:List α),rows[i]? = some r→∃ u,us[i]? = some u∧W.ownsRow B t sz u r.length (cr enc r)
 far:∀ (i j:Nat) (u x:Value),us[i]? = some u→us[j]? = some x→i ≠ j→u.ownBlock = none ∨ u.ownBlock ≠ x.ownBlock
theorem OwT.grow {B:Nat} {W W':World} {v:Value} {rows:List (List α)} {us:List Value} (h:OwT enc sz t ts B W v rows us) (hB:Below W.heap.size W W'):OwT enc sz t ts B W' v rows us :=
 ⟨ot_kept h.out hB,fun i r hr=>by
  obtain ⟨u,h1,h2⟩:=h.row i r hr
  exact ⟨u,h1,ot_kept h2 hB⟩,h.far⟩
theorem OwT.base {B B':Nat} {W:World} {v:Value} {rows:List (List α)} {us:List Value} (h:OwT enc sz t ts B W v rows us) (hB:B' ≤ B):OwT enc sz t ts B' W v rows us:=by
 have key:∀ {e:TypeId} {size n:Nat} {u:Value} {xs:List Value},W.ownsRow B e size u n xs→W.ownsRow B' e size u n xs:=fun h=>⟨h.1,h.2.imp id fun ⟨g,c,cur,e1,hb,r⟩=>⟨g,c,cur,e1,Nat.le_trans hB hb,r⟩⟩
 exact ⟨key h.out,fun i r hr=>by
  obtain ⟨u,h1,h2⟩:=h.row i r hr
  exact ⟨u,h1,key h2⟩,h.far⟩
theorem OwT.lx (hsz:∀ x,(enc x).length = sz) {B:Nat} {W:World} {v:Value} {rows:List (List α)} {us:List Value} (h:OwT enc sz t ts B W v rows us) (hl:rows.length ≤ maxLen) (hr:∀ r ∈ rows,r.length ≤ maxLen):Lx (Rx enc sz) W v rows:=by
 refine ⟨hl,?_⟩
 rcases h.out.2 with ⟨rfl,e⟩ | ⟨g,cap,cur,rfl,hb,hg,_⟩
 ·refine ⟨none,0,by rw [e],fun k x hx=>?_⟩
  have:=(List.getElem?_eq_some_iff.1 hx).1
  omega
 ·refine ⟨some ⟨g,0,none⟩,cap,rfl,fun k x hx=>?_⟩
  obtain ⟨u,h1,h2⟩:=h.row k x hx
  have hk:=(List.getElem?_eq_some_iff.1 hx).1
  refine ⟨g,0,u,rfl,(Array.getElem?_eq_some_iff.1 hg).1,?_,Rx.own hsz h2 (hr x (List.mem_of_getElem? hx))⟩
  rw [Nat.zero_add,h.out.cellAt k (by omega)]
  exact h1
theorem OwT.at {B:Nat} {W:World} {v:Value} {rows:List (List α)} {us:List Value} (h:OwT enc sz t ts B W v rows us) {i:Nat} {r:List α} (hr:rows[i]? = some r):∃ O c u,v = .slice (some ⟨O,0,none⟩) rows.length c∧B ≤ O∧O < W.heap.size∧us[i]? = some u∧W.cell? ⟨O,i,none⟩ = some u∧W.frozen? ⟨O,i,none⟩ = false∧W.ownsRow B t sz u r.length (cr enc r):=by
 have hi:=(List.getElem?_eq_some_iff.1 hr).1
 obtain ⟨O,c,rfl,hb,hO⟩:=ot_cut h.out (by omega)
 obtain ⟨u,h1,h2⟩:=h.row i r hr
 exact ⟨O,c,u,rfl,hb,hO,h1,by rw [h.out.cellAt i (by omega)]; exact h1,h.out.frozenAt i,h2⟩
theorem OwT.other {B:Nat} {W W':World} {v:Value} {rows:List (List α)} {us:List Value} (h:OwT enc sz t ts B W v rows us) {row:Option Nat} (hg:W.grownBy W' row) (ho:v.ownBlock = none ∨ v.ownBlock ≠ row) (hu:∀ u ∈ us,u.ownBlock = none ∨ u.ownBlock ≠ row):OwT enc sz t ts B W' v rows us :=
 ⟨h.out.kept hg ho,fun i r hr=>by
  obtain ⟨u,h1,h2⟩:=h.row i r hr
  exact ⟨u,h1,h2.kept hg (hu u (List.mem_of_getElem? h1))⟩,h.far⟩
theorem OwT.push (hts:t ≠ ts) {B:Nat} {W W':World} {O c:Nat} {rows:List (List α)} {us:List Value} (h:OwT enc sz t ts B W (.slice (some ⟨O,0,none⟩) rows.length c) rows us) {i:Nat} {r:List α} {x:α} {u u':Value} (hr:rows[i]? = some r) (hu:us[i]? = some u)
  (ho:W'.ownsRow B t sz u' (r.length+1) (cr enc r ++ enc x)) (hg:W.grownBy W' u.ownBlock) (hat:u'.ownBlock = u.ownBlock ∨ u'.ownBlock = some W.heap.size) :
  OwT enc sz t ts B (W'.setCell ⟨O,i,none⟩ u') (.slice (some ⟨O,0,none⟩) rows.length c) (rows.set i (r ++ [x])) (us.set i u'):=by
 have hi:=(List.getElem?_eq_some_iff.1 hr).1
 obtain ⟨u0,e0,hrow⟩:=h.row i r hr
 rw [hu] at e0
 obtain rfl:=Option.some.inj e0
 have hOne:(Value.slice (some ⟨O,0,none⟩) rows.length c).ownBlock = none ∨ (Value.slice (some ⟨O,0,none⟩) rows.length c).ownBlock ≠ u.ownBlock:=ot_ne (fun e=>hts e.symm) h.out hrow
 have hout:=h.out.kept hg hOne
 have st:=hout.stored i u'
 have hne:∀ (y:Value) (n:Nat) (xs:List Value),W'.ownsRow B t sz y n xs→y.ownBlock = none ∨ y.ownBlock ≠ some O:=fun y n xs hy=>ot_ne hts hy hout
 refine ⟨by rw [List.length_set]; exact st.1,fun j s hs=>?_,fun j k y z hy hz hjk=>?_⟩
 ·by_cases e:j = i
  ·subst e
   rw [List.getElem?_set_self hi] at hs
   obtain rfl:=Option.some.inj hs
   have hj:j < us.length:=by have:=(List.getElem?_eq_some_iff.1 hu).1; exact this
   refine ⟨u',List.getElem?_set_self hj,?_⟩
   have:=ho.kept st.2 (hne _ _ _ ho)
   rw [List.length_append,List.length_singleton,cr_snoc]
   exact this
  ·rw [List.getElem?_set_ne (fun q=>e q.symm)] at hs
   obtain ⟨y,h1,h2⟩:=h.row j s hs
   refine ⟨y,by rw [List.getElem?_set_ne (fun q=>e q.symm)]; exact h1,?_⟩
   have h3:=h2.kept hg (h.far j i y u h1 hu e)
   exact h3.kept st.2 (hne _ _ _ h3)
 ·have hil:i < us.length:=(List.getElem?_eq_some_iff.1 hu).1
  have lt:∀ (k:Nat) (y:Value),us[k]? = some y→k < rows.length→∀ b,y.ownBlock = some b→b < W.heap.size:=fun k y hk hl b hb=>by
   obtain ⟨r',hr'⟩:∃ r',rows[k]? = some r':=⟨_,List.getElem?_eq_getElem hl⟩
   obtain ⟨y',h1,h2⟩:=h.row k r' hr'
   rw [hk] at h1
   obtain rfl:=Option.some.inj h1
   exact (h2.lt b hb).2
  have hlen:us.length = rows.length:=by have:=h.out.1; simpa using this
  by_cases ej:j = i
  ·subst ej
   rw [List.getElem?_set_self hil] at hy
   obtain rfl:=Option.some.inj hy
   rw [List.getElem?_set_ne (fun q=>hjk q)] at hz
   rcases hat with e | e
   ·rw [e]; exact h.far j k u z hu hz hjk
   ·rw [e]
    refine .inr fun e2=>?_
    have hk:=(List.getElem?_eq_some_iff.1 hz).1
    have:=lt k z hz (by omega) _ e2.symm
    omega
  ·rw [List.getElem?_set_ne (fun q=>ej q.symm)] at hy
   by_cases ek:k = i
   ·subst ek
    rw [List.getElem?_set_self hil] at hz
    obtain rfl:=Option.some.inj hz
    rcases hat with e | e
    ·rw [e]; exact h.far j k y u hy hu hjk
    ·rw [e]
     refine .inr fun e2=>?_
     have hk:=(List.getElem?_eq_some_iff.1 hy).1
     have:=lt j y hy (by omega) _ e2
     omega
   ·rw [List.getElem?_set_ne (fun q=>ek q.symm)] at hz
    exact h.far j k y z hy hz hjk
theorem OwT.snoc (hts:t ≠ ts) {B:Nat} {W W':World} {v v' u:Value} {rows:List (List α)} {us:List Value} {r:List α} (h:OwT enc sz t ts B W v rows us) (hu:W.ownsRow B t sz u r.length (cr enc r)) (hfar:∀ y ∈ us,y.ownBlock = none ∨ y.ownBlock ≠ u.ownBlock)
  (ho:W'.ownsRow B ts 1 v' (rows.length+1) (us ++ [u])) (hg:W.grownBy W' v.ownBlock) :
  OwT enc sz t ts B W' v' (rows ++ [r]) (us ++ [u]):=by
 have hlen:us.length = rows.length:=by have:=h.out.1; simpa using this
 have ne:∀ (y:Value) (n:Nat) (xs:List Value),W.ownsRow B t sz y n xs→y.ownBlock = none ∨ y.ownBlock ≠ v.ownBlock:=fun y n xs hy=>ot_ne hts hy h.out
 have sym:∀ {a b:Option Nat},(a = none ∨ a ≠ b)→(b = none ∨ b ≠ a):=fun {a b} h=>by
  rcases h with h | h
  ·subst h; cases b <;> simp
  ·exact .inr fun e=>h e.symm
 refine ⟨by rw [List.length_append]; exact ho,fun j s hs=>?_,fun j k y z hy hz hjk=>?_⟩
 ·by_cases e:j < rows.length
  ·rw [List.getElem?_append_left e] at hs
   obtain ⟨y,h1,h2⟩:=h.row j s hs
   exact ⟨y,by rw [List.getElem?_append_left (by omega)]; exact h1,h2.kept hg (ne _ _ _ h2)⟩
  ·have hj:=(List.getElem?_eq_some_iff.1 hs).1
   rw [List.length_append,List.length_singleton] at hj
   obtain rfl:j = rows.length:=by omega
   rw [List.getElem?_concat_length] at hs
   obtain rfl:=Option.some.inj hs
   exact ⟨u,by rw [← hlen,List.getElem?_concat_length],hu.kept hg (ne _ _ _ hu)⟩
 ·have hj:=(List.getElem?_eq_some_iff.1 hy).1
  have hk:=(List.getElem?_eq_some_iff.1 hz).1
  rw [List.length_append,List.length_singleton] at hj hk
  by_cases ej:j < us.length
  ·rw [List.getElem?_append_left ej] at hy
   by_cases ek:k < us.length
   ·rw [List.getElem?_append_left ek] at hz
    exact h.far j k y z hy hz hjk
   ·obtain rfl:k = us.length:=by omega
    rw [List.getElem?_concat_length] at hz
    obtain rfl:=Option.some.inj hz
    exact hfar y (List.mem_of_getElem? hy)
  ·obtain rfl:j = us.length:=by omega
   rw [List.getElem?_concat_length] at hy
   obtain rfl:=Option.some.inj hy
   by_cases ek:k < us.length
   ·rw [List.getElem?_append_left ek] at hz
    exact sym (hfar z (List.mem_of_getElem? hz))
   ·omega
theorem OwT.mem {B:Nat} {W:World} {v:Value} {rows:List (List α)} {us:List Value} (h:OwT enc sz t ts B W v rows us) {u:Value} (hu:u ∈ us):∃ r ∈ rows,W.ownsRow B t sz u r.length (cr enc r):=by
 have hlen:us.length = rows.length:=by have:=h.out.1; simpa using this
 obtain ⟨i,hi⟩:=List.getElem?_of_mem hu
 have hl:=(List.getElem?_eq_some_iff.1 hi).1
 obtain ⟨r,hr⟩:∃ r,rows[i]? = some r:=⟨_,List.getElem?_eq_getElem (by omega)⟩
 obtain ⟨y,h1,h2⟩:=h.row i r hr
 rw [hi] at h1
 obtain rfl:=Option.some.inj h1
 exact ⟨r,List.mem_of_getElem? hr,h2⟩
end
end Go.Proofs.YtdfdpghdjlgghaaGreat
