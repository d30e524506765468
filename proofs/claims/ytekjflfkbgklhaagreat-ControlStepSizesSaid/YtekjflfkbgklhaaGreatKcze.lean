/-
 Ve Ca Cb
-/
import Derived.Test.YtekjflfkbgklhaaGreatKcp
import Derived.Test.YtekjflfkbgklhaaGreatKcw
import Derived.Test.YtekjflfkbgklhaaGreatKczd
import Derived.RangeFuncNested
import Derived.RangeFuncBound
import Derived.RangeFuncCalls
import Derived.RangeFuncLeaves
import Derived.Shelf.Abstract
import Derived.WalkKit
import Derived.Below
namespace Go.Proofs.YtekjflfkbgklhaaGreat
open Go Go.RowKit Go.Shelf
set_option linter.unusedVariables false
set_option linter.unusedSimpArgs false
def Keep (B:Nat) (W W':World):Prop:=W.heap.size ≤ W'.heap.size∧∀ k o,B ≤ k→W.heap[k]? = some o→o.isCells = false→W'.heap[k]? = some o
def rfPost (B:Nat) (p:Nat→Prop) (Ix:Code→Nat→World→Prop) (i:Nat) (W:World):Exit→Act→World→Prop
 | .normal,_,W'=>Below W.heap.size W W'∧p (i+1)
 | .ret,_,W'=>Keep B W W'∧Ix .ret (i+1) W'
 | .exit id,_,W'=>Keep B W W'∧Ix (.exit id) (i+1) W'
 | .goto t,_,W'=>Keep B W W'∧Ix (.goto t) (i+1) W'
 | .panic _,_,_=>False
 | .outgrown,_,_=>False
def SeqN (P:Program) (n gf:Nat) (lb:Array Value) (N:Nat) (Y:Nat→Array Value→World→Prop) (w:World):Prop :=
 ∀ (l:Nat) (J Jx:Nat→World→Prop) (W:World),Below w.heap.size w W→w.heap.size ≤ l→(∀ i A,J i A→∃ r,A.heap[l]? = some (.loop r)) →
  (∀ i A B,J i A→Below A.heap.size A B→J i B)→(∀ i A B,Jx i A→Below A.heap.size A B→Jx i B) →
  (∀ i xs W1,i < N→J i W1→Y i xs W1→YieldAt Fence.wide (n - 1) P l xs W1 fun e W' =>
   (e = .returned (.bool true)∧J (i+1) W'∧W1.grownBy W' (some l)) ∨ (e = .returned (.bool false)∧Jx (i+1) W')) →
  J 0 W→CallsIn Fence.wide n P gf (#[.func (.yield l) #[] #[]] ++ lb) W fun e W'=>(∃ v,e = .returned v)∧(J N W' ∨ ∃ i,Jx i W')
theorem gb_trans {A B C:World} {row:Option Nat} (h:A.grownBy B row) (k:B.grownBy C row):A.grownBy C row :=
 ⟨k.os.trans h.os,k.tape.trans h.tape,k.output.trans h.output,Nat.le_trans h.size k.size,fun j hj hn=>(k.block j (Nat.lt_of_lt_of_le hj h.size) hn).trans (h.block j hj hn)⟩
theorem gb_below {A B:World} (h:Below A.heap.size A B) (row:Option Nat):A.grownBy B row:=⟨h.os,h.tape,h.output,h.size,fun j hj _=>h.block j hj⟩
theorem gb_old {A B:World} {l n0:Nat} {a:World} (h:A.grownBy B (some l)) (hl:n0 ≤ l) (hb:Below n0 a A) (hn:n0 ≤ A.heap.size):Below n0 a B:=hb.grown h hn (fun k e=>by cases e; exact hl)
theorem keep_below {B0:Nat} {A B:World} (h:Below A.heap.size A B):Keep B0 A B:=⟨h.size,fun k o _ hk _=>(h.block k (Array.getElem?_eq_some_iff.1 hk).1).trans hk⟩
theorem rf_nat {P:Program} {g:Operand} {ps:Array Tmp} {assign body:Code} {Q:Exit→Act→World→Prop} {a:Act} {w:World} (n:Nat) (h1:1 ≤ n) {gf:Nat} {lb:Array Value}
  (hg:a.eval g = .func (.func gf) #[] lb) (eg:∀ args w,(callFunc gf args).run P w = .ok (.enter gf args) w)
  (N:Nat) (Y:Nat→Array Value→World→Prop) (hYs:∀ i xs W,Y i xs W→xs.size = ps.size) (p:Nat→Prop) (Ix:Code→Nat→World→Prop) (hseq:SeqN P (n - 1) gf lb N Y w)
  (hIx:∀ c i A k o o',Ix c i A→w.heap.size ≤ k→A.heap[k]? = some o→o.isCells = false→Ix c i (A.putObj k o')) (hIxB:∀ c i A B,Ix c i A→Below A.heap.size A B→Ix c i B)
  (Ax:Nat→Array Value→Act→World→Prop) (hAx:∀ i xs a' A k o o',Ax i xs a' A→w.heap.size ≤ k→A.heap[k]? = some o→o.isCells = false→Ax i xs a' (A.putObj k o')) (h0:p 0)
  (hassign:∀ l i xs W (K:Act→World→Prop),Y i xs W→(∀ a' W',Below W.heap.size W W'→Ax i xs a' W'→K a' W') →
   assign.wpIn (Fence.wide.inRound l) (n - 1 - 1) P (Exit.then K (fun _ _ _=>False)) { tmps:=(ps.zip xs).foldl (fun t (p,v)=>t.setIfInBounds p v) a.tmps,defers:=[] } W)
  (hbody:∀ l i xs a' W,w.heap.size+1 = l→(∃ r,W.heap[l]? = some (.loop r))→p i→i < N→Below w.heap.size w W→Ax i xs a' W→body.wpIn (Fence.wide.inRound l) (n - 1 - 1) P (rfPost w.heap.size p Ix i W) a' W)
  (hdone:∀ W,p N→Below w.heap.size w W→W.heap[w.heap.size]? = some (.deferred (some []))→Q .normal { a with defers:={ target:=.collected w.heap.size,args:=#[] } :: a.defers } W)
  (hstop:∀ c i W,Ix c i W→W.heap[w.heap.size]? = some (.deferred (some []))→c.wpIn Fence.wide n P Q { a with defers:={ target:=.collected w.heap.size,args:=#[] } :: a.defers } W) :
  (Code.rangeFunc g ps assign body).wpIn Fence.wide n P Q a w:=by
 refine wpIn_rangeFunc fun fn hfn=>?_
 obtain ⟨rec,hrec⟩:∃ rec:LoopState→Option Code→Loop,rec = fun st pe=>⟨st,pe,fn,a.tmps,ps,assign,body,w.heap.size⟩:=⟨_,rfl⟩
 obtain ⟨W1,hW1⟩:∃ W1,(w.alloc (.deferred (some []))).alloc (.loop (rec .ready none)) = W1:=⟨_,rfl⟩
 have e1:W1.heap[w.heap.size+1]? = some (.loop (rec .ready none)):=by
  subst hW1
  have h:=World.alloc_heap_new (w.alloc (.deferred (some []))) (.loop (rec .ready none))
  rwa [World.size_alloc] at h
 have e2:W1.heap[w.heap.size]? = some (.deferred (some [])):=by
  subst hW1
  exact (Below.heap_alloc _ _ _ (by simp)).trans (World.alloc_heap_new w _)
 have hb1:Below w.heap.size w W1:=by
  subst hW1
  exact ((Below.refl _ w).alloc (Nat.le_refl _) _).alloc (by simp) _
 refine ⟨w.heap.size+1,[{ target:=.collected w.heap.size,args:=#[] }],W1,{ target:=.fn (.func gf) lb,args:=#[.func (.yield (w.heap.size+1)) #[] #[]] },W1,gf,#[.func (.yield (w.heap.size+1)) #[] #[]] ++ lb,W1,
  by rw [← hW1,hrec]; exact run_enterLoop_outer _ _ _ _ _,by simp only [resolve,hg]; simp [go_sem],fun f' hf'=>by simp [Target.leads] at hf'; subst hf'; trivial,by simp [invoke,go_sem,eg],fun _=>h1,?_⟩
 -- the caller's invariant,with the two facts of book-keeping
 refine (hseq (w.heap.size+1) (fun i W=>p i∧Below w.heap.size w W∧W.heap[w.heap.size+1]? = some (.loop (rec .ready none))∧W.heap[w.heap.size]? = some (.deferred (some [])))
  (fun i W=>∃ c,Ix c i W∧W.heap[w.heap.size+1]? = some (.loop (rec .done (some c)))∧W.heap[w.heap.size]? = some (.deferred (some []))) W1 hb1 (Nat.le_succ _) (fun i A h=>⟨_,h.2.2.1⟩)
  (fun i A B h hAB=>⟨h.1,h.2.1.trans (hAB.mono h.2.1.size),(hAB.block _ (Array.getElem?_eq_some_iff.1 h.2.2.1).1).trans h.2.2.1,(hAB.block _ (Array.getElem?_eq_some_iff.1 h.2.2.2).1).trans h.2.2.2⟩)
  (fun i A B ⟨c,h,k1,k2⟩ hAB=>⟨c,hIxB c i A B h hAB,(hAB.block _ (Array.getElem?_eq_some_iff.1 k1).1).trans k1,(hAB.block _ (Array.getElem?_eq_some_iff.1 k2).1).trans k2⟩) ?_ ⟨h0,hb1,e1,e2⟩).mono ?_
 ·rintro i xs W hi ⟨hp,hB,hl,hk⟩ hY
  have hy:=run_yield (P:=P) (args:=xs) hl (by rw [hrec]; exact hYs i xs W hY)
  rw [hrec] at hy
  refine ⟨fn,_,assign,body,hy,roundIn_of_wpIn hfn (hassign _ i xs W _ hY fun a' Wa hBa hAxa=>?_)⟩
  have hl1:=(hBa.block _ (Array.getElem?_eq_some_iff.1 hl).1).trans hl
  have hk1:=(hBa.block _ (Array.getElem?_eq_some_iff.1 hk).1).trans hk
  have hlt:=(Array.getElem?_eq_some_iff.1 hl1).1
  refine ⟨_,run_beginRound hl1 (by rw [hrec]),?_⟩
  obtain ⟨W2,hW2⟩:∃ W2,Wa.putObj (w.heap.size+1) (.loop { rec .ready none with state:=.busy }) = W2:=⟨_,rfl⟩
  have hl2:W2.heap[w.heap.size+1]? = some (.loop { rec .ready none with state:=.busy }):=by rw [← hW2]; exact World.putObj_heap_same hlt
  have hk2:W2.heap[w.heap.size]? = some (.deferred (some [])):=by rw [← hW2]; exact (World.putObj_heap_other (by omega)).trans hk1
  have g2:W.grownBy W2 (some (w.heap.size+1)):=by rw [← hW2]; exact gb_trans (gb_below hBa _) (grownBy_putObj' _ _ _)
  have hB2:Below w.heap.size w W2:=gb_old g2 (Nat.le_succ _) hB hB.size
  have hAx2:Ax i xs a' W2:=by rw [← hW2]; exact hAx i xs a' Wa _ _ _ hAxa (Nat.le_succ _) hl1 rfl
  rw [hW2]
  refine wpIn_mono (hbody _ i xs a' W2 rfl ⟨_,hl2⟩ hp hi hB2 hAx2) ?_
  have fin:∀ (jump:Option Code) (W3:World),W3.heap[w.heap.size+1]? = some (.loop { rec .ready none with state:=.busy })→W3.heap[w.heap.size]? = some (.deferred (some [])) →
    (Instr.endRound (w.heap.size+1) jump).run P W3 = .ok (.bool jump.isNone) (W3.putObj (w.heap.size+1) (.loop (rec (if jump.isNone then .ready else .done) jump))) ∧
    (W3.putObj (w.heap.size+1) (.loop (rec (if jump.isNone then .ready else .done) jump))).heap[w.heap.size+1]? = some (.loop (rec (if jump.isNone then .ready else .done) jump)) ∧
    (W3.putObj (w.heap.size+1) (.loop (rec (if jump.isNone then .ready else .done) jump))).heap[w.heap.size]? = some (.deferred (some [])):=fun jump W3 a3 b3=>by
   have hr:=run_endRound (P:=P) jump a3
   rw [hrec] at hr ⊢
   exact ⟨hr,World.putObj_heap_same (Array.getElem?_eq_some_iff.1 a3).1,(World.putObj_heap_other (by omega)).trans b3⟩
  have stop:∀ (c:Code) (W3:World),Keep w.heap.size W2 W3∧Ix c (i+1) W3→∃ v w',(Instr.endRound (w.heap.size+1) (some c)).run P W3 = .ok v w' ∧
    ((Ending.returned v = .returned (.bool true)∧(p (i+1)∧Below w.heap.size w w'∧w'.heap[w.heap.size+1]? = some (.loop (rec .ready none))∧w'.heap[w.heap.size]? = some (.deferred (some [])))∧W.grownBy w' (some (w.heap.size+1))) ∨
     (Ending.returned v = .returned (.bool false)∧∃ c,Ix c (i+1) w'∧w'.heap[w.heap.size+1]? = some (.loop (rec .done (some c)))∧w'.heap[w.heap.size]? = some (.deferred (some [])))):=fun c W3 ⟨hk3,hx3⟩=>by
   have a3:=hk3.2 _ _ (Nat.le_succ _) hl2 rfl
   obtain ⟨r1,r2,r3⟩:=fin (some c) W3 a3 (hk3.2 _ _ (Nat.le_refl _) hk2 rfl)
   exact ⟨_,_,r1,.inr ⟨rfl,c,hIx _ _ _ _ _ _ hx3 (Nat.le_succ _) a3 rfl,r2,r3⟩⟩
  rintro e a3 W3 hp3
  cases e with
  | normal =>
   obtain ⟨hb3,hpn⟩:=hp3
   have a3:=(hb3.block _ (Array.getElem?_eq_some_iff.1 hl2).1).trans hl2
   obtain ⟨r1,r2,r3⟩:=fin none W3 a3 ((hb3.block _ (Array.getElem?_eq_some_iff.1 hk2).1).trans hk2)
   have g3:W.grownBy (W3.putObj (w.heap.size+1) (.loop (rec .ready none))) (some (w.heap.size+1)):=gb_trans (gb_trans g2 (gb_below hb3 _)) (grownBy_putObj' _ _ _)
   exact ⟨_,_,r1,.inl ⟨rfl,⟨hpn,gb_old g3 (Nat.le_succ _) hB hB.size,r2,r3⟩,g3⟩⟩
  | ret=>exact stop .ret W3 hp3
  | exit id=>exact stop (.exit id) W3 hp3
  | goto t=>exact stop (.goto t) W3 hp3
  | panic ch=>exact hp3.elim
  | outgrown=>exact hp3.elim
 ·rintro e W2 ⟨⟨v,rfl⟩,(⟨hpN,hB,hl,hk⟩ | ⟨i,c,hx,hl,hk⟩)⟩
  ·have hr:=run_endLoop (P:=P) hl (by rw [hrec]; simp)
   rw [hrec] at hr
   refine ⟨none,_,hr,hdone _ hpN (gb_old (grownBy_putObj' _ _ _) (Nat.le_succ _) hB hB.size) ((World.putObj_heap_other (by omega)).trans hk)⟩
  ·have hr:=run_endLoop (P:=P) hl (by rw [hrec]; simp)
   rw [hrec] at hr
   exact ⟨some c,_,hr,hstop c i _ (hIx _ _ _ _ _ _ hx (Nat.le_succ _) hl rfl) ((World.putObj_heap_other (by omega)).trans hk)⟩
end Go.Proofs.YtekjflfkbgklhaaGreat
namespace Go.Proofs.YtekjflfkbgklhaaGreat
open Go.ChangeShapes Go.WideShapes Go.ChangeAt Go.RowKit Go.Shelf
set_option linter.unusedVariables false
set_option linter.unusedSimpArgs false
set_option maxRecDepth 100000
attribute [local go_sem] Oper.semAt_some
attribute [local irreducible] Calls
theorem cell_cells {W:World} {b i:Nat} {u:Value} (h:W.cell? ⟨b,i,none⟩ = some u):∃ cs t z,W.heap[b]? = some (.cells cs t z):=by
 unfold World.cell? at h
 dsimp only at h
 split at h
 ·exact ⟨_,_,_,by assumption⟩
 ·cases h
theorem vx_row {W W':World} {v:Value} {l:List (Int × Int)} {k:Nat} (h:Vx W v l) (hg:W.grownBy W' (some k)) (hk:∃ o:Obj,W.heap[k]? = some o∧o.isCells = false):Vx W' v l:=by
 obtain ⟨h1,p,c,rfl,h2⟩:=h
 refine ⟨h1,p,c,rfl,fun i x hx=>?_⟩
 obtain ⟨b,o,rfl,h3,h4⟩:=h2 i x hx
 refine ⟨b,o,rfl,Nat.lt_of_lt_of_le h3 hg.size,fun j u hu=>?_⟩
 have hc:=h4 j u hu
 refine hg.cell hc ?_
 intro e
 obtain rfl:b = k:=Option.some.inj e
 obtain ⟨cs,t,z,hb⟩:=cell_cells hc
 obtain ⟨ob,ho,hn⟩:=hk
 rw [hb] at ho
 obtain rfl:=Option.some.inj ho
 cases hn
theorem vx_put {W:World} {v:Value} {l:List (Int × Int)} {k:Nat} {o o':Obj} (h:Vx W v l) (hk:W.heap[k]? = some o) (hn:o.isCells = false):Vx (W.putObj k o') v l:=vx_row h (grownBy_putObj' W k o') ⟨o,hk,hn⟩
def hsq (img:List (Int × Int)→List (Int × Int)) (X:List (Int × Int)):Nat→List (Int × Int)
 | 0=>hulL X (img X)
 | i+1=>hulL (infL (hsq img X i)) (img (infL (hsq img X i)))
theorem hsq_ok {img:List (Int × Int)→List (Int × Int)} {X:List (Int × Int)} (hX:∀ p ∈ X,VI p.1 p.2) (hi:∀ B:List (Int × Int),B.length = X.length→(∀ p ∈ B,VI p.1 p.2)→(img B).length = X.length∧∀ p ∈ img B,VI p.1 p.2) :
  ∀ i,(hsq img X i).length = X.length∧∀ p ∈ hsq img X i,VI p.1 p.2
 | 0=>⟨by show (hulL X (img X)).length = _; rw [hul_len (by rw [(hi X rfl hX).1])],hul_vi hX (hi X rfl hX).2⟩
 | i+1=>by
  obtain ⟨h1,h2⟩:=hsq_ok hX hi i
  have h3:(infL (hsq img X i)).length = X.length:=by rw [inf_len,h1]
  obtain ⟨h4,h5⟩:=hi _ h3 (inf_vi h2)
  exact ⟨by show (hulL _ _).length = _; rw [hul_len (by rw [h3,h4]),h3],hul_vi (inf_vi h2) h5⟩
theorem hull_vx (va vb:Value) (la lb:List (Int × Int)) (w:World) (hva:Vx w va la) (hvb:Vx w vb lb) (hlen:lb.length = la.length) (h1:∀ p ∈ la,VI p.1 p.2) (h2:∀ p ∈ lb,VI p.1 p.2) (hsm:la.length ≤ 6) :
  Calls Tryz.prog 115 #[va,vb] w fun e W'=>∃ v,e = .returned v∧Vx W' v (hulL la lb)∧Below w.heap.size w W' :=
 ((callsIn_wide (n:=5)).1 (hull_in 5 (by decide) va vb la lb w (vx_bx hva) (vx_bx hvb) hlen (fun z hz=>⟨h1 _ (List.of_mem_zip hz).1,h2 _ (List.of_mem_zip hz).2⟩) (by omega))).mono fun e W' ⟨v,he,hv,hB⟩=>⟨v,he,bx_vx hv,hB⟩
theorem inf_vx (vx:Value) (X:List (Int × Int)) (w:World) (hx:Vx w vx X) (hsm:X.length ≤ 6) (hvx:∀ p ∈ X,VI p.1 p.2) :
  Calls Tryz.prog 117 #[vx] w fun e w'=>∃ u,e = .returned u∧Vx w' u (infL X)∧Below w.heap.size w w':=by
 have hlen:=inf_len X
 refine (inf_ok vx X _ w hx hsm hvx rfl).mono fun e w' ⟨p,c,he,hown,hB⟩=>⟨_,he,?_,hB⟩
 have h:=hown
 rw [← hlen] at h
 have h2:=Rx.own encB_len h (by rw [hlen]; unfold maxLen; omega)
 rwa [hlen] at h2
end Go.Proofs.YtekjflfkbgklhaaGreat
namespace Go.Proofs.YtekjflfkbgklhaaGreat
open Go.ChangeShapes Go.WideShapes Go.ChangeAt Go.RowKit Go.Shelf
set_option linter.unusedVariables false
set_option linter.unusedSimpArgs false
set_option maxRecDepth 100000
attribute [local go_sem] Oper.semAt_some
attribute [local irreducible] Calls
def encR (img:List (Int × Int)→List (Int × Int)) (X:List (Int × Int)):Option (List (Int × Int)):=encG img 8 (hulL X (img X))
theorem encG_at (img:List (Int × Int)→List (Int × Int)) (X:List (Int × Int)) (k n:Nat) (h:k+n = 8) (hg:encG img n (hsq img X k) = encR img X) (hn:0 < n) :
  ((bndB (infL (hsq img X k)) && bndB (img (infL (hsq img X k)))) = false→encR img X = none) ∧
  ((bndB (infL (hsq img X k)) && bndB (img (infL (hsq img X k)))) = true→subB (img (infL (hsq img X k))) (infL (hsq img X k)) = true→encR img X = some (img (infL (hsq img X k)))) ∧
  ((bndB (infL (hsq img X k)) && bndB (img (infL (hsq img X k)))) = true→subB (img (infL (hsq img X k))) (infL (hsq img X k)) = false→encG img (n - 1) (hsq img X (k+1)) = encR img X):=by
 obtain ⟨m,rfl⟩:∃ m,n = m+1:=⟨n - 1,by omega⟩
 have hs:encG img (m+1) (hsq img X k) = if (bndB (infL (hsq img X k)) && bndB (img (infL (hsq img X k)))) = false then none else if subB (img (infL (hsq img X k))) (infL (hsq img X k)) = true then some (img (infL (hsq img X k))) else encG img m (hulL (infL (hsq img X k)) (img (infL (hsq img X k)))):=rfl
 rw [hs] at hg
 refine ⟨fun h1=>?_,fun h1 h2=>?_,fun h1 h2=>?_⟩
 ·rw [← hg,if_pos h1]
 ·rw [← hg,if_neg (by rw [h1]; decide),if_pos h2]
 ·rw [if_neg (by rw [h1]; decide),if_neg (by rw [h2]; decide)] at hg
  exact hg
theorem vx_setb {W:World} {v u:Value} {t:TypeId} {l:List (Int × Int)} {B:Nat} (h:Vx W v l) (hb:Boxed W B t u) (hu:∀ k n,u ≠ .int k n) (y:Value):Vx (W.setCell ⟨B,0,none⟩ y) v l:=by
 obtain ⟨h1,p,c,rfl,h2⟩:=h
 have hg:=grownBy_setCell' W B y
 refine ⟨h1,p,c,rfl,fun i x hx=>?_⟩
 obtain ⟨b,o,rfl,h3,h4⟩:=h2 i x hx
 refine ⟨b,o,rfl,Nat.lt_of_lt_of_le h3 hg.size,fun j z hz=>?_⟩
 have hc:=h4 j z hz
 refine hg.cell hc fun e=>?_
 obtain rfl:b = B:=Option.some.inj e
 unfold World.cell? at hc
 rw [show W.heap[b]? = _ from hb] at hc
 simp only [Option.isSome_none,Bool.false_eq_true,if_false] at hc
 cases ho:o+i * 2+j with
 | zero =>
  rw [ho] at hc
  have e2:u = z:=by simpa using hc
  subst e2
  unfold encB at hz
  match j,hz with
  | 0,hz=>cases hz; exact hu _ _ rfl
  | 1,hz=>cases hz; exact hu _ _ rfl
  | j+2,hz=>cases hz
 | succ m=>rw [ho] at hc; simp at hc
theorem attempts_ok (N T H:Int) (vl vo:Value) (px:Option Addr) (m cx:Nat) (w:World) :
  Calls Tryz.prog 87 #[.agg #[.int .i64 N,vl,vo],.slice px m cx,.agg #[.int .i64 T,.int .i64 H]] w fun e w'=>e = .returned (.func (.func 114) #[] #[.pointer (some ⟨w.heap.size+1,0,none⟩),.pointer (some ⟨w.heap.size,0,none⟩),.pointer (some ⟨w.heap.size+2,0,none⟩)]) ∧
   w' = ((w.alloc (.cells #[.int .i64 N,vl,vo] 39)).alloc (.cells #[.slice px m cx] 25)).alloc (.cells #[.int .i64 T,.int .i64 H] 47):=by
 go_enter Tryz.func87,Tryz.ntmps87
 go_wp2_with (fail)
 go_ret
 exact ⟨rfl,rfl⟩

end Go.Proofs.YtekjflfkbgklhaaGreat
namespace Go.Proofs.YtekjflfkbgklhaaGreat
open Go.ChangeShapes Go.WideShapes Go.ChangeAt Go.RowKit
set_option linter.unusedVariables false
set_option linter.unusedSimpArgs false
set_option maxRecDepth 100000
def lastI (r:List (Int × Int)):Int × Int:=gI r (r.length - 1)
def remI (S:List (List (Int × Int))):List (Int × Int):=S.map lastI
def extI (S:List (List (Int × Int))) (R:List (Int × Int)):List (List (Int × Int)):=List.zipWith (fun s r=>s ++ [r]) S R
def rsP (a b:Int × Int):Int × Int:=if max a.1 b.1 ≤ min a.2 b.2 then (max a.1 b.1,min a.2 b.2) else b
def rsL (A B:List (Int × Int)):List (Int × Int):=List.zipWith rsP A B
def serR (L:List Is) (O:List Int) (X B:List (Int × Int)) (T H:Int) (K:Nat):List (List (Int × Int)):=extI (serI L O X (T,T) K) (remI (serI L O B (T,T+H) (K+1)))
def encA (L:List Is) (O:List Int) (X B:List (Int × Int)) (T H:Int) (p:Int × Int) (K:Nat):List (Int × Int):=rsL (evS9 p (serR L O X B T H K)) B
def stpQ (L:List Is) (O:List Int) (X:List (Int × Int)) (T H:Int) (K:Nat):Option (List (Int × Int))→Option (List (Int × Int) × List (Int × Int) × List (Int × Int))
 | none=>none
 | some B=>if bndB (encA L O X B T H (0,H) K) && bndB (encA L O X B T H (H,H) K) then some (B,encA L O X B T H (0,H) K,encA L O X B T H (H,H) K) else none
def stpI (L:List Is) (O:List Int) (X:List (Int × Int)) (T H:Int) (K:Nat):Option (List (Int × Int) × List (Int × Int) × List (Int × Int)):=stpQ L O X T H K (encR (imgT L O T H X) X)
theorem rsP_vi {a b:Int × Int} (ha:VI a.1 a.2) (hb:VI b.1 b.2):VI (rsP a b).1 (rsP a b).2:=by
 unfold rsP
 split
 ·rename_i h
  have:=mk_meet ha hb h
  rcases ha with ⟨e1,e2⟩ | ⟨⟨h1,h2⟩,⟨h3,h4⟩,h5⟩
  ·rcases hb with ⟨f1,f2⟩ | ⟨⟨k1,k2⟩,⟨k3,k4⟩,k5⟩
   ·exact .inl ⟨by dsimp only; omega,by dsimp only; omega⟩
   ·exact .inr ⟨⟨by dsimp only; omega,by dsimp only; omega⟩,⟨by dsimp only; omega,by dsimp only; omega⟩,h⟩
  ·rcases hb with ⟨f1,f2⟩ | ⟨⟨k1,k2⟩,⟨k3,k4⟩,k5⟩
   ·exact .inr ⟨⟨by dsimp only; omega,by dsimp only; omega⟩,⟨by dsimp only; omega,by dsimp only; omega⟩,h⟩
   ·exact .inr ⟨⟨by dsimp only; omega,by dsimp only; omega⟩,⟨by dsimp only; omega,by dsimp only; omega⟩,h⟩
 ·exact hb
theorem remI_len (S:List (List (Int × Int))):(remI S).length = S.length:=List.length_map _
theorem remI_av {S:List (List (Int × Int))} (h:AVR S):AV (remI S):=by
 intro p hp
 obtain ⟨r,hr,rfl⟩:=List.mem_map.1 hp
 exact gI_vi (h r hr) _
theorem extI_len {S:List (List (Int × Int))} {R:List (Int × Int)} (h:R.length = S.length):(extI S R).length = S.length:=by
 unfold extI
 rw [List.length_zipWith,h,Nat.min_self]
theorem extI_at {S:List (List (Int × Int))} {R:List (Int × Int)} {k:Nat} {s:List (Int × Int)} {r:Int × Int} (hs:S[k]? = some s) (hr:R[k]? = some r):(extI S R)[k]? = some (s ++ [r]):=by
 unfold extI
 rw [List.getElem?_zipWith,hs,hr]
theorem extI_snoc {S:List (List (Int × Int))} {R:List (Int × Int)} {k:Nat} {s:List (Int × Int)} {r:Int × Int} (hs:S[k]? = some s) (hr:R[k]? = some r):(extI S R).take (k+1) = (extI S R).take k ++ [s ++ [r]]:=by
 rw [List.take_add_one,extI_at hs hr]
 rfl
theorem mem_zipWith_of {α β γ:Type} {f:α→β→γ} {z:γ}:∀ {l:List α} {m:List β},z ∈ List.zipWith f l m→∃ a ∈ l,∃ b ∈ m,z = f a b
 | [],_,h=>by simp at h
 | a :: l,[],h=>by simp at h
 | a :: l,b :: m,h=>by
  rw [List.zipWith_cons_cons] at h
  rcases List.mem_cons.1 h with rfl | h
  ·exact ⟨a,List.mem_cons_self,b,List.mem_cons_self,rfl⟩
  ·obtain ⟨x,hx,y,hy,e⟩:=mem_zipWith_of h
   exact ⟨x,List.mem_cons_of_mem _ hx,y,List.mem_cons_of_mem _ hy,e⟩
theorem extI_av {S:List (List (Int × Int))} {R:List (Int × Int)} (hS:AVR S) (hR:AV R):AVR (extI S R):=by
 intro z hz
 obtain ⟨s,hs,r,hr,rfl⟩:=mem_zipWith_of hz
 exact av_snoc (hS s hs) (hR r hr)
theorem rsL_len {A B:List (Int × Int)} (h:B.length = A.length):(rsL A B).length = A.length:=by
 unfold rsL
 rw [List.length_zipWith,h,Nat.min_self]
theorem rsL_at {A B:List (Int × Int)} {k:Nat} {x y:Int × Int} (hx:A[k]? = some x) (hy:B[k]? = some y):(rsL A B)[k]? = some (rsP x y):=by
 unfold rsL
 rw [List.getElem?_zipWith,hx,hy]
theorem rsL_snoc {A B:List (Int × Int)} {k:Nat} {x y:Int × Int} (hx:A[k]? = some x) (hy:B[k]? = some y):(rsL A B).take (k+1) = (rsL A B).take k ++ [rsP x y]:=by
 rw [List.take_add_one,rsL_at hx hy]
 rfl
theorem rsL_av {A B:List (Int × Int)} (hA:AV A) (hB:AV B):AV (rsL A B):=by
 intro z hz
 obtain ⟨a,ha,b,hb,rfl⟩:=mem_zipWith_of hz
 exact rsP_vi (hA a ha) (hB b hb)
theorem remI_snoc {S:List (List (Int × Int))} {k:Nat} {s:List (Int × Int)} (hs:S[k]? = some s):(remI S).take (k+1) = (remI S).take k ++ [lastI s]:=by
 unfold remI
 rw [← List.map_take,← List.map_take,List.take_add_one,hs]
 simp
theorem evS9_av {p:Int × Int} (hp:VI p.1 p.2) {S:List (List (Int × Int))} (h:AVR S):AV (evS9 p S):=by
 intro q hq
 obtain ⟨r,hr,rfl⟩:=List.mem_map.1 hq
 exact hoI_vi hp (h r hr)
theorem evS9_len (p:Int × Int) (S:List (List (Int × Int))):(evS9 p S).length = S.length:=List.length_map _
theorem tv_cv {N:Int} {L:List Is} {O:List Int} (htv:tvB N L O = true):CV L:=fun x hx e=>by
 obtain ⟨k,hk⟩:=List.getElem?_of_mem hx
 rcases vin_cases ((tv_cases htv).2.2.2.2.1 k x hk) with ⟨_,h⟩ | ⟨h,_⟩ | h | ⟨h,_⟩ | ⟨h,_⟩ <;> first | exact h | omega
theorem ser_av {N:Int} {L:List Is} {O:List Int} {X:List (Int × Int)} {t:Int × Int} (htv:tvB N L O = true) (hXN:(X.length:Int) = N) (hX:AV X) (ht:VI t.1 t.2) (k:Nat):AVR (serI L O X t k) :=
 (ex_ok (tv_cv htv) hX ht (by have:=(tv_cases htv).2.2.2.1; omega) k).2.av
theorem ser_rows {N:Int} {L:List Is} {O:List Int} {X:List (Int × Int)} {t:Int × Int} (htv:tvB N L O = true) (hXN:(X.length:Int) = N) (k:Nat):∀ r ∈ serI L O X t k,r.length = k+1:=by
 intro r hr
 obtain ⟨j,hj⟩:=List.getElem?_of_mem hr
 have hl:=(List.getElem?_eq_some_iff.1 hj).1
 rw [ser_len] at hl
 have:=ser_at (L:=L) (t:=t) (show O.length = X.length by have:=(tv_cases htv).2.2.2.1; omega) j hl k
 unfold gR at this
 rw [List.getD_eq_getElem?_getD,hj] at this
 exact this
theorem extI_rows {S:List (List (Int × Int))} {R:List (Int × Int)} {n:Nat} (h:∀ r ∈ S,r.length = n):∀ r ∈ extI S R,r.length = n+1:=by
 intro z hz
 obtain ⟨s,hs,r,hr,rfl⟩:=mem_zipWith_of hz
 rw [List.length_append,h s hs]
 rfl
theorem serR_len {N:Int} {L:List Is} {O:List Int} {X B:List (Int × Int)} {T H:Int} {K:Nat} (hB:B.length = X.length):(serR L O X B T H K).length = X.length:=by
 unfold serR
 rw [extI_len (by rw [remI_len,ser_len,ser_len,hB]),ser_len]
theorem encA_len {L:List Is} {O:List Int} {X B:List (Int × Int)} {T H:Int} {p:Int × Int} {K:Nat} (hB:B.length = X.length):(encA L O X B T H p K).length = X.length:=by
 unfold encA
 rw [rsL_len (by rw [evS9_len,serR_len (N:=0) hB,hB]),evS9_len,serR_len (N:=0) hB]
theorem serR_av {N:Int} {L:List Is} {O:List Int} {X B:List (Int × Int)} {T H:Int} {K:Nat} (htv:tvB N L O = true) (hXN:(X.length:Int) = N) (hBN:(B.length:Int) = N) (hX:AV X) (hB:AV B) (ht:VI T T) (ht2:VI T (T+H)):AVR (serR L O X B T H K) :=
 extI_av (ser_av htv hXN hX ht K) (remI_av (ser_av htv hBN hB ht2 (K+1)))
theorem encA_av {N:Int} {L:List Is} {O:List Int} {X B:List (Int × Int)} {T H:Int} {p:Int × Int} {K:Nat} (htv:tvB N L O = true) (hXN:(X.length:Int) = N) (hBN:(B.length:Int) = N) (hX:AV X) (hB:AV B) (ht:VI T T) (ht2:VI T (T+H)) (hp:VI p.1 p.2):AV (encA L O X B T H p K) :=
 rsL_av (evS9_av hp (serR_av htv hXN hBN hX hB ht ht2)) hB
end Go.Proofs.YtekjflfkbgklhaaGreat
namespace Go.Proofs.YtekjflfkbgklhaaGreat
open Go.ChangeShapes Go.WideShapes Go.ChangeAt Go.RowKit
set_option linter.unusedVariables false
set_option linter.unusedSimpArgs false
set_option maxRecDepth 100000
def wdB (wide:Int) (p:Int × Int):Bool:=decide (wide < p.2 - p.1)
abbrev Sg:=List (Int × Int) × List (Int × Int) × List (Int × Int)
def accB (wide:Int) (en tube:List (Int × Int)):Bool:=!en.any (wdB wide) && !tube.any (wdB wide)
def tryC (stp:Int→Option Sg) (wide h:Int):Option Sg :=
 match stp h with
 | none=>none
 | some s=>if accB wide s.2.2 s.2.1 then some s else none
def advF (stp:Int→Option Sg) (least wide:Int):Nat→Int→Option (Int × Sg)
 | 0,_=>none
 | f+1,h =>
  match tryC stp wide h with
  | some s=>some (h,s)
  | none=>if h / 2 < least then none else advF stp least wide f (h / 2)
def advI (stp:Int→Option Sg) (least wide h:Int):Option (Int × Sg):=advF stp least wide 40 h
def hlv (h:Int):Nat→Int
 | 0=>h
 | k+1=>hlv h k / 2
def cntF (least:Int):Nat→Int→Nat
 | 0,_=>0
 | f+1,h=>if h / 2 < least then 1 else cntF least f (h / 2)+1
theorem hlv_bd {h:Int} (h0:0 ≤ h):∀ k,0 ≤ hlv h k∧hlv h k ≤ h
 | 0=>⟨h0,Int.le_refl _⟩
 | k+1=>by
  have:=hlv_bd h0 k
  show 0 ≤ hlv h k / 2∧hlv h k / 2 ≤ h
  omega
theorem hlv_lt {h:Int} (h1:1 ≤ h) (k:Nat):hlv h (k+1) < h:=by
 have:=hlv_bd (show (0:Int) ≤ h by omega) k
 show hlv h k / 2 < h
 omega
theorem hlv_pow {h:Int} (h0:0 ≤ h):∀ k,hlv h k * 2 ^ k ≤ h
 | 0=>by show h * 1 ≤ h; omega
 | k+1=>by
  have ih:=hlv_pow h0 k
  have hb:=hlv_bd h0 k
  show hlv h k / 2 * 2 ^ (k+1) ≤ h
  have e:(2:Int) ^ (k+1) = 2 ^ k * 2:=Int.pow_succ 2 k
  have hp:(0:Int) < 2 ^ k:=Int.pow_pos (by decide)
  rw [e,show hlv h k / 2 * (2 ^ k * 2) = (hlv h k / 2 * 2) * 2 ^ k from by rw [Int.mul_comm (2 ^ k) 2,Int.mul_assoc]]
  exact Int.le_trans (Int.mul_le_mul_of_nonneg_right (by omega) (Int.le_of_lt hp)) ih
theorem hlv_end {h:Int} (h0:0 ≤ h) (h1:h < 4294967296) {k:Nat} (hk:38 ≤ k):hlv h k = 0:=by
 have a:=hlv_pow h0 k
 have b:=hlv_bd h0 k
 have hp:(2:Int) ^ 38 ≤ 2 ^ k:=by
  obtain ⟨d,rfl⟩:∃ d,k = 38+d:=⟨k - 38,by omega⟩
  rw [Int.pow_add]
  have:(0:Int) < 2 ^ d:=Int.pow_pos (by decide)
  have h2:(0:Int) < 2 ^ 38:=by decide
  calc (2:Int) ^ 38 = 2 ^ 38 * 1:=by omega
   _ ≤ 2 ^ 38 * 2 ^ d:=Int.mul_le_mul_of_nonneg_left (by omega) (Int.le_of_lt h2)
 by_cases e:hlv h k = 0
 ·exact e
 ·exfalso
  have h3:1 * (2:Int) ^ k ≤ hlv h k * 2 ^ k:=Int.mul_le_mul_of_nonneg_right (by omega) (Int.le_of_lt (Int.pow_pos (by decide)))
  have h4:(2:Int) ^ 38 = 274877906944:=by decide
  omega
theorem adv_at {stp:Int→Option Sg} {least wide h:Int} {k:Nat} (h0:0 ≤ h) (h1:h < 4294967296) (hl:1 ≤ least) (hk:k < 40) :
  advF stp least wide (40 - k) (hlv h k) = match tryC stp wide (hlv h k) with
   | some s=>some (hlv h k,s)
   | none=>if hlv h k / 2 < least then none else advF stp least wide (40 - (k+1)) (hlv h (k+1)):=by
 rw [show 40 - k = 40 - (k+1)+1 from by omega]
 rfl
theorem adv_more {least h:Int} {k:Nat} (h0:0 ≤ h) (h1:h < 4294967296) (hl:1 ≤ least) (hk:¬ hlv h k / 2 < least):k+1 < 40:=by
 by_cases e:38 ≤ k
 ·have:=hlv_end h0 h1 e
  rw [this] at hk
  omega
 ·omega
theorem cnt_at {least h:Int} {k:Nat} (hk:k < 40):cntF least (40 - k) (hlv h k) = if hlv h k / 2 < least then 1 else cntF least (40 - (k+1)) (hlv h (k+1))+1:=by
 rw [show 40 - k = 40 - (k+1)+1 from by omega]
 rfl
theorem anyW_no {l:List (Int × Int)} {k:Nat} {x:Int × Int} {wide:Int} (h:(l.take k).any (wdB wide) = false) (hx:l[k]? = some x) (hb:wdB wide x = false):(l.take (k+1)).any (wdB wide) = false:=by
 rw [List.take_add_one,hx,List.any_append,h]
 simp [hb]
theorem anyW_yes {l:List (Int × Int)} {k:Nat} {x:Int × Int} {wide:Int} (hx:l[k]? = some x) (hb:wdB wide x = true):l.any (wdB wide) = true :=
 List.any_eq_true.2 ⟨x,List.mem_of_getElem? hx,hb⟩
end Go.Proofs.YtekjflfkbgklhaaGreat
