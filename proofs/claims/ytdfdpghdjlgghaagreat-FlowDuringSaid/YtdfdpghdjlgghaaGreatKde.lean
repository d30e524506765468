/-
 U1 U2
-/
import Derived.Test.YtdfdpghdjlgghaaGreatKda
import Derived.Test.YtdfdpghdjlgghaaGreatKdb
import Derived.Test.YtdfdpghdjlgghaaGreatKdc
import Derived.Test.YtdfdpghdjlgghaaGreatKdd
import Derived.OwnWalk
import Derived.RangeFuncBox
import Derived.RangeFuncRecord
import Derived.Laws.AppendOwn
import Derived.Laws.AppendOwnNone
import Derived.DeepKeys4
import Derived.Maps.OwnSet
import Derived.Maps.AppendAt
import Derived.Deep.RegionLaw
namespace Go.Proofs.YtdfdpghdjlgghaaGreat
open Go.ChangeShapes Go.WideShapes Go.ChangeAt Go.RowKit
set_option linter.unusedVariables false
set_option linter.unusedSimpArgs false
set_option maxRecDepth 100000
theorem wrapN (n:Int) (h1:-9223372036854775808 ≤ n) (h2:n ≤ 9223372036854775807):IntKind.i64.wrap n = n:=by
 unfold IntKind.wrap
 simp [IntKind.signed,IntKind.bits]
 omega
def Rx {α:Type} (enc:α→List Value) (sz:Nat) (w:World) (v:Value) (l:List α):Prop:=l.length ≤ maxLen∧∃ p cap,v = .slice p l.length cap ∧
 ∀ i x,l[i]? = some x→∃ b o,p = some ⟨b,o,none⟩∧b < w.heap.size∧∀ j u,(enc x)[j]? = some u→w.cell? ⟨b,o+i * sz+j,none⟩ = some u
section
variable {α:Type} {enc:α→List Value} {sz:Nat}
theorem Rx.grow {w w':World} {v:Value} {l:List α} (h:Rx enc sz w v l) (hb:Below w.heap.size w w'):Rx enc sz w' v l:=by
 obtain ⟨h1,p,c,rfl,h2⟩:=h
 refine ⟨h1,p,c,rfl,fun i x hx=>?_⟩
 obtain ⟨b,o,rfl,h3,h4⟩:=h2 i x hx
 exact ⟨b,o,rfl,Nat.lt_of_lt_of_le h3 hb.size,fun j u hu=>(hb.cell (p:=⟨b,o+i * sz+j,none⟩) h3).trans (h4 j u hu)⟩
theorem Rx.nil (w:World) (p:Option Addr) (c:Nat):Rx enc sz w (.slice p 0 c) []:=⟨Nat.zero_le _,p,c,rfl,fun i x h=>by simp at h⟩
theorem Rx.cut {w:World} {v:Value} {l:List α} (h:Rx enc sz w v l):∃ p c,v = .slice p l.length c:=by
 obtain ⟨_,p,c,e,_⟩:=h
 exact ⟨p,c,e⟩
theorem Rx.rd {w:World} {p:Option Addr} {n c i:Nat} {l:List α} {x:α} (h:Rx enc sz w (.slice p n c) l) (hx:l[i]? = some x):∃ b o,p = some ⟨b,o,none⟩∧b < w.heap.size∧∀ (g:Grown w) (j:Nat) (u:Value),(enc x)[j]? = some u→g.w.cell? ⟨b,o+i * sz+j,none⟩ = some u:=by
 obtain ⟨_,q,c',e,h⟩:=h
 obtain ⟨b,o,hq,h1,h2⟩:=h i x hx
 simp only [Value.slice.injEq] at e
 exact ⟨b,o,e.1.trans hq,h1,fun g j u hu=>(g.cell h1).trans (h2 j u hu)⟩
def cr (enc:α→List Value) (l:List α):List Value:=l.flatMap enc
theorem cr_snoc (l:List α) (t:α):cr enc (l ++ [t]) = cr enc l ++ enc t:=by simp [cr]
theorem cr_get (hsz:∀ x,(enc x).length = sz):∀ {l:List α} (i:Nat) (x:α),l[i]? = some x→∀ j u,(enc x)[j]? = some u→(cr enc l)[i * sz+j]? = some u
 | [],i,x,h,_,_,_=>by simp at h
 | t :: l,i,x,h,j,u,hu=>by
  have e1:=hsz t
  show (enc t ++ cr enc l)[i * sz+j]? = some u
  match i with
  | 0 =>
   simp only [List.getElem?_cons_zero,Option.some.injEq] at h
   subst h
   rw [Nat.zero_mul,Nat.zero_add,List.getElem?_append_left (List.getElem?_eq_some_iff.1 hu).1]
   exact hu
  | i+1 =>
   rw [List.getElem?_cons_succ] at h
   have e2:=cr_get hsz (l:=l) i x h j u hu
   have e3:(i+1) * sz+j - sz = i * sz+j:=by rw [Nat.add_mul,Nat.one_mul]; omega
   rw [List.getElem?_append_right (by rw [e1,Nat.add_mul,Nat.one_mul]; omega),e1,e3]
   exact e2
theorem Rx.drop {w:World} {b o n c k c':Nat} {q:Option Addr} {l:List α} (h:Rx enc sz w (.slice (some ⟨b,o,none⟩) n c) l) (hk:k ≤ n) (hq:k < n→q = some ⟨b,o+k * sz,none⟩):Rx enc sz w (.slice q (n - k) c') (l.drop k):=by
 obtain ⟨h1,p,c1,e,h2⟩:=h
 simp only [Value.slice.injEq] at e
 obtain ⟨e1,e2,_⟩:=e
 refine ⟨by rw [List.length_drop]; omega,q,c',by rw [List.length_drop,e2],fun i x hx=>?_⟩
 rw [List.getElem?_drop] at hx
 obtain ⟨b',o',hp,h3,h4⟩:=h2 (k+i) x hx
 have hl:=(List.getElem?_eq_some_iff.1 hx).1
 have e3:=e1.trans hp
 simp only [Option.some.injEq,Addr.mk.injEq,and_true] at e3
 obtain ⟨rfl,rfl⟩:=e3
 refine ⟨b,o+k * sz,hq (by omega),h3,fun j u hu=>?_⟩
 have h6:=h4 j u hu
 rw [Nat.add_mul] at h6
 rw [show o+k * sz+i * sz+j = o+(k * sz+i * sz)+j by omega]
 exact h6
theorem Rx.take {w:World} {p:Option Addr} {n c k c':Nat} {l:List α} (h:Rx enc sz w (.slice p n c) l) (hk:k ≤ n):Rx enc sz w (.slice p k c') (l.take k):=by
 obtain ⟨h1,p',c1,e,h2⟩:=h
 simp only [Value.slice.injEq] at e
 obtain ⟨rfl,rfl,_⟩:=e
 refine ⟨by rw [List.length_take]; omega,p,c',by rw [List.length_take,Nat.min_eq_left hk],fun i x hx=>?_⟩
 have hi:=(List.getElem?_eq_some_iff.1 hx).1
 rw [List.length_take] at hi
 rw [List.getElem?_take,if_pos (by omega)] at hx
 exact h2 i x hx
theorem Rx.own (hsz:∀ x,(enc x).length = sz) {W:World} {B:Nat} {v:Value} {l:List α} {t:TypeId} (h:W.ownsRow B t sz v l.length (cr enc l)) (hl:l.length ≤ maxLen):Rx enc sz W v l:=by
 refine ⟨hl,?_⟩
 rcases id h.2 with ⟨e,h0⟩ | ⟨g,cap,cur,e,_⟩
 ·have:l = []:=List.length_eq_zero_iff.1 h0
  subst this
  exact ⟨none,0,e,fun i x hx=>by simp at hx⟩
 ·refine ⟨some ⟨g,0,none⟩,cap,e,fun i x hx=>⟨g,0,rfl,(h.lt g (by rw [e]; rfl)).2,fun j u hu=>?_⟩⟩
  have hi:=(List.getElem?_eq_some_iff.1 hx).1
  have hj:j < sz:=by
   have:=(List.getElem?_eq_some_iff.1 hu).1
   rw [hsz x] at this
   exact this
  subst e
  have hm:i * sz+j < l.length * sz:=by
   have h1:(i+1) * sz ≤ l.length * sz:=Nat.mul_le_mul_right _ hi
   rw [Nat.add_mul,Nat.one_mul] at h1
   omega
  have hc:=h.cellAt (i * sz+j) hm
  rw [cr_get hsz i x hx j u hu] at hc
  rw [Nat.zero_add]
  exact hc
theorem Rx.cells (hsz:∀ x,(enc x).length = sz) (W:World) (l:List α) (t:TypeId) (hl:l.length ≤ maxLen):Rx enc sz (W.alloc (.cells (cr enc l).toArray t)) (.slice (some ⟨W.heap.size,0,none⟩) l.length l.length) l:=by
 refine ⟨hl,_,_,rfl,fun i x hx=>⟨_,_,rfl,by simp,fun j u hu=>?_⟩⟩
 have hc:=cr_get hsz i x hx j u hu
 rw [Nat.zero_add]
 have hb:=World.alloc_heap_new W (.cells (cr enc l).toArray t)
 simp only [World.cell?,hb]
 simpa using hc
end
structure Nd where
 op:Int
 n:Int
 lo:Int
 hi:Int
instance:DecidableEq Nd:=fun x y=>if h:x.op = y.op∧x.n = y.n∧x.lo = y.lo∧x.hi = y.hi then isTrue (by cases x; cases y; simp at h; simp [h]) else isFalse (by rintro rfl; simp at h)
def encN (x:Nd):List Value:=[.int .i64 x.op,.int .i64 x.n,.int .i64 x.lo,.int .i64 x.hi]
structure Is where
 op:Int
 a:Int
 b:Int
 lo:Int
 hi:Int
instance:DecidableEq Is:=fun x y=>if h:x.op = y.op∧x.a = y.a∧x.b = y.b∧x.lo = y.lo∧x.hi = y.hi then isTrue (by cases x; cases y; simp at h; simp [h]) else isFalse (by rintro rfl; simp at h)
def encI (x:Is):List Value:=[.int .i64 x.op,.int .i64 x.a,.int .i64 x.b,.int .i64 x.lo,.int .i64 x.hi]
theorem encI_len (x:Is):(encI x).length = 5:=rfl
abbrev Nx:=Rx encN 4
abbrev Ix:=Rx encI 5
def enc1 (x:Int):List Value:=[.int .i64 x]
theorem enc1_len (x:Int):(enc1 x).length = 1:=rfl
abbrev Px:=Rx enc1 1
theorem is_rd {w:World} {p:Option Addr} {n c i:Nat} {l:List Is} {x:Is} (h:Ix w (.slice p n c) l) (hx:l[i]? = some x):∃ b o,p = some ⟨b,o,none⟩∧b < w.heap.size∧∀ g:Grown w,g.w.cell? ⟨b,o+i * 5,none⟩ = some (.int .i64 x.op)∧g.w.cell? ⟨b,o+i * 5+1,none⟩ = some (.int .i64 x.a)∧g.w.cell? ⟨b,o+i * 5+2,none⟩ = some (.int .i64 x.b)∧g.w.cell? ⟨b,o+i * 5+3,none⟩ = some (.int .i64 x.lo)∧g.w.cell? ⟨b,o+i * 5+4,none⟩ = some (.int .i64 x.hi):=by
 obtain ⟨b,o,rfl,h1,rd⟩:=h.rd hx
 exact ⟨b,o,rfl,h1,fun g=>⟨rd g 0 _ rfl,rd g 1 _ rfl,rd g 2 _ rfl,rd g 3 _ rfl,rd g 4 _ rfl⟩⟩
theorem px_rd {w:World} {p:Option Addr} {n c i:Nat} {l:List Int} {x:Int} (h:Px w (.slice p n c) l) (hx:l[i]? = some x):∃ b o,p = some ⟨b,o,none⟩∧b < w.heap.size∧∀ g:Grown w,g.w.cell? ⟨b,o+i,none⟩ = some (.int .i64 x):=by
 obtain ⟨b,o,rfl,h1,rd⟩:=h.rd hx
 exact ⟨b,o,rfl,h1,fun g=>by have:=rd g 0 _ rfl; rw [Nat.mul_one] at this; exact this⟩
def Lx {α:Type} (P:World→Value→α→Prop) (w:World) (v:Value) (l:List α):Prop:=l.length ≤ maxLen∧∃ p cap,v = .slice p l.length cap ∧
 ∀ k x,l[k]? = some x→∃ b o u,p = some ⟨b,o,none⟩∧b < w.heap.size∧w.cell? ⟨b,o+k,none⟩ = some u∧P w u x
def Grows {α:Type} (P:World→Value→α→Prop):Prop:=∀ (w w':World) (v:Value) (x:α),P w v x→Below w.heap.size w w'→P w' v x
theorem grows_rx {α:Type} {enc:α→List Value} {sz:Nat}:Grows (Rx enc sz):=fun _ _ _ _ h hb=>h.grow hb
theorem Lx.grow {α:Type} {P:World→Value→α→Prop} (hP:Grows P) {w w':World} {v:Value} {l:List α} (h:Lx P w v l) (hb:Below w.heap.size w w'):Lx P w' v l:=by
 obtain ⟨hl,p,cap,rfl,h⟩:=h
 refine ⟨hl,p,cap,rfl,fun k x hx=>?_⟩
 obtain ⟨b,o,u,rfl,h1,h2,h3⟩:=h k x hx
 exact ⟨b,o,u,rfl,Nat.lt_of_lt_of_le h1 hb.size,(hb.cell (p:=⟨b,o+k,none⟩) h1).trans h2,hP _ _ _ _ h3 hb⟩
theorem Lx.cut {α:Type} {P:World→Value→α→Prop} {w:World} {v:Value} {l:List α} (h:Lx P w v l):∃ p c,v = .slice p l.length c:=by
 obtain ⟨_,p,c,e,_⟩:=h
 exact ⟨p,c,e⟩
theorem Lx.rd {α:Type} {P:World→Value→α→Prop} (hP:Grows P) {w:World} {p:Option Addr} {n c j:Nat} {l:List α} {x:α} (h:Lx P w (.slice p n c) l) (hx:l[j]? = some x):∃ b o u,p = some ⟨b,o,none⟩∧b < w.heap.size∧∀ g:Grown w,b < g.w.heap.size∧g.w.cell? ⟨b,o+j,none⟩ = some u∧P g.w u x:=by
 obtain ⟨_,q,c',e,h⟩:=h
 obtain ⟨b,o,u,hq,h1,h2,h3⟩:=h j x hx
 simp only [Value.slice.injEq] at e
 exact ⟨b,o,u,e.1.trans hq,h1,fun g=>⟨Nat.lt_of_lt_of_le h1 g.h.size,(g.cell (b:=b) h1).trans h2,hP _ _ _ _ h3 g.h⟩⟩
theorem Lx.nil {α:Type} {P:World→Value→α→Prop} {w:World}:Lx P w (.slice none 0 0) ([]:List α):=⟨by simp,none,0,rfl,fun k x h=>by simp at h⟩
def NdC (W:World) (b:Nat) (x:Nd):Prop:=W.heap[b]? = some (.cells #[.int .i64 x.op,.int .i64 x.n,.int .i64 x.lo,.int .i64 x.hi] 139 (0,0))
theorem NdC.lt {W:World} {b:Nat} {x:Nd} (h:NdC W b x):b < W.heap.size:=(Array.getElem?_eq_some_iff.1 h).1
theorem NdC.c0 {W:World} {b:Nat} {x:Nd} (h:NdC W b x):W.cell? ⟨b,0,none⟩ = some (.int .i64 x.op):=by simp [World.cell?,show W.heap[b]? = _ from h]
theorem NdC.c1 {W:World} {b:Nat} {x:Nd} (h:NdC W b x):W.cell? ⟨b,1,none⟩ = some (.int .i64 x.n):=by simp [World.cell?,show W.heap[b]? = _ from h]
theorem NdC.c2 {W:World} {b:Nat} {x:Nd} (h:NdC W b x):W.cell? ⟨b,2,none⟩ = some (.int .i64 x.lo):=by simp [World.cell?,show W.heap[b]? = _ from h]
theorem NdC.c3 {W:World} {b:Nat} {x:Nd} (h:NdC W b x):W.cell? ⟨b,3,none⟩ = some (.int .i64 x.hi):=by simp [World.cell?,show W.heap[b]? = _ from h]
theorem NdC.frozen {W:World} {b:Nat} {x:Nd} (h:NdC W b x) (o:Nat):W.frozen? ⟨b,o,none⟩ = false:=by simp [World.frozen?,show W.heap[b]? = _ from h]
theorem NdC.grow {W W':World} {b:Nat} {x:Nd} (h:NdC W b x) (hB:Below W.heap.size W W'):NdC W' b x:=(hB.block b h.lt).trans h
theorem NdC.new (W:World) (x:Nd):NdC (W.alloc (.cells #[.int .i64 x.op,.int .i64 x.n,.int .i64 x.lo,.int .i64 x.hi] 139)) W.heap.size x:=World.alloc_heap_new W _
def IsC (W:World) (b:Nat) (x:Is):Prop:=W.heap[b]? = some (.cells #[.int .i64 x.op,.int .i64 x.a,.int .i64 x.b,.int .i64 x.lo,.int .i64 x.hi] 75 (0,0))
theorem IsC.lt {W:World} {b:Nat} {x:Is} (h:IsC W b x):b < W.heap.size:=(Array.getElem?_eq_some_iff.1 h).1
theorem IsC.c0 {W:World} {b:Nat} {x:Is} (h:IsC W b x):W.cell? ⟨b,0,none⟩ = some (.int .i64 x.op):=by simp [World.cell?,show W.heap[b]? = _ from h]
theorem IsC.c1 {W:World} {b:Nat} {x:Is} (h:IsC W b x):W.cell? ⟨b,1,none⟩ = some (.int .i64 x.a):=by simp [World.cell?,show W.heap[b]? = _ from h]
theorem IsC.c2 {W:World} {b:Nat} {x:Is} (h:IsC W b x):W.cell? ⟨b,2,none⟩ = some (.int .i64 x.b):=by simp [World.cell?,show W.heap[b]? = _ from h]
theorem IsC.c3 {W:World} {b:Nat} {x:Is} (h:IsC W b x):W.cell? ⟨b,3,none⟩ = some (.int .i64 x.lo):=by simp [World.cell?,show W.heap[b]? = _ from h]
theorem IsC.c4 {W:World} {b:Nat} {x:Is} (h:IsC W b x):W.cell? ⟨b,4,none⟩ = some (.int .i64 x.hi):=by simp [World.cell?,show W.heap[b]? = _ from h]
theorem IsC.frozen {W:World} {b:Nat} {x:Is} (h:IsC W b x) (o:Nat):W.frozen? ⟨b,o,none⟩ = false:=by simp [World.frozen?,show W.heap[b]? = _ from h]
theorem IsC.grow {W W':World} {b:Nat} {x:Is} (h:IsC W b x) (hB:Below W.heap.size W W'):IsC W' b x:=(hB.block b h.lt).trans h
theorem IsC.new (W:World) (x:Is):IsC (W.alloc (.cells #[.int .i64 x.op,.int .i64 x.a,.int .i64 x.b,.int .i64 x.lo,.int .i64 x.hi] 75)) W.heap.size x:=World.alloc_heap_new W _
end Go.Proofs.YtdfdpghdjlgghaaGreat
namespace Go.Proofs.YtdfdpghdjlgghaaGreat
open Go.ChangeShapes Go.WideShapes Go.ChangeAt Go.RowKit
set_option linter.unusedVariables false
set_option linter.unusedSimpArgs false
set_option maxRecDepth 100000
attribute [local irreducible] Calls
def arI (op:Int):Int:=if op = 4 ∨ op = 5 ∨ op = 6 then 1 else if op = 7 ∨ op = 8 ∨ op = 9 ∨ op = 10 then 2 else 0
end Go.Proofs.YtdfdpghdjlgghaaGreat
namespace Go.Proofs.YtdfdpghdjlgghaaGreat
open Go.ChangeShapes Go.WideShapes Go.ChangeAt Go.RowKit
set_option linter.unusedVariables false
set_option linter.unusedSimpArgs false
set_option maxRecDepth 100000
attribute [local irreducible] Calls
def exGo:List Nd→Int→Nat→Nat
 | [],_,i=>i
 | x :: r,M,i=>if M+(arI x.op - 1) = 0 then i+1 else exGo r (M+(arI x.op - 1)) (i+1)
def NxC (w:World) (v:Value) (l:List Nd):Prop:=Nx w v l∧∃ p c,v = .slice p l.length c∧l.length ≤ c∧(p = none→c = 0)
theorem grows_nxc:Grows NxC:=fun _ _ _ _ h hb=>⟨h.1.grow hb,h.2⟩
theorem grown_belowN {W W':World} (h:Below W.heap.size W W'):W.grownBy W' none:=⟨h.os,h.tape,h.output,h.size,fun k hk _=>h.block k hk⟩
theorem own_keptN {W W':World} {B n size:Nat} {e:TypeId} {v:Value} {xs:List Value} (h:W.ownsRow B e size v n xs) (hB:Below W.heap.size W W'):W'.ownsRow B e size v n xs:=by
 refine h.kept (grown_belowN hB) ?_
 cases v.ownBlock with
 | none=>exact .inl rfl
 | some k=>exact .inr (by simp)
def NxO (W:World) (v:Value) (l:List Nd):Prop:=NxC W v l∧∀ a n c,v = .slice (some a) n c→∃ cur,W.heap[a.block]? = some (.cells cur 139 (0,0))
theorem NxO.grow {W W':World} {v:Value} {l:List Nd} (h:NxO W v l) (hB:Below W.heap.size W W'):NxO W' v l :=
 ⟨grows_nxc _ _ _ _ h.1 hB,fun a n c e=>by
  obtain ⟨cur,hc⟩:=h.2 a n c e
  exact ⟨cur,(hB.block _ (Array.getElem?_eq_some_iff.1 hc).1).trans hc⟩⟩
end Go.Proofs.YtdfdpghdjlgghaaGreat
namespace Go.Proofs.YtdfdpghdjlgghaaGreat
open Go.ChangeShapes Go.WideShapes Go.ChangeAt Go.RowKit
set_option linter.unusedVariables false
set_option linter.unusedSimpArgs false
set_option maxRecDepth 100000
attribute [local irreducible] Calls
structure OwnL (B:Nat) (W:World) (v:Value) (l:List (List Nd)) (us:List Value):Prop where
 row:W.ownsRow B 99 1 v l.length us
 el:∀ (k:Nat) (u:Value) (x:List Nd),us[k]? = some u→l[k]? = some x→NxO W u x
theorem OwnL.kept {B:Nat} {W W':World} {v:Value} {l:List (List Nd)} {us:List Value} (h:OwnL B W v l us) (hB:Below W.heap.size W W'):OwnL B W' v l us :=
 ⟨own_keptN h.row hB,fun k u x h1 h2=>(h.el k u x h1 h2).grow hB⟩
theorem OwnL.lx {B:Nat} {W:World} {v:Value} {l:List (List Nd)} {us:List Value} (h:OwnL B W v l us) (hl:l.length ≤ maxLen):Lx NxO W v l:=by
 have hlen:=h.row.1
 refine ⟨hl,?_⟩
 rcases id h.row.2 with ⟨rfl,h0⟩ | ⟨g,cap,cur,rfl,hg,hh,hcap,_,_,_⟩
 ·exact ⟨none,0,by rw [h0],fun k x hx=>by
   have:=(List.getElem?_eq_some_iff.1 hx).1
   omega⟩
 ·refine ⟨some ⟨g,0,none⟩,cap,rfl,fun k x hx=>?_⟩
  have hk:=(List.getElem?_eq_some_iff.1 hx).1
  have hku:k < us.length:=by omega
  have hc:=h.row.cellAt k (by omega)
  rw [List.getElem?_eq_getElem hku] at hc
  exact ⟨g,0,us[k],rfl,(Array.getElem?_eq_some_iff.1 hh).1,by rw [Nat.zero_add]; exact hc,h.el k _ x (List.getElem?_eq_getElem hku) hx⟩
theorem one_newN (w:World) (x:Value) (t:TypeId):∀ j u,[x][j]? = some u→(w.alloc (.cells #[x] t)).cell? ((⟨w.heap.size,0,none⟩:Addr).add j) = some u:=by
 intro j u hj
 have hk:j < 1:=by have:=(List.getElem?_eq_some_iff.1 hj).1; simpa using this
 obtain rfl:j = 0:=by omega
 cases hj
 simp [Addr.add,go_sem]
def opGo:Nat→List Nd→List (List Nd)
 | 0,_=>[]
 | k+1,r=>r.take (exGo r 1 0) :: opGo k (r.drop (exGo r 1 0))
def operands:List Nd→List (List Nd)
 | []=>[]
 | x :: r=>opGo (arI x.op).toNat r
end Go.Proofs.YtdfdpghdjlgghaaGreat
namespace Go.Proofs.YtdfdpghdjlgghaaGreat
open Go.ChangeShapes Go.WideShapes Go.ChangeAt Go.RowKit Go.Maps
set_option linter.unusedVariables false
set_option linter.unusedSimpArgs false
set_option maxRecDepth 100000
def W64 (x:Int):Prop:=-9223372036854775808 ≤ x∧x ≤ 9223372036854775807
def IW (x:Is):Prop:=W64 x.op∧W64 x.a∧W64 x.b∧W64 x.lo∧W64 x.hi
/-! ### the elements -/
def dN (i:Nat):DataW Unit:=.lit (.int .i64 i)
def elN:Value→Option (DataW Unit × List MemPlace)
 | .int .i64 a=>some (.lit (.int .i64 a),[])
 | _=>none
def idxI (L:List Is) (x:Is):Nat:=L.findIdx (fun y=>decide (y = x))
theorem idxI_mem {L:List Is} {x:Is}:idxI L x < L.length ↔ x ∈ L:=by
 unfold idxI
 rw [List.findIdx_lt_length]
 simp
def emitI (L:List Is) (x:Is):List Is:=if x ∈ L then L else L ++ [x]
theorem emitI_in {L:List Is} {x:Is} (h:x ∈ L):emitI L x = L:=if_pos h
end Go.Proofs.YtdfdpghdjlgghaaGreat
namespace Go.Proofs.YtdfdpghdjlgghaaGreat
open Go.ChangeShapes Go.WideShapes Go.ChangeAt Go.RowKit Go.Maps
set_option linter.unusedVariables false
set_option linter.unusedSimpArgs false
set_option maxRecDepth 100000
attribute [local irreducible] Calls
theorem cellsT_setN {W:World} {b o:Nat} {cs:Array Value} {t:TypeId} {z:Nat × Nat} {u:Value} (h:W.heap[b]? = some (.cells cs t z)):(W.setCell ⟨b,o,none⟩ u).heap[b]? = some (.cells (cs.setIfInBounds o u) t z):=by
 obtain ⟨hlt,hk⟩:=Array.getElem?_eq_some_iff.1 h
 show (W.heap.modify b _)[b]? = _
 rw [Array.getElem?_eq_getElem (by rw [Array.size_modify]; exact hlt),Array.getElem_modify_self,hk]
 rfl
structure Ext (bl bm:Nat) (u u':Value) (W W':World):Prop where
 os:W'.os = W.os
 tape:W'.tape = W.tape
 output:W'.output = W.output
 size:W.heap.size ≤ W'.heap.size
 blk:∀ k,k < W.heap.size→k ≠ bl→k ≠ bm→some k ≠ u.ownBlock→W'.heap[k]? = W.heap[k]?
 own:∀ g,u'.ownBlock = some g→u.ownBlock = some g ∨ W.heap.size ≤ g
theorem Ext.of {bl bm:Nat} {u:Value} {W W':World} (h:Below W.heap.size W W'):Ext bl bm u u W W' :=
 have g:=grown_belowN h
 ⟨g.os,g.tape,g.output,g.size,fun k hk _ _ _=>g.block k hk (by simp),fun _ h=>.inl h⟩
theorem Ext.trans {bl bm:Nat} {u u' u'':Value} {W W' W'':World} (h:Ext bl bm u u' W W') (k:Ext bl bm u' u'' W' W''):Ext bl bm u u'' W W'' :=
 ⟨k.os.trans h.os,k.tape.trans h.tape,k.output.trans h.output,Nat.le_trans h.size k.size,fun j hj h1 h2 h3=>(k.blk j (Nat.lt_of_lt_of_le hj h.size) h1 h2 (fun e=>by
  rcases h.own j e.symm with h4 | h4
  ·exact h3 h4.symm
  ·omega)).trans (h.blk j hj h1 h2 h3),fun g hg=>by
  rcases k.own g hg with h4 | h4
  ·exact h.own g h4
  ·exact .inr (Nat.le_trans h.size h4)⟩
section
variable {B bl bm:Nat} {u:Value} {L:List Is} {W:World}
theorem grownBy_setN (W:World) (a:Addr) (v:Value):W.grownBy (W.setCell a v) (some a.block):=⟨rfl,rfl,rfl,(KeepsWalks.setCell W _ v).size,fun k _ hk=>Below.heap_setCell _ _ _ k (fun e=>hk (by rw [e]))⟩
end
theorem heapN_cell {W:World} {b k:Nat} {cs:Array Value} {t:TypeId} {z:Nat × Nat} {u:Value} (h:W.heap[b]? = some (.cells cs t z)) (hk:cs[k]? = some u):W.cell? ⟨b,k,none⟩ = some u:=by
 simp [World.cell?,h,hk]
theorem info_is:(Tryz.prog.info? 75).map (fun i=>(i.zero,i.size,i.bytes)) = some (some (.agg #[.int .i64 0,.int .i64 0,.int .i64 0,.int .i64 0,.int .i64 0]),5,40):=by kernel_rfl
theorem new_i (w:World) (x:Is):∀ j u,(encI x)[j]? = some u→(w.alloc (.cells #[.int .i64 x.op,.int .i64 x.a,.int .i64 x.b,.int .i64 x.lo,.int .i64 x.hi] 75)).cell? ((⟨w.heap.size,0,none⟩:Addr).add j) = some u:=by
 intro j u hj
 have hk:j < 5:=by have:=(List.getElem?_eq_some_iff.1 hj).1; simpa [encI] using this
 unfold encI at hj
 match j,hk,hj with
 | 0,_,hj=>cases hj; simp [Addr.add,go_sem]
 | 1,_,hj=>cases hj; simp [Addr.add,go_sem]
 | 2,_,hj=>cases hj; simp [Addr.add,go_sem]
 | 3,_,hj=>cases hj; simp [Addr.add,go_sem]
 | 4,_,hj=>cases hj; simp [Addr.add,go_sem]
theorem one_i (x:Is):∀ u ∈ encI x,u.oneCell' = true:=by
 intro u hu
 simp only [encI,List.mem_cons,List.not_mem_nil,or_false] at hu
 rcases hu with rfl | rfl | rfl | rfl | rfl <;> rfl
end Go.Proofs.YtdfdpghdjlgghaaGreat
namespace Go.Proofs.YtdfdpghdjlgghaaGreat
open Go.ChangeShapes Go.WideShapes Go.ChangeAt Go.RowKit Go.Maps
set_option linter.unusedVariables false
set_option linter.unusedSimpArgs false
set_option maxRecDepth 100000
attribute [local irreducible] Calls
inductive Ex where
 | e0 (x:Nd)
 | e1 (x:Nd) (a:Ex)
 | e2 (x:Nd) (a b:Ex)
def pre:Ex→List Nd
 | .e0 x=>[x]
 | .e1 x a=>x :: pre a
 | .e2 x a b=>x :: (pre a ++ pre b)
def emitT:Ex→List Is→List Is × Nat
 | .e0 x,L=>(emitI L ⟨x.op,x.n,0,x.lo,x.hi⟩,idxI (emitI L ⟨x.op,x.n,0,x.lo,x.hi⟩) ⟨x.op,x.n,0,x.lo,x.hi⟩)
 | .e1 x a,L=>(emitI (emitT a L).1 ⟨x.op,(emitT a L).2,0,x.lo,x.hi⟩,idxI (emitI (emitT a L).1 ⟨x.op,(emitT a L).2,0,x.lo,x.hi⟩) ⟨x.op,(emitT a L).2,0,x.lo,x.hi⟩)
 | .e2 x a b,L=>(emitI (emitT b (emitT a L).1).1 ⟨x.op,(emitT a L).2,(emitT b (emitT a L).1).2,x.lo,x.hi⟩,idxI (emitI (emitT b (emitT a L).1).1 ⟨x.op,(emitT a L).2,(emitT b (emitT a L).1).2,x.lo,x.hi⟩) ⟨x.op,(emitT a L).2,(emitT b (emitT a L).1).2,x.lo,x.hi⟩)
end Go.Proofs.YtdfdpghdjlgghaaGreat
