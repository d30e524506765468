/-
 U1 U2
-/
import Derived.Test.YtekjflfkbgklhaaGreatKca
import Derived.Test.YtekjflfkbgklhaaGreatKcb
import Derived.Test.YtekjflfkbgklhaaGreatKcc
import Derived.Test.YtekjflfkbgklhaaGreatKcd
import Derived.OwnWalk
import Derived.RangeFuncBox
import Derived.RangeFuncRecord
import Derived.Laws.AppendOwn
import Derived.Laws.AppendOwnNone
import Derived.DeepKeys4
import Derived.Maps.OwnSet
import Derived.Maps.AppendAt
import Derived.Deep.RegionLaw
namespace Go.Proofs.YtekjflfkbgklhaaGreat
open Go.ChangeShapes Go.WideShapes Go.ChangeAt Go.RowKit
set_option linter.unusedVariables false
set_option linter.unusedSimpArgs false
set_option maxRecDepth 100000
theorem wrapN (n:Int) (h1:-9223372036854775808 ≤ n) (h2:n ≤ 9223372036854775807):IntKind.i64.wrap n = n:=by
 unfold IntKind.wrap
 simp [IntKind.signed,IntKind.bits]
 omega
def Rx {α:Type} (enc:α→List Value) (sz:Nat) (w:World) (v:Value) (l:List α):Prop:=l.length ≤ maxLen∧∃ p cap,v = .slice p l.length cap ∧
 ∀ i x,l[i]? = some x→∃ b o,p = some ⟨b,o,none⟩∧b < w.heap.size∧∀ j u,(enc x)[j]? = some u→w.cell? ⟨b,o+i * sz+j,none⟩ = some u
section
variable {α:Type} {enc:α→List Value} {sz:Nat}
theorem Rx.grow {w w':World} {v:Value} {l:List α} (h:Rx enc sz w v l) (hb:Below w.heap.size w w'):Rx enc sz w' v l:=by
 obtain ⟨h1,p,c,rfl,h2⟩:=h
 refine ⟨h1,p,c,rfl,fun i x hx=>?_⟩
 obtain ⟨b,o,rfl,h3,h4⟩:=h2 i x hx
 exact ⟨b,o,rfl,Nat.lt_of_lt_of_le h3 hb.size,fun j u hu=>(hb.cell (p:=⟨b,o+i * sz+j,none⟩) h3).trans (h4 j u hu)⟩
theorem Rx.nil (w:World) (p:Option Addr) (c:Nat):Rx enc sz w (.slice p 0 c) []:=⟨Nat.zero_le _,p,c,rfl,fun i x h=>by simp at h⟩
theorem Rx.cut {w:World} {v:Value} {l:List α} (h:Rx enc sz w v l):∃ p c,v = .slice p l.length c:=by
 obtain ⟨_,p,c,e,_⟩:=h
 exact ⟨p,c,e⟩
theorem Rx.rd {w:World} {p:Option Addr} {n c i:Nat} {l:List α} {x:α} (h:Rx enc sz w (.slice p n c) l) (hx:l[i]? = some x):∃ b o,p = some ⟨b,o,none⟩∧b < w.heap.size∧∀ (g:Grown w) (j:Nat) (u:Value),(enc x)[j]? = some u→g.w.cell? ⟨b,o+i * sz+j,none⟩ = some u:=by
 obtain ⟨_,q,c',e,h⟩:=h
 obtain ⟨b,o,hq,h1,h2⟩:=h i x hx
 simp only [Value.slice.injEq] at e
 exact ⟨b,o,e.1.trans hq,h1,fun g j u hu=>(g.cell h1).trans (h2 j u hu)⟩
def cr (enc:α→List Value) (l:List α):List Value:=l.flatMap enc
theorem cr_snoc (l:List α) (t:α):cr enc (l ++ [t]) = cr enc l ++ enc t:=by simp [cr]
theorem cr_get (hsz:∀ x,(enc x).length = sz):∀ {l:List α} (i:Nat) (x:α),l[i]? = some x→∀ j u,(enc x)[j]? = some u→(cr enc l)[i * sz+j]? = some u
 | [],i,x,h,_,_,_=>by simp at h
 | t :: l,i,x,h,j,u,hu=>by
  have e1:=hsz t
  show (enc t ++ cr enc l)[i * sz+j]? = some u
  match i with
  | 0 =>
   simp only [List.getElem?_cons_zero,Option.some.injEq] at h
   subst h
   rw [Nat.zero_mul,Nat.zero_add,List.getElem?_append_left (List.getElem?_eq_some_iff.1 hu).1]
   exact hu
  | i+1 =>
   rw [List.getElem?_cons_succ] at h
   have e2:=cr_get hsz (l:=l) i x h j u hu
   have e3:(i+1) * sz+j - sz = i * sz+j:=by rw [Nat.add_mul,Nat.one_mul]; omega
   rw [List.getElem?_append_right (by rw [e1,Nat.add_mul,Nat.one_mul]; omega),e1,e3]
   exact e2
theorem cr_len (hsz:∀ x,(enc x).length = sz):∀ l:List α,(cr enc l).length = l.length * sz
 | []=>by simp [cr]
 | t :: l=>by
  have e1:=hsz t
  have e2:=cr_len hsz l
  show (enc t ++ cr enc l).length = _
  rw [List.length_append,e1,e2,List.length_cons,Nat.add_mul,Nat.one_mul,Nat.add_comm]
theorem cr_inv (hsz:∀ x,(enc x).length = sz):∀ {l:List α} (j:Nat) (u:Value),(cr enc l)[j]? = some u→∃ i x j',l[i]? = some x∧(enc x)[j']? = some u∧j = i * sz+j'
 | [],j,u,h=>by simp [cr] at h
 | t :: l,j,u,h=>by
  have e1:=hsz t
  change (enc t ++ cr enc l)[j]? = some u at h
  by_cases hj:j < sz
  ·rw [List.getElem?_append_left (by omega)] at h
   exact ⟨0,t,j,rfl,h,by omega⟩
  ·rw [List.getElem?_append_right (by omega),e1] at h
   obtain ⟨i,x,j',h1,h2,h3⟩:=cr_inv hsz _ _ h
   exact ⟨i+1,x,j',by simpa using h1,h2,by rw [Nat.add_mul,Nat.one_mul]; omega⟩
theorem Rx.flat (hsz:∀ x,(enc x).length = sz) {w:World} {b o n c:Nat} {l:List α} (h:Rx enc sz w (.slice (some ⟨b,o,none⟩) n c) l) (j:Nat) (u:Value) (hu:(cr enc l)[j]? = some u):w.cell? ⟨b,o+j,none⟩ = some u:=by
 obtain ⟨i,x,j',h1,h2,h3⟩:=cr_inv hsz j u hu
 obtain ⟨_,q,c',e,h4⟩:=h
 obtain ⟨b',o',hq,_,h5⟩:=h4 i x h1
 simp only [Value.slice.injEq] at e
 have e2:=e.1.trans hq
 simp only [Option.some.injEq,Addr.mk.injEq,and_true] at e2
 obtain ⟨rfl,rfl⟩:=e2
 rw [h3,← Nat.add_assoc]
 exact h5 j' u h2
theorem Rx.drop {w:World} {b o n c k c':Nat} {q:Option Addr} {l:List α} (h:Rx enc sz w (.slice (some ⟨b,o,none⟩) n c) l) (hk:k ≤ n) (hq:k < n→q = some ⟨b,o+k * sz,none⟩):Rx enc sz w (.slice q (n - k) c') (l.drop k):=by
 obtain ⟨h1,p,c1,e,h2⟩:=h
 simp only [Value.slice.injEq] at e
 obtain ⟨e1,e2,_⟩:=e
 refine ⟨by rw [List.length_drop]; omega,q,c',by rw [List.length_drop,e2],fun i x hx=>?_⟩
 rw [List.getElem?_drop] at hx
 obtain ⟨b',o',hp,h3,h4⟩:=h2 (k+i) x hx
 have hl:=(List.getElem?_eq_some_iff.1 hx).1
 have e3:=e1.trans hp
 simp only [Option.some.injEq,Addr.mk.injEq,and_true] at e3
 obtain ⟨rfl,rfl⟩:=e3
 refine ⟨b,o+k * sz,hq (by omega),h3,fun j u hu=>?_⟩
 have h6:=h4 j u hu
 rw [Nat.add_mul] at h6
 rw [show o+k * sz+i * sz+j = o+(k * sz+i * sz)+j by omega]
 exact h6
theorem Rx.own (hsz:∀ x,(enc x).length = sz) {W:World} {B:Nat} {v:Value} {l:List α} {t:TypeId} (h:W.ownsRow B t sz v l.length (cr enc l)) (hl:l.length ≤ maxLen):Rx enc sz W v l:=by
 refine ⟨hl,?_⟩
 rcases id h.2 with ⟨e,h0⟩ | ⟨g,cap,cur,e,_⟩
 ·have:l = []:=List.length_eq_zero_iff.1 h0
  subst this
  exact ⟨none,0,e,fun i x hx=>by simp at hx⟩
 ·refine ⟨some ⟨g,0,none⟩,cap,e,fun i x hx=>⟨g,0,rfl,(h.lt g (by rw [e]; rfl)).2,fun j u hu=>?_⟩⟩
  have hi:=(List.getElem?_eq_some_iff.1 hx).1
  have hj:j < sz:=by
   have:=(List.getElem?_eq_some_iff.1 hu).1
   rw [hsz x] at this
   exact this
  subst e
  have hm:i * sz+j < l.length * sz:=by
   have h1:(i+1) * sz ≤ l.length * sz:=Nat.mul_le_mul_right _ hi
   rw [Nat.add_mul,Nat.one_mul] at h1
   omega
  have hc:=h.cellAt (i * sz+j) hm
  rw [cr_get hsz i x hx j u hu] at hc
  rw [Nat.zero_add]
  exact hc
end
structure Nd where
 op:Int
 n:Int
 lo:Int
 hi:Int
instance:DecidableEq Nd:=fun x y=>if h:x.op = y.op∧x.n = y.n∧x.lo = y.lo∧x.hi = y.hi then isTrue (by cases x; cases y; simp at h; simp [h]) else isFalse (by rintro rfl; simp at h)
def encN (x:Nd):List Value:=[.int .i64 x.op,.int .i64 x.n,.int .i64 x.lo,.int .i64 x.hi]
theorem encN_len (x:Nd):(encN x).length = 4:=rfl
structure Is where
 op:Int
 a:Int
 b:Int
 lo:Int
 hi:Int
instance:DecidableEq Is:=fun x y=>if h:x.op = y.op∧x.a = y.a∧x.b = y.b∧x.lo = y.lo∧x.hi = y.hi then isTrue (by cases x; cases y; simp at h; simp [h]) else isFalse (by rintro rfl; simp at h)
def encI (x:Is):List Value:=[.int .i64 x.op,.int .i64 x.a,.int .i64 x.b,.int .i64 x.lo,.int .i64 x.hi]
def valI' (x:Is):Value:=.agg #[.int .i64 x.op,.int .i64 x.a,.int .i64 x.b,.int .i64 x.lo,.int .i64 x.hi]
theorem encI_len (x:Is):(encI x).length = 5:=rfl
abbrev Nx:=Rx encN 4
abbrev Ix:=Rx encI 5
def enc1 (x:Int):List Value:=[.int .i64 x]
abbrev Px:=Rx enc1 1
theorem nd_rd {w:World} {p:Option Addr} {n c i:Nat} {l:List Nd} {x:Nd} (h:Nx w (.slice p n c) l) (hx:l[i]? = some x):∃ b o,p = some ⟨b,o,none⟩∧b < w.heap.size∧∀ g:Grown w,g.w.cell? ⟨b,o+i * 4,none⟩ = some (.int .i64 x.op)∧g.w.cell? ⟨b,o+i * 4+1,none⟩ = some (.int .i64 x.n)∧g.w.cell? ⟨b,o+i * 4+2,none⟩ = some (.int .i64 x.lo)∧g.w.cell? ⟨b,o+i * 4+3,none⟩ = some (.int .i64 x.hi):=by
 obtain ⟨b,o,rfl,h1,rd⟩:=h.rd hx
 exact ⟨b,o,rfl,h1,fun g=>⟨rd g 0 _ rfl,rd g 1 _ rfl,rd g 2 _ rfl,rd g 3 _ rfl⟩⟩
theorem is_rd {w:World} {p:Option Addr} {n c i:Nat} {l:List Is} {x:Is} (h:Ix w (.slice p n c) l) (hx:l[i]? = some x):∃ b o,p = some ⟨b,o,none⟩∧b < w.heap.size∧∀ g:Grown w,g.w.cell? ⟨b,o+i * 5,none⟩ = some (.int .i64 x.op)∧g.w.cell? ⟨b,o+i * 5+1,none⟩ = some (.int .i64 x.a)∧g.w.cell? ⟨b,o+i * 5+2,none⟩ = some (.int .i64 x.b)∧g.w.cell? ⟨b,o+i * 5+3,none⟩ = some (.int .i64 x.lo)∧g.w.cell? ⟨b,o+i * 5+4,none⟩ = some (.int .i64 x.hi):=by
 obtain ⟨b,o,rfl,h1,rd⟩:=h.rd hx
 exact ⟨b,o,rfl,h1,fun g=>⟨rd g 0 _ rfl,rd g 1 _ rfl,rd g 2 _ rfl,rd g 3 _ rfl,rd g 4 _ rfl⟩⟩
theorem px_rd {w:World} {p:Option Addr} {n c i:Nat} {l:List Int} {x:Int} (h:Px w (.slice p n c) l) (hx:l[i]? = some x):∃ b o,p = some ⟨b,o,none⟩∧b < w.heap.size∧∀ g:Grown w,g.w.cell? ⟨b,o+i,none⟩ = some (.int .i64 x):=by
 obtain ⟨b,o,rfl,h1,rd⟩:=h.rd hx
 exact ⟨b,o,rfl,h1,fun g=>by have:=rd g 0 _ rfl; rw [Nat.mul_one] at this; exact this⟩
def Lx {α:Type} (P:World→Value→α→Prop) (w:World) (v:Value) (l:List α):Prop:=l.length ≤ maxLen∧∃ p cap,v = .slice p l.length cap ∧
 ∀ k x,l[k]? = some x→∃ b o u,p = some ⟨b,o,none⟩∧b < w.heap.size∧w.cell? ⟨b,o+k,none⟩ = some u∧P w u x
def Grows {α:Type} (P:World→Value→α→Prop):Prop:=∀ (w w':World) (v:Value) (x:α),P w v x→Below w.heap.size w w'→P w' v x
theorem grows_rx {α:Type} {enc:α→List Value} {sz:Nat}:Grows (Rx enc sz):=fun _ _ _ _ h hb=>h.grow hb
theorem Lx.grow {α:Type} {P:World→Value→α→Prop} (hP:Grows P) {w w':World} {v:Value} {l:List α} (h:Lx P w v l) (hb:Below w.heap.size w w'):Lx P w' v l:=by
 obtain ⟨hl,p,cap,rfl,h⟩:=h
 refine ⟨hl,p,cap,rfl,fun k x hx=>?_⟩
 obtain ⟨b,o,u,rfl,h1,h2,h3⟩:=h k x hx
 exact ⟨b,o,u,rfl,Nat.lt_of_lt_of_le h1 hb.size,(hb.cell (p:=⟨b,o+k,none⟩) h1).trans h2,hP _ _ _ _ h3 hb⟩
theorem Lx.cut {α:Type} {P:World→Value→α→Prop} {w:World} {v:Value} {l:List α} (h:Lx P w v l):∃ p c,v = .slice p l.length c:=by
 obtain ⟨_,p,c,e,_⟩:=h
 exact ⟨p,c,e⟩
theorem Lx.rd {α:Type} {P:World→Value→α→Prop} (hP:Grows P) {w:World} {p:Option Addr} {n c j:Nat} {l:List α} {x:α} (h:Lx P w (.slice p n c) l) (hx:l[j]? = some x):∃ b o u,p = some ⟨b,o,none⟩∧b < w.heap.size∧∀ g:Grown w,b < g.w.heap.size∧g.w.cell? ⟨b,o+j,none⟩ = some u∧P g.w u x:=by
 obtain ⟨_,q,c',e,h⟩:=h
 obtain ⟨b,o,u,hq,h1,h2,h3⟩:=h j x hx
 simp only [Value.slice.injEq] at e
 exact ⟨b,o,u,e.1.trans hq,h1,fun g=>⟨Nat.lt_of_lt_of_le h1 g.h.size,(g.cell (b:=b) h1).trans h2,hP _ _ _ _ h3 g.h⟩⟩
def IsC (W:World) (b:Nat) (x:Is):Prop:=W.heap[b]? = some (.cells #[.int .i64 x.op,.int .i64 x.a,.int .i64 x.b,.int .i64 x.lo,.int .i64 x.hi] 112 (0,0))
theorem IsC.lt {W:World} {b:Nat} {x:Is} (h:IsC W b x):b < W.heap.size:=(Array.getElem?_eq_some_iff.1 h).1
theorem IsC.c0 {W:World} {b:Nat} {x:Is} (h:IsC W b x):W.cell? ⟨b,0,none⟩ = some (.int .i64 x.op):=by simp [World.cell?,show W.heap[b]? = _ from h]
theorem IsC.c1 {W:World} {b:Nat} {x:Is} (h:IsC W b x):W.cell? ⟨b,1,none⟩ = some (.int .i64 x.a):=by simp [World.cell?,show W.heap[b]? = _ from h]
theorem IsC.c2 {W:World} {b:Nat} {x:Is} (h:IsC W b x):W.cell? ⟨b,2,none⟩ = some (.int .i64 x.b):=by simp [World.cell?,show W.heap[b]? = _ from h]
theorem IsC.grow {W W':World} {b:Nat} {x:Is} (h:IsC W b x) (hB:Below W.heap.size W W'):IsC W' b x:=(hB.block b h.lt).trans h
theorem IsC.new (W:World) (x:Is):IsC (W.alloc (.cells #[.int .i64 x.op,.int .i64 x.a,.int .i64 x.b,.int .i64 x.lo,.int .i64 x.hi] 112)) W.heap.size x:=World.alloc_heap_new W _
end Go.Proofs.YtekjflfkbgklhaaGreat
namespace Go.Proofs.YtekjflfkbgklhaaGreat
open Go.ChangeShapes Go.WideShapes Go.ChangeAt Go.RowKit
set_option linter.unusedVariables false
set_option linter.unusedSimpArgs false
set_option maxRecDepth 100000
attribute [local irreducible] Calls
def arI (op:Int):Int:=if op = 4 ∨ op = 5 ∨ op = 6 then 1 else if op = 7 ∨ op = 8 ∨ op = 9 ∨ op = 10 then 2 else 0
def vnB (n:Int) (x:Nd):Bool :=
 if x.op = 1 then decide (x.n = 0) && decide (VI x.lo x.hi)
 else if x.op = 2 then decide (x.lo = 0) && decide (x.hi = 0) && (decide (0 ≤ x.n) && decide (x.n < n))
 else if 3 ≤ x.op∧x.op ≤ 10 then decide (x.n = 0) && decide (x.lo = 0) && decide (x.hi = 0) else false
theorem drop_cons {α:Type} {l:List α} {k:Nat} {x:α} (h:l[k]? = some x):l.drop k = x :: l.drop (k+1):=by
 have hk:=(List.getElem?_eq_some_iff.1 h)
 rw [List.drop_eq_getElem_cons hk.1,hk.2]
end Go.Proofs.YtekjflfkbgklhaaGreat
namespace Go.Proofs.YtekjflfkbgklhaaGreat
open Go.ChangeShapes Go.WideShapes Go.ChangeAt Go.RowKit
set_option linter.unusedVariables false
set_option linter.unusedSimpArgs false
set_option maxRecDepth 100000
attribute [local irreducible] Calls
def NxC (w:World) (v:Value) (l:List Nd):Prop:=Nx w v l∧∃ p c,v = .slice p l.length c∧l.length ≤ c∧(p = none→c = 0)
theorem grows_nxc:Grows NxC:=fun _ _ _ _ h hb=>⟨h.1.grow hb,h.2⟩
theorem nxc_own {W:World} {B:Nat} {v:Value} {l:List Nd} {t:TypeId} (h:W.ownsRow B t 4 v l.length (cr encN l)) (hl:l.length ≤ maxLen):NxC W v l:=by
 refine ⟨Rx.own encN_len h hl,?_⟩
 rcases id h.2 with ⟨e,h0⟩ | ⟨g,cap,cur,e,_,_,hc,_⟩
 ·exact ⟨none,0,by rw [e,h0],by omega,fun _=>rfl⟩
 ·exact ⟨_,cap,e,hc,fun h=>by cases h⟩
theorem grown_belowN {W W':World} (h:Below W.heap.size W W'):W.grownBy W' none:=⟨h.os,h.tape,h.output,h.size,fun k hk _=>h.block k hk⟩
theorem own_keptN {W W':World} {B n size:Nat} {e:TypeId} {v:Value} {xs:List Value} (h:W.ownsRow B e size v n xs) (hB:Below W.heap.size W W'):W'.ownsRow B e size v n xs:=by
 refine h.kept (grown_belowN hB) ?_
 cases v.ownBlock with
 | none=>exact .inl rfl
 | some k=>exact .inr (by simp)
def NxO (W:World) (v:Value) (l:List Nd):Prop:=NxC W v l∧∀ a n c,v = .slice (some a) n c→∃ cur,W.heap[a.block]? = some (.cells cur 93 (0,0))
theorem NxO.grow {W W':World} {v:Value} {l:List Nd} (h:NxO W v l) (hB:Below W.heap.size W W'):NxO W' v l :=
 ⟨grows_nxc _ _ _ _ h.1 hB,fun a n c e=>by
  obtain ⟨cur,hc⟩:=h.2 a n c e
  exact ⟨cur,(hB.block _ (Array.getElem?_eq_some_iff.1 hc).1).trans hc⟩⟩
theorem grows_nxo:Grows NxO:=fun _ _ _ _ h hb=>h.grow hb
theorem nxo_own {W:World} {B:Nat} {v:Value} {l:List Nd} (h:W.ownsRow B 93 4 v l.length (cr encN l)) (hl:l.length ≤ maxLen):NxO W v l:=by
 refine ⟨nxc_own h hl,fun a n c e=>?_⟩
 rcases id h.2 with ⟨e1,h0⟩ | ⟨g,cap,cur,e1,_,hh,_⟩
 ·rw [e1] at e; cases e
 ·rw [e1] at e
  simp only [Value.slice.injEq,Option.some.injEq] at e
  obtain ⟨rfl,_⟩:=e
  exact ⟨cur,hh⟩
end Go.Proofs.YtekjflfkbgklhaaGreat
namespace Go.Proofs.YtekjflfkbgklhaaGreat
open Go.ChangeShapes Go.WideShapes Go.ChangeAt Go.RowKit
set_option linter.unusedVariables false
set_option linter.unusedSimpArgs false
set_option maxRecDepth 100000
attribute [local irreducible] Calls
theorem one_newN (w:World) (x:Value) (t:TypeId):∀ j u,[x][j]? = some u→(w.alloc (.cells #[x] t)).cell? ((⟨w.heap.size,0,none⟩:Addr).add j) = some u:=by
 intro j u hj
 have hk:j < 1:=by have:=(List.getElem?_eq_some_iff.1 hj).1; simpa using this
 obtain rfl:j = 0:=by omega
 cases hj
 simp [Addr.add,go_sem]
end Go.Proofs.YtekjflfkbgklhaaGreat
namespace Go.Proofs.YtekjflfkbgklhaaGreat
open Go.ChangeShapes Go.WideShapes Go.ChangeAt Go.RowKit Go.Maps
set_option linter.unusedVariables false
set_option linter.unusedSimpArgs false
set_option maxRecDepth 100000
def W64 (x:Int):Prop:=-9223372036854775808 ≤ x∧x ≤ 9223372036854775807
/-! ### the elements -/
def idxI (L:List Is) (x:Is):Nat:=L.findIdx (fun y=>decide (y = x))
theorem idxI_mem {L:List Is} {x:Is}:idxI L x < L.length ↔ x ∈ L:=by
 unfold idxI
 rw [List.findIdx_lt_length]
 simp
theorem idxI_new {L:List Is} {x:Is} (h:x ∉ L):idxI (L ++ [x]) x = L.length:=by
 unfold idxI
 rw [List.findIdx_append,if_neg (by rw [List.findIdx_lt_length]; rintro ⟨y,hy,e⟩; simp at e; exact h (e ▸ hy))]
 simp
def emitI (L:List Is) (x:Is):List Is:=if x ∈ L then L else L ++ [x]
theorem emitI_in {L:List Is} {x:Is} (h:x ∈ L):emitI L x = L:=if_pos h
theorem emitI_new {L:List Is} {x:Is} (h:x ∉ L):emitI L x = L ++ [x]:=if_neg h
end Go.Proofs.YtekjflfkbgklhaaGreat
namespace Go.Proofs.YtekjflfkbgklhaaGreat
open Go.ChangeShapes Go.WideShapes Go.ChangeAt Go.RowKit Go.Maps
set_option linter.unusedVariables false
set_option linter.unusedSimpArgs false
set_option maxRecDepth 100000
attribute [local irreducible] Calls
theorem cellsT_setN {W:World} {b o:Nat} {cs:Array Value} {t:TypeId} {z:Nat × Nat} {u:Value} (h:W.heap[b]? = some (.cells cs t z)):(W.setCell ⟨b,o,none⟩ u).heap[b]? = some (.cells (cs.setIfInBounds o u) t z):=by
 obtain ⟨hlt,hk⟩:=Array.getElem?_eq_some_iff.1 h
 show (W.heap.modify b _)[b]? = _
 rw [Array.getElem?_eq_getElem (by rw [Array.size_modify]; exact hlt),Array.getElem_modify_self,hk]
 rfl
section
variable {B bl bm:Nat} {u:Value} {L:List Is} {W:World}
theorem grownBy_setN (W:World) (a:Addr) (v:Value):W.grownBy (W.setCell a v) (some a.block):=⟨rfl,rfl,rfl,(KeepsWalks.setCell W _ v).size,fun k _ hk=>Below.heap_setCell _ _ _ k (fun e=>hk (by rw [e]))⟩
end
theorem heapN_cell {W:World} {b k:Nat} {cs:Array Value} {t:TypeId} {z:Nat × Nat} {u:Value} (h:W.heap[b]? = some (.cells cs t z)) (hk:cs[k]? = some u):W.cell? ⟨b,k,none⟩ = some u:=by
 simp [World.cell?,h,hk]
theorem info_is:(Tryz.prog.info? 112).map (fun i=>(i.zero,i.size,i.bytes)) = some (some (.agg #[.int .i64 0,.int .i64 0,.int .i64 0,.int .i64 0,.int .i64 0]),5,40):=by kernel_rfl
theorem new_i (w:World) (x:Is):∀ j u,(encI x)[j]? = some u→(w.alloc (.cells #[.int .i64 x.op,.int .i64 x.a,.int .i64 x.b,.int .i64 x.lo,.int .i64 x.hi] 112)).cell? ((⟨w.heap.size,0,none⟩:Addr).add j) = some u:=by
 intro j u hj
 have hk:j < 5:=by have:=(List.getElem?_eq_some_iff.1 hj).1; simpa [encI] using this
 unfold encI at hj
 match j,hk,hj with
 | 0,_,hj=>cases hj; simp [Addr.add,go_sem]
 | 1,_,hj=>cases hj; simp [Addr.add,go_sem]
 | 2,_,hj=>cases hj; simp [Addr.add,go_sem]
 | 3,_,hj=>cases hj; simp [Addr.add,go_sem]
 | 4,_,hj=>cases hj; simp [Addr.add,go_sem]
theorem one_i (x:Is):∀ u ∈ encI x,u.oneCell' = true:=by
 intro u hu
 simp only [encI,List.mem_cons,List.not_mem_nil,or_false] at hu
 rcases hu with rfl | rfl | rfl | rfl | rfl <;> rfl
end Go.Proofs.YtekjflfkbgklhaaGreat
namespace Go.Proofs.YtekjflfkbgklhaaGreat
open Go.ChangeShapes Go.WideShapes Go.ChangeAt Go.RowKit Go.Maps
set_option linter.unusedVariables false
set_option linter.unusedSimpArgs false
set_option maxRecDepth 100000
attribute [local irreducible] Calls
inductive Ex where
 | e0 (x:Nd)
 | e1 (x:Nd) (a:Ex)
 | e2 (x:Nd) (a b:Ex)
def pre:Ex→List Nd
 | .e0 x=>[x]
 | .e1 x a=>x :: pre a
 | .e2 x a b=>x :: (pre a ++ pre b)
def emitT:Ex→List Is→List Is × Nat
 | .e0 x,L=>(emitI L ⟨x.op,x.n,0,x.lo,x.hi⟩,idxI (emitI L ⟨x.op,x.n,0,x.lo,x.hi⟩) ⟨x.op,x.n,0,x.lo,x.hi⟩)
 | .e1 x a,L=>(emitI (emitT a L).1 ⟨x.op,(emitT a L).2,0,x.lo,x.hi⟩,idxI (emitI (emitT a L).1 ⟨x.op,(emitT a L).2,0,x.lo,x.hi⟩) ⟨x.op,(emitT a L).2,0,x.lo,x.hi⟩)
 | .e2 x a b,L=>(emitI (emitT b (emitT a L).1).1 ⟨x.op,(emitT a L).2,(emitT b (emitT a L).1).2,x.lo,x.hi⟩,idxI (emitI (emitT b (emitT a L).1).1 ⟨x.op,(emitT a L).2,(emitT b (emitT a L).1).2,x.lo,x.hi⟩) ⟨x.op,(emitT a L).2,(emitT b (emitT a L).1).2,x.lo,x.hi⟩)
theorem emitI_len (L:List Is) (x:Is):L.length ≤ (emitI L x).length∧(emitI L x).length ≤ L.length+1:=by
 unfold emitI
 split
 ·omega
 ·simp
theorem emitI_idx (L:List Is) (x:Is):idxI (emitI L x) x < (emitI L x).length:=by
 rw [idxI_mem]
 unfold emitI
 split
 ·assumption
 ·simp
theorem emitT_len:∀ (t:Ex) (L:List Is),L.length ≤ (emitT t L).1.length∧(emitT t L).1.length ≤ L.length+(pre t).length∧(emitT t L).2 < (emitT t L).1.length
 | .e0 x,L=>by
  have h:=emitI_len L ⟨x.op,x.n,0,x.lo,x.hi⟩
  exact ⟨h.1,h.2,emitI_idx _ _⟩
 | .e1 x a,L=>by
  have h1:=emitT_len a L
  have h:=emitI_len (emitT a L).1 ⟨x.op,(emitT a L).2,0,x.lo,x.hi⟩
  have e:(pre (.e1 x a)).length = (pre a).length+1:=by simp [pre]
  exact ⟨Nat.le_trans h1.1 h.1,by rw [e]; exact Nat.le_trans h.2 (by omega),emitI_idx _ _⟩
 | .e2 x a b,L=>by
  have h1:=emitT_len a L
  have h2:=emitT_len b (emitT a L).1
  have h:=emitI_len (emitT b (emitT a L).1).1 ⟨x.op,(emitT a L).2,(emitT b (emitT a L).1).2,x.lo,x.hi⟩
  have e:(pre (.e2 x a b)).length = (pre a).length+(pre b).length+1:=by simp [pre]
  exact ⟨Nat.le_trans h1.1 (Nat.le_trans h2.1 h.1),by rw [e]; exact Nat.le_trans h.2 (by omega),emitI_idx _ _⟩
end Go.Proofs.YtekjflfkbgklhaaGreat
