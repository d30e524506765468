/-
 Sa Sn U9 UC
-/
import Derived.Test.YtekjflfkbgklhaaGreatKcm
import Derived.Test.YtekjflfkbgklhaaGreatKco
import Derived.Laws.OwnMore
import Derived.Maps.AppendAt
import Derived.Laws.Bits128
import Derived.Deep.CutRange
import Derived.WalkKit
import Derived.ProofKit
import Derived.OpenShut
import Derived.Deep.Matrix
import Derived.Laws.EntriesVeiled
namespace Go.Proofs.YtekjflfkbgklhaaGreat
open Go.ChangeShapes Go.WideShapes Go.ChangeAt Go.RowKit
set_option linter.unusedVariables false
set_option linter.unusedSimpArgs false
set_option maxRecDepth 100000
def gI (l:List (Int × Int)) (i:Nat):Int × Int:=l.getD i (0,0)
def gR (l:List (List (Int × Int))) (i:Nat):List (Int × Int):=l.getD i []
def mrN (n d:Int) (p:Int × Int):Int × Int:=(mrLo p.1 p.2 n d,mrHi p.1 p.2 n d)
def cvI (a b:List (Int × Int)) (k f:Nat):Nat→Int × Int
 | 0=>(0,0)
 | n+1=>opI 7 (cvI a b k f n) (opI 9 (gI a (f+n)) (gI b (k - (f+n))))
def qtI (a b q:List (Int × Int)):Int × Int:=opI 10 (opI 8 (gI a q.length) (cvI b q q.length 1 q.length)) (gI b 0)
def rnI (a r:List (Int × Int)):Int × Int:=if r.length = 0 then rtI (gI a 0) else opI 10 (opI 8 (gI a r.length) (cvI r r r.length 1 (r.length - 1))) (mrN 2 1 (gI r 0))
def squI (a:List (Int × Int)) (k:Nat):Int × Int:=if k = 0 then opI 5 (gI a 0) (0,0) else cvI a a k 0 (k+1)
def nxI (x:Is) (st rows:List (List (Int × Int))) (own:List (Int × Int)) (t:Int × Int) (k:Nat):Int × Int :=
 if x.op = 1 then gI [(x.lo,x.hi)] k else if x.op = 3 then gI [t,(65536,65536)] k else if x.op = 2 then gI (gR st x.a.toNat) k
 else if x.op = 5 then squI (gR rows x.a.toNat) k
 else if x.op = 9 then cvI (gR rows x.a.toNat) (gR rows x.b.toNat) k 0 (k+1)
 else if x.op = 10 then qtI (gR rows x.a.toNat) (gR rows x.b.toNat) own
 else if x.op = 6 then rnI (gR rows x.a.toNat) own
 else opI x.op (gI (gR rows x.a.toNat) k) (gI (gR rows x.b.toNat) k)
def nilI:Is:=⟨0,0,0,0,0⟩
def rwStep (L:List Is) (st:List (List (Int × Int))) (t:Int × Int) (k:Nat) (rows:List (List (Int × Int))) (i:Nat):List (List (Int × Int)):=rows.set i (gR rows i ++ [nxI (L.getD i nilI) st rows (gR rows i) t k])
def rwN (L:List Is) (st:List (List (Int × Int))) (t:Int × Int) (k:Nat) (rows:List (List (Int × Int))):Nat→List (List (Int × Int))
 | 0=>rows
 | n+1=>rwStep L st t k (rwN L st t k rows n) n
def stStep (out:List Int) (rows:List (List (Int × Int))) (k:Nat) (st:List (List (Int × Int))) (i:Nat):List (List (Int × Int)):=st.set i (gR st i ++ [mrN 1 (k+1:Nat) (gI (gR rows (out.getD i 0).toNat) k)])
def stN (out:List Int) (rows:List (List (Int × Int))) (k:Nat) (st:List (List (Int × Int))):Nat→List (List (Int × Int))
 | 0=>st
 | n+1=>stStep out rows k (stN out rows k st n) n
def exN (L:List Is) (out:List Int) (X:List (Int × Int)) (t:Int × Int):Nat→List (List (Int × Int)) × List (List (Int × Int))
 | 0=>(List.replicate L.length [],X.map fun p=>[p])
 | k+1=>(rwN L (exN L out X t k).2 t k (exN L out X t k).1 L.length,stN out (rwN L (exN L out X t k).2 t k (exN L out X t k).1 L.length) k (exN L out X t k).2 out.length)
def serI (L:List Is) (out:List Int) (X:List (Int × Int)) (t:Int × Int) (order:Nat):List (List (Int × Int)):=(exN L out X t order).2
def hoI (h:Int × Int):List (Int × Int)→Int × Int
 | []=>(-2147483648,2147483648)
 | [c]=>c
 | c :: r=>opI 7 (opI 9 (hoI h r) h) c
def AV (l:List (Int × Int)):Prop:=∀ p ∈ l,VI p.1 p.2
def AVR (l:List (List (Int × Int))):Prop:=∀ r ∈ l,AV r
theorem vi_0:VI (0:Int) 0:=.inr ⟨by unfold Num; omega,by unfold Num; omega,Int.le_refl 0⟩
theorem vi_1:VI (65536:Int) 65536:=.inr ⟨by unfold Num; omega,by unfold Num; omega,Int.le_refl _⟩
theorem gI_vi {l:List (Int × Int)} (h:AV l) (i:Nat):VI (gI l i).1 (gI l i).2:=by
 unfold gI
 rw [List.getD_eq_getElem?_getD]
 cases e:l[i]? with
 | none=>exact vi_0
 | some p=>exact h p (List.mem_of_getElem? e)
theorem gR_av {l:List (List (Int × Int))} (h:AVR l) (i:Nat):AV (gR l i):=by
 unfold gR
 rw [List.getD_eq_getElem?_getD]
 cases e:l[i]? with
 | none=>intro p hp; cases hp
 | some p=>exact h p (List.mem_of_getElem? e)
theorem mrN_vi (n:Int) {d:Int} (hd:0 < d) (p:Int × Int):VI (mrN n d p).1 (mrN n d p).2:=mr_vi hd
theorem cvI_vi {a b:List (Int × Int)} (ha:AV a) (hb:AV b) (k f:Nat):∀ n,VI (cvI a b k f n).1 (cvI a b k f n).2
 | 0=>vi_0
 | n+1=>opI_vi 7 (cvI_vi ha hb k f n) (opI_vi 9 (gI_vi ha _) (gI_vi hb _))
theorem qtI_vi {a b q:List (Int × Int)} (ha:AV a) (hb:AV b) (hq:AV q):VI (qtI a b q).1 (qtI a b q).2:=opI_vi 10 (opI_vi 8 (gI_vi ha _) (cvI_vi hb hq _ _ _)) (gI_vi hb _)
theorem rnI_vi {a r:List (Int × Int)} (ha:AV a) (hr:AV r):VI (rnI a r).1 (rnI a r).2:=by
 unfold rnI
 split
 ·exact rtI_vi (gI_vi ha 0)
 ·exact opI_vi 10 (opI_vi 8 (gI_vi ha _) (cvI_vi hr hr _ _ _)) (mrN_vi 2 (by omega) _)
theorem sqI_vi {a:List (Int × Int)} (ha:AV a) (k:Nat):VI (squI a k).1 (squI a k).2:=by
 unfold squI
 split
 ·exact opI_vi 5 (gI_vi ha 0) vi_0
 ·exact cvI_vi ha ha _ _ _
theorem nxI_vi {x:Is} {st rows:List (List (Int × Int))} {own:List (Int × Int)} {t:Int × Int} (k:Nat) (hc:x.op = 1→VI x.lo x.hi) (hs:AVR st) (hr:AVR rows) (ho:AV own) (ht:VI t.1 t.2):VI (nxI x st rows own t k).1 (nxI x st rows own t k).2:=by
 unfold nxI
 have ha:=gR_av hr x.a.toNat
 have hb:=gR_av hr x.b.toNat
 split
 ·next h=>exact gI_vi (fun p hp=>by rw [List.mem_singleton.1 hp]; exact hc h) k
 split
 ·refine gI_vi (fun p hp=>?_) k
  simp only [List.mem_cons,List.not_mem_nil,or_false] at hp
  rcases hp with rfl | rfl
  ·exact ht
  ·exact vi_1
 split
 ·exact gI_vi (gR_av hs _) k
 split
 ·exact sqI_vi ha k
 split
 ·exact cvI_vi ha hb _ _ _
 split
 ·exact qtI_vi ha hb ho
 split
 ·exact rnI_vi ha ho
 ·exact opI_vi _ (gI_vi ha _) (gI_vi hb _)
theorem avr_set {l:List (List (Int × Int))} (h:AVR l) (i:Nat) {r:List (Int × Int)} (hr:AV r):AVR (l.set i r):=by
 intro s hs
 rcases List.mem_or_eq_of_mem_set hs with h1 | rfl
 ·exact h s h1
 ·exact hr
theorem av_snoc {l:List (Int × Int)} (h:AV l) {p:Int × Int} (hp:VI p.1 p.2):AV (l ++ [p]):=by
 intro q hq
 rcases List.mem_append.1 hq with h1 | h1
 ·exact h q h1
 ·rw [List.mem_singleton.1 h1]; exact hp
def CV (L:List Is):Prop:=∀ x ∈ L,x.op = 1→VI x.lo x.hi
theorem cv_at {L:List Is} (h:CV L) (i:Nat):(L.getD i nilI).op = 1→VI (L.getD i nilI).lo (L.getD i nilI).hi:=by
 rw [List.getD_eq_getElem?_getD]
 cases e:L[i]? with
 | none=>intro h1; simp [nilI] at h1
 | some x=>exact h x (List.mem_of_getElem? e)
theorem gR_set {l:List (List (Int × Int))} {i:Nat} (hi:i < l.length) (r:List (Int × Int)) (j:Nat):gR (l.set i r) j = if j = i then r else gR l j:=by
 unfold gR
 rw [List.getD_eq_getElem?_getD,List.getD_eq_getElem?_getD,List.getElem?_set]
 by_cases h:i = j
 ·subst h; simp [hi]
 ·rw [if_neg h,if_neg (fun e=>h e.symm)]
structure RwK (k i:Nat) (n:Nat) (rows:List (List (Int × Int))):Prop where
 len:rows.length = n
 row:∀ j,j < n→(gR rows j).length = if j < i then k+1 else k
 av:AVR rows
theorem rw_one {L:List Is} {st rows:List (List (Int × Int))} {t:Int × Int} {k i:Nat} (hL:CV L) (hs:AVR st) (ht:VI t.1 t.2) (h:RwK k i L.length rows) (hi:i < L.length):RwK k (i+1) L.length (rwStep L st t k rows i):=by
 unfold rwStep
 have hi':i < rows.length:=by rw [h.len]; exact hi
 refine ⟨by rw [List.length_set,h.len],fun j hj=>?_,avr_set h.av i (av_snoc (gR_av h.av i) (nxI_vi k (cv_at hL i) hs h.av (gR_av h.av i) ht))⟩
 rw [gR_set hi']
 by_cases e:j = i
 ·subst e
  rw [if_pos rfl,List.length_append,h.row j hj,if_neg (by omega),if_pos (by omega)]; rfl
 ·rw [if_neg e,h.row j hj]
  by_cases c:j < i
  ·rw [if_pos c,if_pos (by omega)]
  ·rw [if_neg c,if_neg (by omega)]
theorem rw_all {L:List Is} {st rows:List (List (Int × Int))} {t:Int × Int} {k:Nat} (hL:CV L) (hs:AVR st) (ht:VI t.1 t.2) (h:RwK k 0 L.length rows):∀ n,n ≤ L.length→RwK k n L.length (rwN L st t k rows n)
 | 0,_=>h
 | n+1,hn=>rw_one hL hs ht (rw_all hL hs ht h n (by omega)) (by omega)
theorem rwk_next {k n:Nat} {rows:List (List (Int × Int))} (h:RwK k n n rows):RwK (k+1) 0 n rows:=⟨h.len,fun j hj=>by rw [h.row j hj,if_pos hj,if_neg (by omega)],h.av⟩
theorem st_one {out:List Int} {st rows:List (List (Int × Int))} {k i n:Nat} (h:RwK (k+1) i n st) (hi:i < n):RwK (k+1) (i+1) n (stStep out rows k st i):=by
 unfold stStep
 have hi':i < st.length:=by rw [h.len]; exact hi
 refine ⟨by rw [List.length_set,h.len],fun j hj=>?_,avr_set h.av i (av_snoc (gR_av h.av i) (mrN_vi 1 (by omega) _))⟩
 rw [gR_set hi']
 by_cases e:j = i
 ·subst e
  rw [if_pos rfl,List.length_append,h.row j hj,if_neg (by omega),if_pos (by omega)]; rfl
 ·rw [if_neg e,h.row j hj]
  by_cases c:j < i
  ·rw [if_pos c,if_pos (by omega)]
  ·rw [if_neg c,if_neg (by omega)]
theorem st_all {out:List Int} {st rows:List (List (Int × Int))} {k n:Nat} (h:RwK (k+1) 0 n st):∀ m,m ≤ n→RwK (k+1) m n (stN out rows k st m)
 | 0,_=>h
 | m+1,hm=>st_one (st_all h m (by omega)) (by omega)
theorem ex_ok {L:List Is} {out:List Int} {X:List (Int × Int)} {t:Int × Int} (hL:CV L) (hX:AV X) (ht:VI t.1 t.2) (ho:out.length = X.length):∀ k,RwK k 0 L.length (exN L out X t k).1∧RwK (k+1) 0 X.length (exN L out X t k).2
 | 0=>⟨⟨by simp [exN],fun j hj=>by simp [exN,gR,List.getD_eq_getElem?_getD,hj],fun r hr=>by
   have:=List.eq_of_mem_replicate hr
   subst this
   intro p hp; cases hp⟩,⟨by simp [exN],fun j hj=>by simp [exN,gR,List.getD_eq_getElem?_getD,hj],fun r hr=>by
   simp only [exN,List.mem_map] at hr
   obtain ⟨p,hp,rfl⟩:=hr
   intro q hq
   rw [List.mem_singleton.1 hq]
   exact hX p hp⟩⟩
 | k+1=>by
  obtain ⟨h1,h2⟩:=ex_ok hL hX ht ho k
  have h3:=rw_all hL h2.av ht h1 L.length (Nat.le_refl _)
  have h4:=st_all (out:=out) (rows:=rwN L (exN L out X t k).2 t k (exN L out X t k).1 L.length) h2 X.length (Nat.le_refl _)
  refine ⟨rwk_next h3,rwk_next ?_⟩
  unfold exN
  dsimp only
  rw [ho]
  exact h4
section
variable {α:Type} {enc:α→List Value} {sz:Nat} {t ts:TypeId}
theorem ot_grown {W W':World} (h:Below W.heap.size W W'):W.grownBy W' none:=⟨h.os,h.tape,h.output,h.size,fun k hk _=>h.block k hk⟩
theorem ot_kept {W W':World} {B n size:Nat} {e:TypeId} {v:Value} {xs:List Value} (h:W.ownsRow B e size v n xs) (hB:Below W.heap.size W W'):W'.ownsRow B e size v n xs:=h.kept (ot_grown hB) (by cases v.ownBlock <;> simp)
theorem ot_ne {W:World} {B B' n n' size size':Nat} {e e':TypeId} {v v':Value} {xs xs':List Value} (ht:e ≠ e') (h:W.ownsRow B e size v n xs) (h':W.ownsRow B' e' size' v' n' xs'):v.ownBlock = none ∨ v.ownBlock ≠ v'.ownBlock:=by
 rcases h.2 with ⟨rfl,_⟩ | ⟨g,cap,cur,rfl,_,hg,_⟩
 ·exact .inl rfl
 ·refine .inr fun e1=>?_
  rcases h'.2 with ⟨rfl,_⟩ | ⟨g',cap',cur',rfl,_,hg',_⟩
  ·simp [Value.ownBlock] at e1
  ·simp only [Value.ownBlock,Option.some.injEq] at e1
   subst e1
   rw [hg] at hg'
   simp only [Option.some.injEq,Obj.cells.injEq] at hg'
   exact ht hg'.2.1
theorem ot_cut {W:World} {B n size:Nat} {e:TypeId} {v:Value} {xs:List Value} (h:W.ownsRow B e size v n xs) (hn:0 < n):∃ O c,v = .slice (some ⟨O,0,none⟩) n c∧B ≤ O∧O < W.heap.size:=by
 rcases h.2 with ⟨_,e1⟩ | ⟨g,cap,cur,rfl,hb,hg,_⟩
 ·omega
 ·exact ⟨g,cap,rfl,hb,(Array.getElem?_eq_some_iff.1 hg).1⟩
structure OwT (enc:α→List Value) (sz:Nat) (t ts:TypeId) (B:Nat) (W:World) (v:Value) (rows:List (List α)) (us:List Value):Prop where
 out:W.ownsRow B ts 1 v rows.length us
 row:∀ (i:Nat) (r:List α),rows[i]? = some r→∃ u,us[i]? = some u∧W.ownsRow B t sz u r.length (cr enc r)
 far:∀ (i j:Nat) (u x:Value),us[i]? = some u→us[j]? = some x→i ≠ j→u.ownBlock = none ∨ u.ownBlock ≠ x.ownBlock
theorem OwT.grow {B:Nat} {W W':World} {v:Value} {rows:List (List α)} {us:List Value} (h:OwT enc sz t ts B W v rows us) (hB:Below W.heap.size W W'):OwT enc sz t ts B W' v rows us :=
 ⟨ot_kept h.out hB,fun i r hr=>by
  obtain ⟨u,h1,h2⟩:=h.row i r hr
  exact ⟨u,h1,ot_kept h2 hB⟩,h.far⟩
theorem OwT.base {B B':Nat} {W:World} {v:Value} {rows:List (List α)} {us:List Value} (h:OwT enc sz t ts B W v rows us) (hB:B' ≤ B):OwT enc sz t ts B' W v rows us:=by
 have key:∀ {e:TypeId} {size n:Nat} {u:Value} {xs:List Value},W.ownsRow B e size u n xs→W.ownsRow B' e size u n xs:=fun h=>⟨h.1,h.2.imp id fun ⟨g,c,cur,e1,hb,r⟩=>⟨g,c,cur,e1,Nat.le_trans hB hb,r⟩⟩
 exact ⟨key h.out,fun i r hr=>by
  obtain ⟨u,h1,h2⟩:=h.row i r hr
  exact ⟨u,h1,key h2⟩,h.far⟩
theorem OwT.lx (hsz:∀ x,(enc x).length = sz) {B:Nat} {W:World} {v:Value} {rows:List (List α)} {us:List Value} (h:OwT enc sz t ts B W v rows us) (hl:rows.length ≤ maxLen) (hr:∀ r ∈ rows,r.length ≤ maxLen):Lx (Rx enc sz) W v rows:=by
 refine ⟨hl,?_⟩
 rcases h.out.2 with ⟨rfl,e⟩ | ⟨g,cap,cur,rfl,hb,hg,_⟩
 ·refine ⟨none,0,by rw [e],fun k x hx=>?_⟩
  have:=(List.getElem?_eq_some_iff.1 hx).1
  omega
 ·refine ⟨some ⟨g,0,none⟩,cap,rfl,fun k x hx=>?_⟩
  obtain ⟨u,h1,h2⟩:=h.row k x hx
  have hk:=(List.getElem?_eq_some_iff.1 hx).1
  refine ⟨g,0,u,rfl,(Array.getElem?_eq_some_iff.1 hg).1,?_,Rx.own hsz h2 (hr x (List.mem_of_getElem? hx))⟩
  rw [Nat.zero_add,h.out.cellAt k (by omega)]
  exact h1
theorem OwT.other {B:Nat} {W W':World} {v:Value} {rows:List (List α)} {us:List Value} (h:OwT enc sz t ts B W v rows us) {row:Option Nat} (hg:W.grownBy W' row) (ho:v.ownBlock = none ∨ v.ownBlock ≠ row) (hu:∀ u ∈ us,u.ownBlock = none ∨ u.ownBlock ≠ row):OwT enc sz t ts B W' v rows us :=
 ⟨h.out.kept hg ho,fun i r hr=>by
  obtain ⟨u,h1,h2⟩:=h.row i r hr
  exact ⟨u,h1,h2.kept hg (hu u (List.mem_of_getElem? h1))⟩,h.far⟩
theorem OwT.push (hts:t ≠ ts) {B:Nat} {W W':World} {O c:Nat} {rows:List (List α)} {us:List Value} (h:OwT enc sz t ts B W (.slice (some ⟨O,0,none⟩) rows.length c) rows us) {i:Nat} {r:List α} {x:α} {u u':Value} (hr:rows[i]? = some r) (hu:us[i]? = some u)
  (ho:W'.ownsRow B t sz u' (r.length+1) (cr enc r ++ enc x)) (hg:W.grownBy W' u.ownBlock) (hat:u'.ownBlock = u.ownBlock ∨ u'.ownBlock = some W.heap.size) :
  OwT enc sz t ts B (W'.setCell ⟨O,i,none⟩ u') (.slice (some ⟨O,0,none⟩) rows.length c) (rows.set i (r ++ [x])) (us.set i u'):=by
 have hi:=(List.getElem?_eq_some_iff.1 hr).1
 obtain ⟨u0,e0,hrow⟩:=h.row i r hr
 rw [hu] at e0
 obtain rfl:=Option.some.inj e0
 have hOne:(Value.slice (some ⟨O,0,none⟩) rows.length c).ownBlock = none ∨ (Value.slice (some ⟨O,0,none⟩) rows.length c).ownBlock ≠ u.ownBlock:=ot_ne (fun e=>hts e.symm) h.out hrow
 have hout:=h.out.kept hg hOne
 have st:=hout.stored i u'
 have hne:∀ (y:Value) (n:Nat) (xs:List Value),W'.ownsRow B t sz y n xs→y.ownBlock = none ∨ y.ownBlock ≠ some O:=fun y n xs hy=>ot_ne hts hy hout
 refine ⟨by rw [List.length_set]; exact st.1,fun j s hs=>?_,fun j k y z hy hz hjk=>?_⟩
 ·by_cases e:j = i
  ·subst e
   rw [List.getElem?_set_self hi] at hs
   obtain rfl:=Option.some.inj hs
   have hj:j < us.length:=by have:=(List.getElem?_eq_some_iff.1 hu).1; exact this
   refine ⟨u',List.getElem?_set_self hj,?_⟩
   have:=ho.kept st.2 (hne _ _ _ ho)
   rw [List.length_append,List.length_singleton,cr_snoc]
   exact this
  ·rw [List.getElem?_set_ne (fun q=>e q.symm)] at hs
   obtain ⟨y,h1,h2⟩:=h.row j s hs
   refine ⟨y,by rw [List.getElem?_set_ne (fun q=>e q.symm)]; exact h1,?_⟩
   have h3:=h2.kept hg (h.far j i y u h1 hu e)
   exact h3.kept st.2 (hne _ _ _ h3)
 ·have hil:i < us.length:=(List.getElem?_eq_some_iff.1 hu).1
  have lt:∀ (k:Nat) (y:Value),us[k]? = some y→k < rows.length→∀ b,y.ownBlock = some b→b < W.heap.size:=fun k y hk hl b hb=>by
   obtain ⟨r',hr'⟩:∃ r',rows[k]? = some r':=⟨_,List.getElem?_eq_getElem hl⟩
   obtain ⟨y',h1,h2⟩:=h.row k r' hr'
   rw [hk] at h1
   obtain rfl:=Option.some.inj h1
   exact (h2.lt b hb).2
  have hlen:us.length = rows.length:=by have:=h.out.1; simpa using this
  by_cases ej:j = i
  ·subst ej
   rw [List.getElem?_set_self hil] at hy
   obtain rfl:=Option.some.inj hy
   rw [List.getElem?_set_ne (fun q=>hjk q)] at hz
   rcases hat with e | e
   ·rw [e]; exact h.far j k u z hu hz hjk
   ·rw [e]
    refine .inr fun e2=>?_
    have hk:=(List.getElem?_eq_some_iff.1 hz).1
    have:=lt k z hz (by omega) _ e2.symm
    omega
  ·rw [List.getElem?_set_ne (fun q=>ej q.symm)] at hy
   by_cases ek:k = i
   ·subst ek
    rw [List.getElem?_set_self hil] at hz
    obtain rfl:=Option.some.inj hz
    rcases hat with e | e
    ·rw [e]; exact h.far j k y u hy hu hjk
    ·rw [e]
     refine .inr fun e2=>?_
     have hk:=(List.getElem?_eq_some_iff.1 hy).1
     have:=lt j y hy (by omega) _ e2
     omega
   ·rw [List.getElem?_set_ne (fun q=>ek q.symm)] at hz
    exact h.far j k y z hy hz hjk
theorem OwT.snoc (hts:t ≠ ts) {B:Nat} {W W':World} {v v' u:Value} {rows:List (List α)} {us:List Value} {r:List α} (h:OwT enc sz t ts B W v rows us) (hu:W.ownsRow B t sz u r.length (cr enc r)) (hfar:∀ y ∈ us,y.ownBlock = none ∨ y.ownBlock ≠ u.ownBlock)
  (ho:W'.ownsRow B ts 1 v' (rows.length+1) (us ++ [u])) (hg:W.grownBy W' v.ownBlock) :
  OwT enc sz t ts B W' v' (rows ++ [r]) (us ++ [u]):=by
 have hlen:us.length = rows.length:=by have:=h.out.1; simpa using this
 have ne:∀ (y:Value) (n:Nat) (xs:List Value),W.ownsRow B t sz y n xs→y.ownBlock = none ∨ y.ownBlock ≠ v.ownBlock:=fun y n xs hy=>ot_ne hts hy h.out
 have sym:∀ {a b:Option Nat},(a = none ∨ a ≠ b)→(b = none ∨ b ≠ a):=fun {a b} h=>by
  rcases h with h | h
  ·subst h; cases b <;> simp
  ·exact .inr fun e=>h e.symm
 refine ⟨by rw [List.length_append]; exact ho,fun j s hs=>?_,fun j k y z hy hz hjk=>?_⟩
 ·by_cases e:j < rows.length
  ·rw [List.getElem?_append_left e] at hs
   obtain ⟨y,h1,h2⟩:=h.row j s hs
   exact ⟨y,by rw [List.getElem?_append_left (by omega)]; exact h1,h2.kept hg (ne _ _ _ h2)⟩
  ·have hj:=(List.getElem?_eq_some_iff.1 hs).1
   rw [List.length_append,List.length_singleton] at hj
   obtain rfl:j = rows.length:=by omega
   rw [List.getElem?_concat_length] at hs
   obtain rfl:=Option.some.inj hs
   exact ⟨u,by rw [← hlen,List.getElem?_concat_length],hu.kept hg (ne _ _ _ hu)⟩
 ·have hj:=(List.getElem?_eq_some_iff.1 hy).1
  have hk:=(List.getElem?_eq_some_iff.1 hz).1
  rw [List.length_append,List.length_singleton] at hj hk
  by_cases ej:j < us.length
  ·rw [List.getElem?_append_left ej] at hy
   by_cases ek:k < us.length
   ·rw [List.getElem?_append_left ek] at hz
    exact h.far j k y z hy hz hjk
   ·obtain rfl:k = us.length:=by omega
    rw [List.getElem?_concat_length] at hz
    obtain rfl:=Option.some.inj hz
    exact hfar y (List.mem_of_getElem? hy)
  ·obtain rfl:j = us.length:=by omega
   rw [List.getElem?_concat_length] at hy
   obtain rfl:=Option.some.inj hy
   by_cases ek:k < us.length
   ·rw [List.getElem?_append_left ek] at hz
    exact sym (hfar z (List.mem_of_getElem? hz))
   ·omega
theorem OwT.mem {B:Nat} {W:World} {v:Value} {rows:List (List α)} {us:List Value} (h:OwT enc sz t ts B W v rows us) {u:Value} (hu:u ∈ us):∃ r ∈ rows,W.ownsRow B t sz u r.length (cr enc r):=by
 have hlen:us.length = rows.length:=by have:=h.out.1; simpa using this
 obtain ⟨i,hi⟩:=List.getElem?_of_mem hu
 have hl:=(List.getElem?_eq_some_iff.1 hi).1
 obtain ⟨r,hr⟩:∃ r,rows[i]? = some r:=⟨_,List.getElem?_eq_getElem (by omega)⟩
 obtain ⟨y,h1,h2⟩:=h.row i r hr
 rw [hi] at h1
 obtain rfl:=Option.some.inj h1
 exact ⟨r,List.mem_of_getElem? hr,h2⟩
end
end Go.Proofs.YtekjflfkbgklhaaGreat
namespace Go.Proofs.YtekjflfkbgklhaaGreat
open Go.ChangeShapes Go.WideShapes Go.ChangeAt Go.RowKit
set_option linter.unusedVariables false
set_option linter.unusedSimpArgs false
set_option maxRecDepth 100000
theorem gR_map1 (X:List (Int × Int)) (j:Nat):gR (X.map fun p=>[p]) j = if j < X.length then [gI X j] else []:=by
 unfold gR gI
 rw [List.getD_eq_getElem?_getD,List.getElem?_map,List.getD_eq_getElem?_getD]
 split
 ·next h=>rw [List.getElem?_eq_getElem h]; rfl
 ·next h=>rw [List.getElem?_eq_none (by omega)]; rfl
theorem st_len {out:List Int} {st rows:List (List (Int × Int))} (k:Nat):∀ n,(stN out rows k st n).length = st.length
 | 0=>rfl
 | n+1=>by
  show ((stN out rows k st n).set n _).length = _
  rw [List.length_set,st_len k n]
theorem st_row {out:List Int} {st rows:List (List (Int × Int))} (k j:Nat):∀ n,n ≤ st.length→gR (stN out rows k st n) j = if j < n then gR st j ++ [mrN 1 (k+1:Nat) (gI (gR rows (out.getD j 0).toNat) k)] else gR st j
 | 0,_=>by rw [if_neg (by omega)]; rfl
 | n+1,hn=>by
  have h:=st_row (out:=out) (st:=st) (rows:=rows) k j n (by omega)
  show gR ((stN out rows k st n).set n _) j = _
  rw [gR_set (by rw [st_len]; omega)]
  by_cases e:j = n
  ·subst e
   rw [if_neg (by omega)] at h
   rw [if_pos rfl,if_pos (by omega),h]
  ·rw [if_neg e,h]
   by_cases hj:j < n
   ·rw [if_pos hj,if_pos (by omega)]
   ·rw [if_neg hj,if_neg (by omega)]
theorem ser_len {L:List Is} {out:List Int} {X:List (Int × Int)} {t:Int × Int}:∀ k,(serI L out X t k).length = X.length
 | 0=>by simp [serI,exN]
 | k+1=>by
  show (stN out _ k (serI L out X t k) out.length).length = _
  rw [st_len,ser_len k]
theorem ser_next {L:List Is} {out:List Int} {X:List (Int × Int)} {t:Int × Int} (ho:out.length = X.length) (k j:Nat) (hj:j < X.length):∃ x,gR (serI L out X t (k+1)) j = gR (serI L out X t k) j ++ [x]:=by
 have hl:=ser_len (L:=L) (out:=out) (X:=X) (t:=t) k
 have h:=st_row (out:=out) (st:=serI L out X t k) (rows:=rwN L (exN L out X t k).2 t k (exN L out X t k).1 L.length) k j out.length (by omega)
 rw [if_pos (by omega)] at h
 exact ⟨_,h⟩
theorem ser_at {L:List Is} {out:List Int} {X:List (Int × Int)} {t:Int × Int} (ho:out.length = X.length) (j:Nat) (hj:j < X.length):∀ k,(gR (serI L out X t k) j).length = k+1
 | 0=>by
  show (gR (X.map fun p=>[p]) j).length = 1
  rw [gR_map1,if_pos hj]
  rfl
 | k+1=>by
  obtain ⟨x,h⟩:=ser_next (L:=L) (out:=out) (X:=X) (t:=t) ho k j hj
  rw [h,List.length_append,ser_at ho j hj k]
  rfl
end Go.Proofs.YtekjflfkbgklhaaGreat
namespace Go.Proofs.YtekjflfkbgklhaaGreat
set_option linter.unusedVariables false
set_option linter.unusedSimpArgs false
set_option maxRecDepth 100000
def EV (N:Int):Ex→Prop
 | .e0 x=>arI x.op = 0∧vnB N x = true
 | .e1 x a=>(arI x.op = 1∧vnB N x = true)∧EV N a
 | .e2 x a b=>(arI x.op = 2∧vnB N x = true)∧EV N a∧EV N b
theorem comp_len:∀ (ts:List Ex) (T:List Is),(compT ts T).2.length = ts.length
 | [],T=>rfl
 | t :: ts,T=>congrArg (· + 1) (comp_len ts _)
end Go.Proofs.YtekjflfkbgklhaaGreat
namespace Go.Proofs.YtekjflfkbgklhaaGreat
open Go.ChangeShapes Go.WideShapes Go.ChangeAt Go.RowKit Go.Maps
set_option linter.unusedVariables false
set_option linter.unusedSimpArgs false
set_option maxRecDepth 100000
attribute [local irreducible] Calls
theorem and255 (n:Int):bits .and .i64 n 255 = n % 256:=by
 have h127:(BitVec.ofInt 64 255).toNat = 2 ^ 8 - 1:=by decide
 have key:(BitVec.ofInt 64 n &&& BitVec.ofInt 64 255).toNat = (n % ((2 ^ 64:Nat):Int)).toNat % 2 ^ 8:=by
  rw [BitVec.toNat_and,BitVec.toNat_ofInt,h127,Nat.and_two_pow_sub_one_eq_mod]
 show IntKind.i64.wrap ((BitVec.ofInt 64 n &&& BitVec.ofInt 64 255).toNat:Nat) = n % 256
 rw [key,IntKind.wrap_i64]
 omega
end Go.Proofs.YtekjflfkbgklhaaGreat
namespace Go.Proofs.YtekjflfkbgklhaaGreat
open Go.ChangeShapes Go.WideShapes Go.ChangeAt Go.RowKit Go.Maps
set_option linter.unusedVariables false
set_option linter.unusedSimpArgs false
set_option maxRecDepth 100000
attribute [local irreducible] Calls
theorem allocs_below:∀ (L:List Obj) (w:World),Below w.heap.size w (L.foldl World.alloc w)
 | [],w=>Below.refl _ _
 | o :: L,w=>below_then ((Below.refl _ _).alloc (Nat.le_refl _) _) (allocs_below L (w.alloc o))
theorem allocs_at:∀ (L:List Obj) (w:World) (i:Nat) (o:Obj),L[i]? = some o→(L.foldl World.alloc w).heap[w.heap.size+i]? = some o
 | [],w,i,o,h=>by simp at h
 | x :: L,w,0,o,h=>by
  simp at h
  subst h
  have hb:=allocs_below L (w.alloc x)
  exact (hb.block w.heap.size (by rw [alloc_sz]; omega)).trans (World.alloc_heap_new w x)
 | x :: L,w,i+1,o,h=>by
  have:=allocs_at L (w.alloc x) i o (by simpa using h)
  rw [alloc_sz] at this
  rw [show w.heap.size+(i+1) = w.heap.size+1+i by omega]
  exact this
def Blk (W:World) (b:Nat) (o:Obj):Prop:=W.heap[b]? = some o
theorem Blk.grow {W W':World} {b:Nat} {o:Obj} (h:Blk W b o) (hB:Below W.heap.size W W'):Blk W' b o:=(hB.block b (Array.getElem?_eq_some_iff.1 h).1).trans h
theorem rx_blk {α:Type} {enc:α→List Value} {sz:Nat} (hsz:∀ x,(enc x).length = sz) {W:World} {b n:Nat} {cs:Array Value} {t:TypeId} {l:List α} (h:Blk W b (.cells cs t (0,0))) (hc:cs.toList = cr enc l) (hn:l.length = n) (hl:l.length ≤ maxLen):Rx enc sz W (.slice (some ⟨b,0,none⟩) n n) l:=by
 subst hn
 refine ⟨hl,_,_,rfl,fun i x hx=>⟨b,0,rfl,(Array.getElem?_eq_some_iff.1 h).1,fun j u hu=>?_⟩⟩
 have hcr:=cr_get hsz i x hx j u hu
 rw [← hc,Array.getElem?_toList] at hcr
 rw [Nat.zero_add]
 exact heapN_cell h hcr
theorem lx_blk {W:World} {b n:Nat} {cs:Array Value} {t:TypeId} {rows:List (List Nd)} (h:Blk W b (.cells cs t (0,0))) (hn:rows.length = n) (hl:rows.length ≤ maxLen) (he:∀ (k:Nat) (x:List Nd),rows[k]? = some x→∃ u,cs[k]? = some u∧NxO W u x):Lx NxO W (.slice (some ⟨b,0,none⟩) n n) rows:=by
 subst hn
 refine ⟨hl,_,_,rfl,fun k x hx=>?_⟩
 obtain ⟨u,h1,h2⟩:=he k x hx
 exact ⟨b,0,u,rfl,(Array.getElem?_eq_some_iff.1 h).1,by rw [Nat.zero_add]; exact heapN_cell h h1,h2⟩
theorem point_at (x:Int) (w:World) (h1:mkLo x x = x) (h2:mkHi x x = x):Calls Tryz.prog 36 #[.int .i64 x] w fun e w'=>e = .returned (.agg #[.int .i64 x,.int .i64 x])∧Below w.heap.size w w':=by
 have h:=r2point x w
 rwa [h1,h2] at h
theorem eval_at (n:Int) (vl vo vx:Value) (t1 t2:Int) (L:List Is) (out:List Int) (X R:List (Int × Int)) (w:World) (hl:Ix w vl L) (ho:Px w vo out) (hx:Vx w vx X) (hn:(X.length:Int) = n) (htv:tvB n L out = true) (hvx:∀ p ∈ X,VI p.1 p.2) (hvt:VI t1 t2) (hR:outV (evL X (t1,t2) L) out = R) :
  Calls Tryz.prog 140 #[.agg #[.int .i64 n,vl,vo],vx,.agg #[.int .i64 t1,.int .i64 t2]] w fun e w'=>∃ u,e = .returned u∧Vx w' u R∧Below w.heap.size w w':=by
 subst hn hR
 exact eval_ok vl vo vx t1 t2 L out X w hl ho hx htv hvx hvt
end Go.Proofs.YtekjflfkbgklhaaGreat
namespace Go.Proofs.YtekjflfkbgklhaaGreat
open Go.ChangeShapes Go.WideShapes Go.ChangeAt Go.RowKit Go.Maps
set_option linter.unusedVariables false
set_option linter.unusedSimpArgs false
set_option maxRecDepth 100000
attribute [local irreducible] Calls
end Go.Proofs.YtekjflfkbgklhaaGreat
namespace Go.Proofs.YtekjflfkbgklhaaGreat
open Go.ChangeShapes Go.WideShapes Go.ChangeAt Go.RowKit
set_option linter.unusedVariables false
set_option linter.unusedSimpArgs false
set_option maxRecDepth 100000
end Go.Proofs.YtekjflfkbgklhaaGreat
