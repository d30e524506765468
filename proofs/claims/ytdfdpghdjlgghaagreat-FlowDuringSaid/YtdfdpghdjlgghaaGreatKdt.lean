/-
 Ga Gb
-/
import Derived.Test.YtdfdpghdjlgghaaGreatKdq
import Derived.Test.YtdfdpghdjlgghaaGreatKds
namespace Go.Proofs.YtdfdpghdjlgghaaGreat
open Go.ChangeShapes Go.WideShapes Go.ChangeAt Go.RowKit
set_option linter.unusedVariables false
set_option linter.unusedSimpArgs false
set_option maxRecDepth 100000
theorem subB_iff {l m:List (Int × Int)} (h:m.length = l.length):subB l m = true ↔ ∀ (k:Nat) (x y:Int × Int),l[k]? = some x→m[k]? = some y→y.1 ≤ x.1∧x.2 ≤ y.2:=by
 unfold subB
 rw [List.all_eq_true]
 constructor
 ·intro H k x y hx hy
  have e:(l.zip m)[k]? = some (x,y):=List.getElem?_zip_eq_some.2 ⟨hx,hy⟩
  have:=H _ (List.mem_of_getElem? e)
  simpa [sub1] using this
 ·intro H z hz
  obtain ⟨k,hk⟩:=List.getElem?_of_mem hz
  obtain ⟨z1,z2⟩:=z
  obtain ⟨hx,hy⟩:=List.getElem?_zip_eq_some.1 hk
  have:=H k _ _ hx hy
  simp [sub1,this]
theorem hulL_at {l m:List (Int × Int)} {k:Nat} {z:Int × Int} (h:(hulL l m)[k]? = some z):∃ x y,l[k]? = some x∧m[k]? = some y∧z = (min x.1 y.1,max x.2 y.2):=by
 unfold hulL at h
 rw [List.getElem?_map] at h
 cases e:(l.zip m)[k]? with
 | none=>rw [e] at h; cases h
 | some p =>
  rw [e] at h
  obtain ⟨x,y⟩:=p
  obtain ⟨hx,hy⟩:=List.getElem?_zip_eq_some.1 e
  exact ⟨x,y,hx,hy,(Option.some.inj h).symm⟩
theorem sub_hulL {l m:List (Int × Int)} (h:m.length = l.length):subB l (hulL l m) = true:=by
 rw [subB_iff (hul_len h)]
 intro k x z hx hz
 obtain ⟨a,b,ha,hb,rfl⟩:=hulL_at hz
 rw [hx] at ha
 obtain rfl:=Option.some.inj ha
 dsimp only
 omega
theorem sub_hulR {l m:List (Int × Int)} (h:m.length = l.length):subB m (hulL l m) = true:=by
 rw [subB_iff (by rw [hul_len h,h])]
 intro k x z hx hz
 obtain ⟨a,b,ha,hb,rfl⟩:=hulL_at hz
 rw [hx] at hb
 obtain rfl:=Option.some.inj hb
 dsimp only
 omega
theorem hulL_lub {l m n:List (Int × Int)} (h:m.length = l.length) (hn:n.length = l.length) (h1:subB l n = true) (h2:subB m n = true):subB (hulL l m) n = true:=by
 rw [subB_iff hn] at h1
 rw [subB_iff (by rw [hn,h])] at h2
 rw [subB_iff (by rw [hul_len h,hn])]
 intro k z y hz hy
 obtain ⟨a,b,ha,hb,rfl⟩:=hulL_at hz
 have:=h1 k a y ha hy
 have:=h2 k b y hb hy
 dsimp only
 omega
theorem subB_trans {l m n:List (Int × Int)} (h:m.length = l.length) (hn:n.length = m.length) (h1:subB l m = true) (h2:subB m n = true):subB l n = true:=by
 rw [subB_iff h] at h1
 rw [subB_iff hn] at h2
 rw [subB_iff (by rw [hn,h])]
 intro k x z hx hz
 have hk:k < m.length:=by
  have:=(List.getElem?_eq_some_iff.1 hx).1
  omega
 have e1:=h1 k x m[k] hx (List.getElem?_eq_getElem hk)
 have e2:=h2 k m[k] z (List.getElem?_eq_getElem hk) hz
 omega
theorem subB_anti {l m:List (Int × Int)} (h:m.length = l.length) (h1:subB l m = true) (h2:subB m l = true):l = m:=by
 rw [subB_iff h] at h1
 rw [subB_iff h.symm] at h2
 apply List.ext_getElem?
 intro k
 by_cases hk:k < l.length
 ·have hm:k < m.length:=by omega
  have e1:=h1 k l[k] m[k] (List.getElem?_eq_getElem hk) (List.getElem?_eq_getElem hm)
  have e2:=h2 k m[k] l[k] (List.getElem?_eq_getElem hm) (List.getElem?_eq_getElem hk)
  rw [List.getElem?_eq_getElem hk,List.getElem?_eq_getElem hm]
  congr 1
  exact Prod.ext (by omega) (by omega)
 ·rw [List.getElem?_eq_none (by omega),List.getElem?_eq_none (by omega)]
theorem subB_self (l:List (Int × Int)):subB l l = true:=by
 rw [subB_iff rfl]
 intro k x y hx hy
 rw [hx] at hy
 obtain rfl:=Option.some.inj hy
 omega
def hulO:List (List (Int × Int))→Option (List (Int × Int))
 | []=>none
 | b :: r=>some (r.foldl hulL b)
theorem fold_len {n:Nat}:∀ (r:List (List (Int × Int))) (b:List (Int × Int)),b.length = n→(∀ x ∈ r,x.length = n)→(r.foldl hulL b).length = n
 | [],b,h,_=>h
 | a :: r,b,h,H=>fold_len r (hulL b a) (by rw [hul_len (by rw [h,H a (by simp)]),h]) (fun x hx=>H x (by simp [hx]))
theorem fold_sub {n:Nat}:∀ (r:List (List (Int × Int))) (b:List (Int × Int)),b.length = n→(∀ x ∈ r,x.length = n)→subB b (r.foldl hulL b) = true∧∀ x ∈ r,subB x (r.foldl hulL b) = true
 | [],b,h,_=>⟨subB_self b,fun x hx=>by cases hx⟩
 | a :: r,b,h,H=>by
  have ha:a.length = n:=H a (by simp)
  have hl:(hulL b a).length = n:=by rw [hul_len (by rw [h,ha]),h]
  obtain ⟨h1,h2⟩:=fold_sub r (hulL b a) hl (fun x hx=>H x (by simp [hx]))
  have hf:=fold_len r (hulL b a) hl (fun x hx=>H x (by simp [hx]))
  refine ⟨subB_trans (by rw [hl,h]) (by show (r.foldl hulL (hulL b a)).length = _; rw [hf,hl]) (sub_hulL (by rw [h,ha])) h1,fun x hx=>?_⟩
  rcases List.mem_cons.1 hx with rfl | hx
  ·exact subB_trans (by rw [hl,ha]) (by show (r.foldl hulL (hulL b x)).length = _; rw [hf,hl]) (sub_hulR (by rw [h,ha])) h1
  ·exact h2 x hx
theorem fold_lub {n:Nat} {K:List (Int × Int)} (hK:K.length = n):∀ (r:List (List (Int × Int))) (b:List (Int × Int)),b.length = n→(∀ x ∈ r,x.length = n)→subB b K = true→(∀ x ∈ r,subB x K = true)→subB (r.foldl hulL b) K = true
 | [],b,h,_,h1,_=>h1
 | a :: r,b,h,H,h1,h2=>by
  have ha:a.length = n:=H a (by simp)
  exact fold_lub hK r (hulL b a) (by rw [hul_len (by rw [h,ha]),h]) (fun x hx=>H x (by simp [hx])) (hulL_lub (by rw [h,ha]) (by rw [hK,h]) h1 (h2 a (by simp))) (fun x hx=>h2 x (by simp [hx]))
theorem hulO_some {n:Nat} {r:List (List (Int × Int))} {H:List (Int × Int)} (hr:∀ x ∈ r,x.length = n) (h:hulO r = some H) :
  H.length = n∧(∀ x ∈ r,subB x H = true)∧(∃ x,x ∈ r)∧∀ K:List (Int × Int),K.length = n→(∀ x ∈ r,subB x K = true)→subB H K = true:=by
 match r,h with
 | b :: r,h =>
  obtain rfl:=Option.some.inj h
  have hb:=hr b (by simp)
  have hh:=fun x (hx:x ∈ r)=>hr x (by simp [hx])
  obtain ⟨h1,h2⟩:=fold_sub r b hb hh
  refine ⟨fold_len r b hb hh,fun x hx=>?_,⟨b,by simp⟩,fun K hK hs=>fold_lub hK r b hb hh (hs b (by simp)) (fun x hx=>hs x (by simp [hx]))⟩
  rcases List.mem_cons.1 hx with rfl | hx
  ·exact h1
  ·exact h2 x hx
theorem hulO_none {r:List (List (Int × Int))} (h:hulO r = none):r = []:=by
 match r,h with
 | [],_=>rfl
theorem hulO_snoc (r:List (List (Int × Int))) (b:List (Int × Int)):hulO (r ++ [b]) = some (match hulO r with | none=>b | some H=>hulL H b):=by
 match r with
 | []=>rfl
 | a :: r=>show some ((r ++ [b]).foldl hulL a) = some (hulL (r.foldl hulL a) b); rw [List.foldl_append]; rfl
structure Sr where
 t:Int
 h:Int
 fp:Option Addr
 pp:Option Addr
 up:Option Addr
 ep:Option Addr
 fc:Nat
 pc:Nat
 uc:Nat
 ec:Nat
 F:List (Int × Int)
 P:List (Int × Int)
 U:List (Int × Int)
 E:List (Int × Int)
structure FlG (n:Nat) (l:List Sr):Prop where
 n1:1 ≤ n
 n6:n ≤ 6
 len:l.length ≤ 256
 box:∀ x ∈ l,x.F.length = n∧x.P.length = n∧x.U.length = n∧x.E.length = n∧AV x.F∧AV x.P∧AV x.U∧AV x.E
 tm:∀ x ∈ l,1 ≤ x.h∧x.h < 2147483648∧-2147483648 < x.t∧x.t+x.h < 2147483648
 con:∀ (i:Nat) x y,l[i]? = some x→l[i+1]? = some y→y.t = x.t+x.h
theorem FlG.next {n:Nat} {l:List Sr} (h:FlG n l) {i d:Nat} {x y:Sr} (hx:l[i]? = some x) (hy:l[i+d+1]? = some y):x.t+x.h ≤ y.t:=by
 induction d generalizing y with
 | zero=>rw [h.con i x y hx hy]; omega
 | succ d ih =>
  have hk:i+d+1 < l.length:=by
   have:=(List.getElem?_eq_some_iff.1 hy).1
   omega
  have e:=List.getElem?_eq_getElem hk
  have h1:=ih e
  have h2:=h.con _ _ _ e hy
  have h3:=h.tm _ (List.mem_of_getElem? e)
  omega
theorem FlG.le {n:Nat} {l:List Sr} (h:FlG n l) {i j:Nat} {x y:Sr} (hij:i < j) (hx:l[i]? = some x) (hy:l[j]? = some y):x.t+x.h ≤ y.t:=by
 obtain ⟨d,rfl⟩:∃ d,j = i+d+1:=⟨j - i - 1,by omega⟩
 exact h.next hx hy
theorem FlG.mono {n:Nat} {l:List Sr} (h:FlG n l) {i j:Nat} {x y:Sr} (hij:i ≤ j) (hx:l[i]? = some x) (hy:l[j]? = some y):x.t ≤ y.t∧x.t+x.h ≤ y.t+y.h:=by
 rcases Nat.lt_or_eq_of_le hij with h1 | rfl
 ·have:=h.le h1 hx hy
  have h3:=h.tm _ (List.mem_of_getElem? hx)
  have h4:=h.tm _ (List.mem_of_getElem? hy)
  omega
 ·rw [hx] at hy
  obtain rfl:=Option.some.inj hy
  omega
def Fst (p:Sr→Bool) (l:List Sr) (i:Nat):Prop:=i ≤ l.length∧(∀ (j:Nat) x,j < i→l[j]? = some x→p x = false)∧∀ (j:Nat) x,i ≤ j→l[j]? = some x→p x = true
def SrcF (p:Sr→Bool) (l:List Sr) (i j:Nat):Prop:=i ≤ j∧j ≤ l.length∧(∀ (k:Nat) x,k < i→l[k]? = some x→p x = false)∧∀ (k:Nat) x,j ≤ k→l[k]? = some x→p x = true
def MonF (p:Sr→Bool) (l:List Sr):Prop:=∀ (i j:Nat) x y,i ≤ j→l[i]? = some x→l[j]? = some y→p x = true→p y = true
theorem SrcF.start (p:Sr→Bool) (l:List Sr):SrcF p l 0 l.length:=⟨Nat.zero_le _,Nat.le_refl _,fun k x h=>by omega,fun k x h hx=>by
 have:=(List.getElem?_eq_some_iff.1 hx).1
 omega⟩
theorem SrcF.yes {p:Sr→Bool} {l:List Sr} {i j m:Nat} {x:Sr} (hm:MonF p l) (h:SrcF p l i j) (h1:i ≤ m) (h2:m < j) (hx:l[m]? = some x) (hp:p x = true):SrcF p l i m :=
 ⟨h1,by have:=h.2.1; omega,h.2.2.1,fun k y hk hy=>hm m k x y hk hx hy hp⟩
theorem SrcF.no {p:Sr→Bool} {l:List Sr} {i j m:Nat} {x:Sr} (hm:MonF p l) (h:SrcF p l i j) (h1:i ≤ m) (h2:m < j) (hx:l[m]? = some x) (hp:p x = false):SrcF p l (m+1) j :=
 ⟨h2,h.2.1,(fun k y hk hy=>by
  cases e:p y with
  | false=>rfl
  | true =>
   rw [hm k m y x (by omega) hy hx e] at hp
   cases hp),h.2.2.2⟩
theorem SrcF.fin {p:Sr→Bool} {l:List Sr} {i:Nat} (h:SrcF p l i i):Fst p l i:=⟨h.2.1,h.2.2.1,h.2.2.2⟩
theorem Fst.uniq {p:Sr→Bool} {l:List Sr} {i j:Nat} (h:Fst p l i) (g:Fst p l j):i = j:=by
 rcases Nat.lt_trichotomy i j with k | k | k
 ·have hi:i < l.length:=Nat.lt_of_lt_of_le k g.1
  have e:=List.getElem?_eq_getElem hi
  have a:=g.2.1 i _ k e
  have b:=h.2.2 i _ (Nat.le_refl _) e
  rw [a] at b
  cases b
 ·exact k
 ·have hi:j < l.length:=Nat.lt_of_lt_of_le k h.1
  have e:=List.getElem?_eq_getElem hi
  have a:=h.2.1 j _ k e
  have b:=g.2.2 j _ (Nat.le_refl _) e
  rw [a] at b
  cases b
def ltE (t:Int) (x:Sr):Bool:=decide (t < x.t+x.h)
def leE (t:Int) (x:Sr):Bool:=decide (t ≤ x.t+x.h)
theorem FlG.monLt {n:Nat} {l:List Sr} (h:FlG n l) (t:Int):MonF (ltE t) l:=fun i j x y hij hx hy hp=>by
 have:=h.mono hij hx hy
 unfold ltE at *
 have:=of_decide_eq_true hp
 exact decide_eq_true (by omega)
theorem FlG.monLe {n:Nat} {l:List Sr} (h:FlG n l) (t:Int):MonF (leE t) l:=fun i j x y hij hx hy hp=>by
 have:=h.mono hij hx hy
 unfold leE at *
 have:=of_decide_eq_true hp
 exact decide_eq_true (by omega)
def atR (l:List Sr) (t:Int) (i:Nat):Option (List (Int × Int)) :=
 match l[i]? with
 | some s=>if t < s.t then none else if t = s.t then some s.F else some s.U
 | none=>match l.getLast? with
  | none=>none
  | some s=>if t = s.t+s.h then some s.E else none
def durS (l:List Sr) (hi:Int) (i:Nat):List Sr:=(l.drop i).takeWhile (fun s=>decide (s.t ≤ hi))
def durR (l:List Sr) (hi:Int) (i:Nat):Option (List (Int × Int)):=hulO ((durS l hi i).map (·.U))
theorem mem_while {α:Type} {q:α→Bool}:∀ {d:List α} {k:Nat} {x:α},d[k]? = some x→(∀ m y,m ≤ k→d[m]? = some y→q y = true)→x ∈ d.takeWhile q
 | [],k,x,h,_=>by simp at h
 | a :: d,0,x,h,H=>by
  obtain rfl:a = x:=by simpa using h
  rw [List.takeWhile_cons,H 0 a (Nat.le_refl _) rfl]
  simp
 | a :: d,k+1,x,h,H=>by
  rw [List.takeWhile_cons,H 0 a (Nat.zero_le _) rfl]
  have:=mem_while (d:=d) (k:=k) (x:=x) (by simpa using h) (fun m y hm hy=>H (m+1) y (by omega) (by simpa using hy))
  simp [this]
theorem while_mem {α:Type} {q:α→Bool}:∀ {d:List α} {x:α},x ∈ d.takeWhile q→x ∈ d∧q x = true
 | [],x,h=>by simp at h
 | a :: d,x,h=>by
  rw [List.takeWhile_cons] at h
  by_cases c:q a = true
  ·rw [if_pos c] at h
   rcases List.mem_cons.1 h with rfl | h
   ·exact ⟨by simp,c⟩
   ·have:=while_mem h
    exact ⟨by simp [this.1],this.2⟩
  ·rw [if_neg c] at h; cases h
theorem dur_mem {n:Nat} {l:List Sr} {lo hi:Int} {i:Nat} (hb:FlG n l) (hf:Fst (leE lo) l i) (x:Sr):x ∈ durS l hi i ↔ x ∈ l∧lo ≤ x.t+x.h∧x.t ≤ hi:=by
 constructor
 ·intro h
  obtain ⟨h1,h2⟩:=while_mem h
  obtain ⟨k,hk⟩:=List.getElem?_of_mem h1
  rw [List.getElem?_drop] at hk
  exact ⟨List.mem_of_getElem? hk,of_decide_eq_true (hf.2.2 _ _ (by omega) hk),of_decide_eq_true h2⟩
 ·rintro ⟨h1,h2,h3⟩
  obtain ⟨j,hj⟩:=List.getElem?_of_mem h1
  have hij:i ≤ j:=by
   rcases Nat.lt_or_ge j i with h | h
   ·have:=hf.2.1 j x h hj
    unfold leE at this
    have:=of_decide_eq_false this
    omega
   ·exact h
  refine mem_while (k:=j - i) (by rw [List.getElem?_drop,show i+(j - i) = j by omega]; exact hj) (fun m y hm hy=>?_)
  rw [List.getElem?_drop] at hy
  have:=(hb.mono (by omega) hy hj).1
  exact decide_eq_true (by omega)
theorem take_while {α:Type} {q:α→Bool}:∀ {d:List α} {k:Nat},(∀ x ∈ d.take k,q x = true)→(∀ x,d[k]? = some x→q x = false)→d.takeWhile q = d.take k
 | [],k,_,_=>by simp
 | a :: d,0,_,H=>by
  have:=H a rfl
  rw [List.takeWhile_cons,this]
  rfl
 | a :: d,k+1,h,H=>by
  have:=h a (by simp)
  rw [List.takeWhile_cons,this,List.take_succ_cons]
  rw [if_pos rfl,take_while (k:=k) (fun x hx=>h x (by rw [List.take_succ_cons]; exact List.mem_cons_of_mem _ hx)) (fun x hx=>H x (by simpa using hx))]
def HulF (n:Nat) (l:List Sr) (lo hi:Int) (o:Option (List (Int × Int))):Prop :=
 match o with
 | none=>∀ x ∈ l,lo ≤ x.t+x.h→x.t ≤ hi→False
 | some H=>H.length = n∧(∃ x ∈ l,lo ≤ x.t+x.h∧x.t ≤ hi)∧(∀ x ∈ l,lo ≤ x.t+x.h→x.t ≤ hi→subB x.U H = true)∧∀ K:List (Int × Int),K.length = n→(∀ x ∈ l,lo ≤ x.t+x.h→x.t ≤ hi→subB x.U K = true)→subB H K = true
theorem dur_hul {n:Nat} {l:List Sr} {lo hi:Int} {i:Nat} (hb:FlG n l) (hf:Fst (leE lo) l i):HulF n l lo hi (durR l hi i):=by
 have hm:=dur_mem (hi:=hi) hb hf
 unfold durR
 have hlen:∀ b ∈ (durS l hi i).map (·.U),b.length = n:=by
  intro b h
  obtain ⟨x,hx,rfl⟩:=List.mem_map.1 h
  exact (hb.box x ((hm x).1 hx).1).2.2.1
 cases e:hulO ((durS l hi i).map (·.U)) with
 | none =>
  intro x h1 h2 h3
  have:=hulO_none e
  rw [List.map_eq_nil_iff] at this
  have hx:=(hm x).2 ⟨h1,h2,h3⟩
  rw [this] at hx
  cases hx
 | some H =>
  obtain ⟨h1,h2,⟨b,h3⟩,h4⟩:=hulO_some hlen e
  refine ⟨h1,?_,fun x a b c=>h2 _ (List.mem_map.2 ⟨x,(hm x).2 ⟨a,b,c⟩,rfl⟩),fun K hK hs=>h4 K hK fun b hb2=>?_⟩
  ·obtain ⟨x,hx,_⟩:=List.mem_map.1 h3
   exact ⟨x,(hm x).1 hx⟩
  ·obtain ⟨x,hx,rfl⟩:=List.mem_map.1 hb2
   have:=(hm x).1 hx
   exact hs x this.1 this.2.1 this.2.2
theorem HulF.mono {n:Nat} {l:List Sr} {lo hi lo2 hi2:Int} {o o2:Option (List (Int × Int))} {A:List (Int × Int)} (h:HulF n l lo hi o) (g:HulF n l lo2 hi2 o2) (h1:lo2 ≤ lo) (h2:hi ≤ hi2) (e:o = some A):∃ B,o2 = some B∧B.length = A.length∧subB A B = true:=by
 subst e
 obtain ⟨a1,⟨x,hx1,hx2,hx3⟩,a3,a4⟩:=h
 cases o2 with
 | none=>exact (g x hx1 (by omega) (by omega)).elim
 | some B =>
  obtain ⟨b1,_,b3,_⟩:=g
  exact ⟨B,rfl,by rw [b1,a1],a4 B b1 (fun y h5 h6 h7=>b3 y h5 (by omega) (by omega))⟩
theorem HulF.at {n:Nat} {l:List Sr} {lo hi t:Int} {o:Option (List (Int × Int))} {A:List (Int × Int)} (h:HulF n l lo hi o) (hb:FlG n l) (hA:A.length = n) (hx:∃ x ∈ l,x.t ≤ t∧t ≤ x.t+x.h∧subB A x.U = true) (h1:lo ≤ t) (h2:t ≤ hi):∃ B,o = some B∧B.length = A.length∧subB A B = true:=by
 obtain ⟨x,h3,h4,h5,h6⟩:=hx
 cases o with
 | none=>exact (h x h3 (by omega) (by omega)).elim
 | some B =>
  obtain ⟨b1,_,b3,_⟩:=h
  exact ⟨B,rfl,by rw [b1,hA],subB_trans (by rw [(hb.box x h3).2.2.1,hA]) (by rw [b1,(hb.box x h3).2.2.1]) h6 (b3 x h3 (by omega) (by omega))⟩
theorem subB_trans3 {l m n:List (Int × Int)} (h1:subB l m = true) (h2:subB m n = true) (hn:n.length = m.length):subB l n = true:=by
 unfold subB at *
 rw [List.all_eq_true] at *
 intro z hz
 obtain ⟨k,hk⟩:=List.getElem?_of_mem hz
 obtain ⟨z1,z2⟩:=z
 obtain ⟨hx,hy⟩:=List.getElem?_zip_eq_some.1 hk
 have hk2:k < m.length:=by
  have:=(List.getElem?_eq_some_iff.1 hy).1
  omega
 have e:=List.getElem?_eq_getElem hk2
 have a:=h1 _ (List.mem_of_getElem? (show (l.zip m)[k]? = some (z1,m[k]) from List.getElem?_zip_eq_some.2 ⟨hx,e⟩))
 have b:=h2 _ (List.mem_of_getElem? (show (m.zip n)[k]? = some (m[k],z2) from List.getElem?_zip_eq_some.2 ⟨e,hy⟩))
 simp [sub1] at a b ⊢
 omega
theorem HulF.union {n:Nat} {l:List Sr} {a b c d:Int} {A B S:List (Int × Int)} (hA:HulF n l a b (some A)) (hB:HulF n l c d (some B)) (hS:HulF n l (min a c) (max b d) (some S)) (hb:FlG n l) (hm:max a c ≤ min b d):S = hulL A B:=by
 obtain ⟨a1,_,a3,a4⟩:=hA
 obtain ⟨b1,_,b3,b4⟩:=hB
 obtain ⟨s1,_,s3,s4⟩:=hS
 have hl:(hulL A B).length = n:=by rw [hul_len (by rw [a1,b1]),a1]
 refine subB_anti (by rw [hl,s1]) (s4 _ hl fun x hx h1 h2=>?_) (hulL_lub (by rw [a1,b1]) (by rw [a1,s1]) (a4 S s1 fun x hx h1 h2=>s3 x hx (by omega) (by omega)) (b4 S s1 fun x hx h1 h2=>s3 x hx (by omega) (by omega)))
 by_cases hc:a ≤ x.t+x.h∧x.t ≤ b
 ·have hx2:=a3 x hx hc.1 hc.2
  exact subB_trans3 hx2 (sub_hulL (l:=A) (m:=B) (by rw [a1,b1])) (by rw [hl,a1])
 ·have ht:=(hb.tm x hx).1
  exact subB_trans3 (b3 x hx (by omega) (by omega)) (sub_hulR (by rw [a1,b1])) (by rw [hl,b1])

def encSr (x:Sr):List Value:=[.int .i64 x.t,.int .i64 x.h,.slice x.fp x.F.length x.fc,.slice x.pp x.P.length x.pc,.slice x.up x.U.length x.uc,.slice x.ep x.E.length x.ec]
theorem encSr_len (x:Sr):(encSr x).length = 6:=rfl
def valSr (x:Sr):Value:=.agg #[.int .i64 x.t,.int .i64 x.h,.slice x.fp x.F.length x.fc,.slice x.pp x.P.length x.pc,.slice x.up x.U.length x.uc,.slice x.ep x.E.length x.ec]
abbrev Zx:=Rx encSr 6
structure SrB (W:World) (x:Sr):Prop where
 f:Vx W (.slice x.fp x.F.length x.fc) x.F
 p:Vx W (.slice x.pp x.P.length x.pc) x.P
 u:Vx W (.slice x.up x.U.length x.uc) x.U
 e:Vx W (.slice x.ep x.E.length x.ec) x.E
theorem SrB.grow {W W':World} {x:Sr} (h:SrB W x) (hB:Below W.heap.size W W'):SrB W' x:=⟨h.f.grow hB,h.p.grow hB,h.u.grow hB,h.e.grow hB⟩
def Fx (W:World) (v:Value) (l:List Sr):Prop:=Zx W v l∧∀ x ∈ l,SrB W x
theorem Fx.grow {W W':World} {v:Value} {l:List Sr} (h:Fx W v l) (hB:Below W.heap.size W W'):Fx W' v l:=⟨h.1.grow hB,fun x hx=>(h.2 x hx).grow hB⟩
theorem Fx.cut {W:World} {v:Value} {l:List Sr} (h:Fx W v l):∃ p c,v = .slice p l.length c:=h.1.cut
theorem zx_rd {w:World} {p:Option Addr} {n c i:Nat} {l:List Sr} {x:Sr} (h:Zx w (.slice p n c) l) (hx:l[i]? = some x):∃ b o,p = some ⟨b,o,none⟩∧b < w.heap.size∧∀ g:Grown w,g.w.cell? ⟨b,o+i * 6,none⟩ = some (.int .i64 x.t)∧g.w.cell? ⟨b,o+i * 6+1,none⟩ = some (.int .i64 x.h)∧g.w.cell? ⟨b,o+i * 6+2,none⟩ = some (.slice x.fp x.F.length x.fc)∧g.w.cell? ⟨b,o+i * 6+3,none⟩ = some (.slice x.pp x.P.length x.pc)∧g.w.cell? ⟨b,o+i * 6+4,none⟩ = some (.slice x.up x.U.length x.uc)∧g.w.cell? ⟨b,o+i * 6+5,none⟩ = some (.slice x.ep x.E.length x.ec):=by
 obtain ⟨b,o,rfl,h1,rd⟩:=h.rd hx
 exact ⟨b,o,rfl,h1,fun g=>⟨rd g 0 _ rfl,rd g 1 _ rfl,rd g 2 _ rfl,rd g 3 _ rfl,rd g 4 _ rfl,rd g 5 _ rfl⟩⟩
end Go.Proofs.YtdfdpghdjlgghaaGreat
namespace Go.Proofs.YtdfdpghdjlgghaaGreat
open Go.ChangeShapes Go.WideShapes Go.ChangeAt Go.RowKit
set_option linter.unusedVariables false
set_option linter.unusedSimpArgs false
set_option maxRecDepth 100000
attribute [local irreducible] Calls
set_option maxHeartbeats 4000000 in
theorem end_ok (T H:Int) (fp pp up ep:Option Addr) (nf fc np pc nu uc ne ec:Nat) (w:World) (h1:-4294967296 ≤ T+H) (h2:T+H ≤ 4294967296) :
  Calls Tryz.prog 61 #[.agg #[.int .i64 T,.int .i64 H,.slice fp nf fc,.slice pp np pc,.slice up nu uc,.slice ep ne ec]] w fun e w'=>e = .returned (.int .i64 (T+H))∧Below w.heap.size w w':=by
 have hE:Below w.heap.size w (w.alloc (.cells #[.int .i64 T,.int .i64 H,.slice fp nf fc,.slice pp np pc,.slice up nu uc,.slice ep ne ec] 39)):=allocs_below [.cells #[.int .i64 T,.int .i64 H,.slice fp nf fc,.slice pp np pc,.slice up nu uc,.slice ep ne ec] 39] w
 have HA:=Lib.hid (show Blk (w.alloc (.cells #[.int .i64 T,.int .i64 H,.slice fp nf fc,.slice pp np pc,.slice up nu uc,.slice ep ne ec] 39)) (w.heap.size) (.cells #[.int .i64 T,.int .i64 H,.slice fp nf fc,.slice pp np pc,.slice up nu uc,.slice ep ne ec] 39) from allocs_at [.cells #[.int .i64 T,.int .i64 H,.slice fp nf fc,.slice pp np pc,.slice up nu uc,.slice ep ne ec] 39] w 0 _ rfl)
 have HW:=Lib.hid hE
 have e1:IntKind.i64.wrap (T+H) = T+H:=wrapN _ (by omega) (by omega)
 have a0:=heapN_cellj HA.out (k:=0) rfl
 have a1:=heapN_cellj HA.out (k:=1) rfl
 clear hE
 go_enter Tryz.func61,Tryz.ntmps61
 go_wp2_with (fail)
 go_ret
 exact ⟨rfl,HW.out⟩
theorem isnum_ok (x:Int) (w:World):Calls Tryz.prog 59 #[.int .i64 x] w fun e w'=>e = .returned (.bool (decide (-2147483648 < x) && decide (x < 2147483648)))∧Below w.heap.size w w':=by
 by_cases h1:-2147483648 < x
 ·by_cases h2:x < 2147483648
  ·rw [decide_eq_true h1,decide_eq_true h2]
   go_enter Tryz.func59,Tryz.ntmps59
   go_wp2_with (fail)
   go_ret
   exact ⟨rfl,Below.refl _ _⟩
  ·rw [decide_eq_true h1,decide_eq_false h2]
   go_enter Tryz.func59,Tryz.ntmps59
   go_wp2_with (fail)
   go_ret
   exact ⟨rfl,Below.refl _ _⟩
 ·rw [decide_eq_false h1]
  go_enter Tryz.func59,Tryz.ntmps59
  go_wp2_with (fail)
  go_ret
  exact ⟨rfl,Below.refl _ _⟩
set_option maxHeartbeats 4000000 in
theorem atC_ok (T H:Int) (fp pp up ep:Option Addr) (nf fc np pc nu uc ne ec:Nat) (t:Int) (cb:Nat) (w:World) (hC:Blk w cb (.cells #[.int .i64 t] 2)) (h1:-4294967296 ≤ T+H) (h2:T+H ≤ 4294967296) (r:Bool) (hr:decide (t < T+H) = r) :
  Calls Tryz.prog 70 #[.agg #[.int .i64 T,.int .i64 H,.slice fp nf fc,.slice pp np pc,.slice up nu uc,.slice ep ne ec],.pointer (some ⟨cb,0,none⟩)] w fun e w'=>e = .returned (.bool r)∧Below w.heap.size w w':=by
 have KE:=Lib.hid (fun w=>end_ok T H fp pp up ep nf fc np pc nu uc ne ec w h1 h2)
 obtain ⟨d,hd⟩:∃ d,T+H = d:=⟨_,rfl⟩
 rw [hd] at KE hr
 clear h1 h2 hd
 have hE:Below w.heap.size w (w.alloc (.cells #[.int .i64 T,.int .i64 H,.slice fp nf fc,.slice pp np pc,.slice up nu uc,.slice ep ne ec] 39)):=allocs_below [.cells #[.int .i64 T,.int .i64 H,.slice fp nf fc,.slice pp np pc,.slice up nu uc,.slice ep ne ec] 39] w
 have HA:=Lib.hid (show Blk (w.alloc (.cells #[.int .i64 T,.int .i64 H,.slice fp nf fc,.slice pp np pc,.slice up nu uc,.slice ep ne ec] 39)) (w.heap.size) (.cells #[.int .i64 T,.int .i64 H,.slice fp nf fc,.slice pp np pc,.slice up nu uc,.slice ep ne ec] 39) from allocs_at [.cells #[.int .i64 T,.int .i64 H,.slice fp nf fc,.slice pp np pc,.slice up nu uc,.slice ep ne ec] 39] w 0 _ rfl)
 have HW:=Lib.hid hE
 have HC0:=Lib.hid (hC.grow hE)
 clear hE hC
 go_enter Tryz.func70,Tryz.ntmps70
 go_wp2_with (fail)
 generalize hW0:World.alloc w _ = W0 at *
 clear hW0
 have a0:=fun g:Grown W0=>heapN_cellj (HA.out.grow g.h) (k:=0) rfl
 have a1:=fun g:Grown W0=>heapN_cellj (HA.out.grow g.h) (k:=1) rfl
 have a2:=fun g:Grown W0=>heapN_cellj (HA.out.grow g.h) (k:=2) rfl
 have a3:=fun g:Grown W0=>heapN_cellj (HA.out.grow g.h) (k:=3) rfl
 have a4:=fun g:Grown W0=>heapN_cellj (HA.out.grow g.h) (k:=4) rfl
 have a5:=fun g:Grown W0=>heapN_cellj (HA.out.grow g.h) (k:=5) rfl
 have c0:=fun g:Grown W0=>heapN_cellj (HC0.out.grow g.h) (k:=0) rfl
 refine region_pred (lk [(4,fun z_ _=>z_ = .int .i64 t),(5,fun z_ _=>z_ = .agg #[.int .i64 T,.int .i64 H,.slice fp nf fc,.slice pp np pc,.slice up nu uc,.slice ep ne ec]),(6,fun z_ _=>z_ = .int .i64 d),(7,fun z_ _=>z_ = .bool r),(3,fun z_ _=>z_ = .bool r)]) (by kernel_rfl) (by kernel_rfl) (lk_steady _ ⟨steady_eq _,steady_eq _,steady_eq _,steady_eq _,steady_eq _,trivial⟩) ?_ ?_
 ·refine ⟨?_,?_,?_,?_,?_,trivial⟩
  ·refine ob_plain [1] rfl rfl fun aa g h=>?_
   have yy0:=seen_out (v:=.pointer (some ⟨cb,0,none⟩)) rfl rfl h.1
   exact tvS (by simp [go_sem,yy0,c0 g]) rfl
  ·refine ob_plain [2] rfl rfl fun aa g h=>?_
   have yy0:=seen_out (v:=.pointer (some ⟨w.heap.size,0,none⟩)) rfl rfl h.1
   exact tvS (by simp [go_sem,yy0,a0 g,a1 g,a2 g,a3 g,a4 g,a5 g]) rfl
  ·refine ob_plain [5] rfl rfl fun aa g h=>?_
   obtain ⟨_,yy0,rfl⟩:=seen_in rfl h.1
   refine tupon_enter (f:=61) (args:=#[.agg #[.int .i64 T,.int .i64 H,.slice fp nf fc,.slice pp np pc,.slice up nu uc,.slice ep ne ec]]) (by simp [go_sem,yy0]) rfl ?_
   exact (KE.out g.w).mono fun e w' ⟨he,hB⟩=>⟨_,he,hB,rfl⟩
  ·refine ob_plain [4,6] rfl rfl fun aa g h=>?_
   obtain ⟨_,yy0,rfl⟩:=seen_in rfl h.1
   obtain ⟨_,yy1,rfl⟩:=seen_in rfl h.2.1
   exact tvS (by simp [go_sem,yy0,yy1,hr]) rfl
  ·refine ob_plain [7] rfl rfl fun aa g h=>?_
   obtain ⟨_,yy0,rfl⟩:=seen_in rfl h.1
   exact tvS (by simp [go_sem,yy0]) rfl
 rintro w5 hB _ rfl _ rfl _ rfl _ rfl _ rfl
 simp only [Act.put,List.setIfInBounds_toArray,List.set_cons_succ,List.set_cons_zero,List.filterMap_nil,finP]
 have HB9:=Lib.hid (below_then HW.out hB)
 clear hB a0 a1 a2 a3 a4 a5 c0
 go_wp2_with (fail)
 go_ret
 exact ⟨rfl,HB9.out⟩
set_option maxHeartbeats 4000000 in
theorem duC_ok (T H:Int) (fp pp up ep:Option Addr) (nf fc np pc nu uc ne ec:Nat) (lo hi:Int) (cb:Nat) (w:World) (hC:Blk w cb (.cells #[.int .i64 lo,.int .i64 hi] 66)) (h1:-4294967296 ≤ T+H) (h2:T+H ≤ 4294967296) (r:Bool) (hr:decide (lo ≤ T+H) = r) :
  Calls Tryz.prog 73 #[.agg #[.int .i64 T,.int .i64 H,.slice fp nf fc,.slice pp np pc,.slice up nu uc,.slice ep ne ec],.pointer (some ⟨cb,0,none⟩)] w fun e w'=>e = .returned (.bool r)∧Below w.heap.size w w':=by
 have KE:=Lib.hid (fun w=>end_ok T H fp pp up ep nf fc np pc nu uc ne ec w h1 h2)
 obtain ⟨d,hd⟩:∃ d,T+H = d:=⟨_,rfl⟩
 rw [hd] at KE hr
 clear h1 h2 hd
 have hE:Below w.heap.size w (w.alloc (.cells #[.int .i64 T,.int .i64 H,.slice fp nf fc,.slice pp np pc,.slice up nu uc,.slice ep ne ec] 39)):=allocs_below [.cells #[.int .i64 T,.int .i64 H,.slice fp nf fc,.slice pp np pc,.slice up nu uc,.slice ep ne ec] 39] w
 have HA:=Lib.hid (show Blk (w.alloc (.cells #[.int .i64 T,.int .i64 H,.slice fp nf fc,.slice pp np pc,.slice up nu uc,.slice ep ne ec] 39)) (w.heap.size) (.cells #[.int .i64 T,.int .i64 H,.slice fp nf fc,.slice pp np pc,.slice up nu uc,.slice ep ne ec] 39) from allocs_at [.cells #[.int .i64 T,.int .i64 H,.slice fp nf fc,.slice pp np pc,.slice up nu uc,.slice ep ne ec] 39] w 0 _ rfl)
 have HW:=Lib.hid hE
 have HC0:=Lib.hid (hC.grow hE)
 clear hE hC
 go_enter Tryz.func73,Tryz.ntmps73
 go_wp2_with (fail)
 generalize hW0:World.alloc w _ = W0 at *
 clear hW0
 have a0:=fun g:Grown W0=>heapN_cellj (HA.out.grow g.h) (k:=0) rfl
 have a1:=fun g:Grown W0=>heapN_cellj (HA.out.grow g.h) (k:=1) rfl
 have a2:=fun g:Grown W0=>heapN_cellj (HA.out.grow g.h) (k:=2) rfl
 have a3:=fun g:Grown W0=>heapN_cellj (HA.out.grow g.h) (k:=3) rfl
 have a4:=fun g:Grown W0=>heapN_cellj (HA.out.grow g.h) (k:=4) rfl
 have a5:=fun g:Grown W0=>heapN_cellj (HA.out.grow g.h) (k:=5) rfl
 have c0:=fun g:Grown W0=>heapN_cellj (HC0.out.grow g.h) (k:=0) rfl
 have c1:=fun g:Grown W0=>heapN_cellj (HC0.out.grow g.h) (k:=1) rfl
 refine region_pred (lk [(4,fun z_ _=>z_ = .pointer (some ⟨cb,0,none⟩)),(5,fun z_ _=>z_ = .int .i64 lo),(6,fun z_ _=>z_ = .agg #[.int .i64 T,.int .i64 H,.slice fp nf fc,.slice pp np pc,.slice up nu uc,.slice ep ne ec]),(7,fun z_ _=>z_ = .int .i64 d),(8,fun z_ _=>z_ = .bool r),(3,fun z_ _=>z_ = .bool r)]) (by kernel_rfl) (by kernel_rfl) (lk_steady _ ⟨steady_eq _,steady_eq _,steady_eq _,steady_eq _,steady_eq _,steady_eq _,trivial⟩) ?_ ?_
 ·refine ⟨?_,?_,?_,?_,?_,?_,trivial⟩
  ·refine ob_plain [1] rfl rfl fun aa g h=>?_
   have yy0:=seen_out (v:=.pointer (some ⟨cb,0,none⟩)) rfl rfl h.1
   exact tvS (by simp [go_sem,yy0]) rfl
  ·refine ob_plain [4] rfl rfl fun aa g h=>?_
   obtain ⟨_,yy0,rfl⟩:=seen_in rfl h.1
   exact tvS (by simp [go_sem,yy0,c0 g]) rfl
  ·refine ob_plain [2] rfl rfl fun aa g h=>?_
   have yy0:=seen_out (v:=.pointer (some ⟨w.heap.size,0,none⟩)) rfl rfl h.1
   exact tvS (by simp [go_sem,yy0,a0 g,a1 g,a2 g,a3 g,a4 g,a5 g]) rfl
  ·refine ob_plain [6] rfl rfl fun aa g h=>?_
   obtain ⟨_,yy0,rfl⟩:=seen_in rfl h.1
   refine tupon_enter (f:=61) (args:=#[.agg #[.int .i64 T,.int .i64 H,.slice fp nf fc,.slice pp np pc,.slice up nu uc,.slice ep ne ec]]) (by simp [go_sem,yy0]) rfl ?_
   exact (KE.out g.w).mono fun e w' ⟨he,hB⟩=>⟨_,he,hB,rfl⟩
  ·refine ob_plain [5,7] rfl rfl fun aa g h=>?_
   obtain ⟨_,yy0,rfl⟩:=seen_in rfl h.1
   obtain ⟨_,yy1,rfl⟩:=seen_in rfl h.2.1
   exact tvS (by simp [go_sem,yy0,yy1,hr]) rfl
  ·refine ob_plain [8] rfl rfl fun aa g h=>?_
   obtain ⟨_,yy0,rfl⟩:=seen_in rfl h.1
   exact tvS (by simp [go_sem,yy0]) rfl
 rintro w5 hB _ rfl _ rfl _ rfl _ rfl _ rfl _ rfl
 simp only [Act.put,List.setIfInBounds_toArray,List.set_cons_succ,List.set_cons_zero,List.filterMap_nil,finP]
 have HB9:=Lib.hid (below_then HW.out hB)
 clear hB a0 a1 a2 a3 a4 a5 c0 c1
 go_wp2_with (fail)
 go_ret
 exact ⟨rfl,HB9.out⟩
set_option maxHeartbeats 4000000 in
theorem fst1_ok (hid:FuncId) (hEf:∀ (args:Array Value) (w:World),(callFunc hid args).run Tryz.prog w = .ok (.enter hid args) w) (cb bh bl:Nat) (p:Option Addr) (c:Nat) (l:List Sr) (m:Nat) (x:Sr) (r:Bool) (w:World) (hx:l[m]? = some x) (hl:Zx w (.slice p l.length c) l)
  (hH:Blk w bh (.cells #[.func (.func hid) #[] #[.pointer (some ⟨cb,0,none⟩)]] 128)) (hL:Blk w bl (.cells #[.slice p l.length c] 52))
  (hc:∀ g:Grown w,Calls Tryz.prog hid #[valSr x,.pointer (some ⟨cb,0,none⟩)] g.w fun e w'=>e = .returned (.bool r)∧Below g.w.heap.size g.w w') :
  Calls Tryz.prog 106 #[.int .i64 m,.pointer (some ⟨bh,0,none⟩),.pointer (some ⟨bl,0,none⟩)] w fun e w'=>e = .returned (.bool r)∧Below w.heap.size w w':=by
 have hsm:=hl.1
 unfold maxLen at hsm
 have hm:=(List.getElem?_eq_some_iff.1 hx).1
 obtain ⟨b,o,hp,hb,rd⟩:=zx_rd hl hx
 subst hp
 obtain ⟨T,H,fp,pp,up,ep,fc,pc,uc,ec,F,P,U,E⟩:=x
 unfold valSr at hc
 dsimp only at hc rd
 generalize F.length = nf at *
 generalize P.length = np at *
 generalize U.length = nu at *
 generalize E.length = ne at *
 have KC:=Lib.hid hc
 clear hc hl hx
 generalize l.length = n at *
 have hm2:(m:Int) < n:=by omega
 have h0:=fun g:Grown w=>heapN_cellj (hH.grow g.h) (k:=0) rfl
 have l0:=fun g:Grown w=>heapN_cellj (hL.grow g.h) (k:=0) rfl
 have x0:=fun g=>(rd g).1
 have x1:=fun g=>(rd g).2.1
 have x2:=fun g=>(rd g).2.2.1
 have x3:=fun g=>(rd g).2.2.2.1
 have x4:=fun g=>(rd g).2.2.2.2.1
 have x5:=fun g=>(rd g).2.2.2.2.2
 clear rd hH hL
 go_enter Tryz.func106,Tryz.ntmps106
 go_wp2_with (fail)
 refine region_pred (lk [(5,fun z_ _=>z_ = .func (.func hid) #[] #[.pointer (some ⟨cb,0,none⟩)]),(6,fun z_ _=>z_ = .slice (some ⟨b,o,none⟩) n c),(7,fun z_ _=>z_ = .int .i64 (m:Int)),(8,fun z_ _=>z_ = .pointer (some ⟨b,o+m * 6,none⟩)),(9,fun z_ _=>z_ = .agg #[.int .i64 T,.int .i64 H,.slice fp nf fc,.slice pp np pc,.slice up nu uc,.slice ep ne ec]),(10,fun z_ _=>z_ = .bool r),(4,fun z_ _=>z_ = .bool r)]) (by kernel_rfl) (by kernel_rfl) (lk_steady _ ⟨steady_eq _,steady_eq _,steady_eq _,steady_eq _,steady_eq _,steady_eq _,steady_eq _,trivial⟩) ?_ ?_
 ·refine ⟨?_,?_,?_,?_,?_,?_,?_,trivial⟩
  ·refine ob_plain [1] rfl rfl fun aa g h=>?_
   have yy0:=seen_out (v:=.pointer (some ⟨bh,0,none⟩)) rfl rfl h.1
   exact tvS (by simp [go_sem,yy0,h0 g]) rfl
  ·refine ob_plain [2] rfl rfl fun aa g h=>?_
   have yy0:=seen_out (v:=.pointer (some ⟨bl,0,none⟩)) rfl rfl h.1
   exact tvS (by simp [go_sem,yy0,l0 g]) rfl
  ·refine ob_plain [0] rfl rfl fun aa g h=>?_
   have yy0:=seen_out (v:=.int .i64 (m:Int)) rfl rfl h.1
   exact tvS (by simp [go_sem,yy0]) rfl
  ·refine ob_plain [6,7] rfl rfl fun aa g h=>?_
   obtain ⟨_,yy0,rfl⟩:=seen_in rfl h.1
   obtain ⟨_,yy1,rfl⟩:=seen_in rfl h.2.1
   exact tvS (by simp [go_sem,yy0,yy1,hm2,hm]) rfl
  ·refine ob_plain [8] rfl rfl fun aa g h=>?_
   obtain ⟨_,yy0,rfl⟩:=seen_in rfl h.1
   exact tvS (by simp [go_sem,yy0,x0 g,x1 g,x2 g,x3 g,x4 g,x5 g]) rfl
  ·refine ob_plain [5,9] rfl rfl fun aa g h=>?_
   obtain ⟨_,yy0,rfl⟩:=seen_in rfl h.1
   obtain ⟨_,yy1,rfl⟩:=seen_in rfl h.2.1
   refine tupon_enter (f:=hid) (args:=#[.agg #[.int .i64 T,.int .i64 H,.slice fp nf fc,.slice pp np pc,.slice up nu uc,.slice ep ne ec],.pointer (some ⟨cb,0,none⟩)]) (by simp [go_sem,yy0,yy1,hEf]) rfl ?_
   exact (KC.out g).mono fun e w' ⟨he,hB⟩=>⟨_,he,hB,rfl⟩
  ·refine ob_plain [10] rfl rfl fun aa g h=>?_
   obtain ⟨_,yy0,rfl⟩:=seen_in rfl h.1
   exact tvS (by simp [go_sem,yy0]) rfl
 rintro w5 hB _ rfl _ rfl _ rfl _ rfl _ rfl _ rfl _ rfl
 simp only [Act.put,List.setIfInBounds_toArray,List.set_cons_succ,List.set_cons_zero,List.filterMap_nil,finP]
 have HB9:=Lib.hid hB
 clear hB h0 l0 x0 x1 x2 x3 x4 x5
 go_wp2_with (fail)
 go_ret
 exact ⟨rfl,HB9.out⟩
set_option maxHeartbeats 4000000 in
theorem search14 (hid:FuncId) (hEf:∀ (args:Array Value) (w:World),(callFunc hid args).run Tryz.prog w = .ok (.enter hid args) w) (cb bh bl:Nat) (p:Option Addr) (c:Nat) (l:List Sr) (q:Sr→Bool) (w:World) (hsm:l.length ≤ 256) (hm:MonF q l) (hl:Zx w (.slice p l.length c) l)
  (hH:Blk w bh (.cells #[.func (.func hid) #[] #[.pointer (some ⟨cb,0,none⟩)]] 128)) (hL:Blk w bl (.cells #[.slice p l.length c] 52))
  (hc:∀ x ∈ l,∀ W,Below w.heap.size w W→Calls Tryz.prog hid #[valSr x,.pointer (some ⟨cb,0,none⟩)] W fun e w'=>e = .returned (.bool (q x))∧Below W.heap.size W w') :
  Calls Tryz.prog 105 #[.int .i64 (l.length:Int),.func (.func 106) #[] #[.pointer (some ⟨bh,0,none⟩),.pointer (some ⟨bl,0,none⟩)]] w fun e w'=>∃ r:Nat,e = .returned (.int .i64 (r:Int))∧Fst q l r∧Below w.heap.size w w':=by
 have HC:=Lib.hid hc
 have HL:=Lib.hid hl
 have HH:=Lib.hid hH
 have HLB:=Lib.hid hL
 have HM:=Lib.hid hm
 have HS0:=Lib.hid (SrcF.start q l)
 clear hc hl hH hL hm
 go_enter Tryz.func105,Tryz.ntmps105
 go_wp2_with (fail)
 go_loopw [5,6] (fun u v wr=>∃ i j:Nat,u = .int .i64 i∧v = .int .i64 j∧Hid (SrcF q l i j)∧∃ g:Grown w,wr = g.w) (fun u v _=>(intOf v - intOf u).toNat)
 case atStart=>exact ⟨0,l.length,rfl,rfl,HS0,⟨w,Below.refl _ _⟩,rfl⟩
 case round =>
  obtain ⟨i,j,rfl,rfl,HS,g0,rfl⟩:=hrel
  have s1:=HS.out.1
  have s2:=HS.out.2.1
  by_cases hlt:i < j
  ·have hlt2:(i:Int) < j:=by omega
   obtain ⟨m,hm⟩:∃ m:Nat,((i:Int)+j) / 2 = m:=⟨(i+j) / 2,by omega⟩
   have m1:i ≤ m:=by omega
   have m2:m < j:=by omega
   obtain ⟨x,hx⟩:∃ x,l[m]? = some x:=⟨_,List.getElem?_eq_getElem (by omega)⟩
   have HX:=Lib.hid hx
   cases hb:q x with
   | true =>
    have cl:=fst1_ok hid hEf cb bh bl p c l m x true g0.w hx (HL.out.grow g0.h) (HH.out.grow g0.h) (HLB.out.grow g0.h) (fun g=>by rw [← hb]; exact HC.out x (List.mem_of_getElem? hx) g.w (below_then g0.h g.h))
    have HN:=Lib.hid (HS.out.yes HM.out m1 m2 hx hb)
    have hm3:=hm
    have HCL:=Lib.hid cl
    clear cl hb hx
    go_wp2_with (fail)
    refine HCL.out.mono ?_
    rintro e w' ⟨rfl,hB⟩
    go_wp2_with (fail)
    go_roundw
    case rel=>exact ⟨i,m,rfl,rfl,HN,⟨w',below_then g0.h hB⟩,rfl⟩
    case measure=>simp [intOf]; omega
   | false =>
    have cl:=fst1_ok hid hEf cb bh bl p c l m x false g0.w hx (HL.out.grow g0.h) (HH.out.grow g0.h) (HLB.out.grow g0.h) (fun g=>by rw [← hb]; exact HC.out x (List.mem_of_getElem? hx) g.w (below_then g0.h g.h))
    have HN:=Lib.hid (HS.out.no HM.out m1 m2 hx hb)
    have hm3:=hm
    have HCL:=Lib.hid cl
    clear cl hb hx
    go_wp2_with (fail)
    refine HCL.out.mono ?_
    rintro e w' ⟨rfl,hB⟩
    go_wp2_with (fail)
    go_roundw
    case rel=>exact ⟨m+1,j,by go_num,rfl,HN,⟨w',below_then g0.h hB⟩,rfl⟩
    case measure=>simp [intOf]; omega
  ·obtain rfl:i = j:=by omega
   go_wp2_with (fail)
   go_ret
   exact ⟨i,rfl,HS.out.fin,g0.h⟩
set_option maxHeartbeats 4000000 in
theorem first_ok (hid:FuncId) (hEf:∀ (args:Array Value) (w:World),(callFunc hid args).run Tryz.prog w = .ok (.enter hid args) w) (cb:Nat) (v:Value) (l:List Sr) (q:Sr→Bool) (w:World) (hsm:l.length ≤ 256) (hm:MonF q l) (hl:Zx w v l)
  (hc:∀ x ∈ l,∀ W,Below w.heap.size w W→Calls Tryz.prog hid #[valSr x,.pointer (some ⟨cb,0,none⟩)] W fun e w'=>e = .returned (.bool (q x))∧Below W.heap.size W w') :
  Calls Tryz.prog 69 #[v,.func (.func hid) #[] #[.pointer (some ⟨cb,0,none⟩)]] w fun e w'=>∃ r:Nat,e = .returned (.int .i64 (r:Int))∧Fst q l r∧Below w.heap.size w w':=by
 obtain ⟨p,c,rfl⟩:=hl.cut
 have hE:Below w.heap.size w ((w.alloc (.cells #[.slice p l.length c] 52)).alloc (.cells #[.func (.func hid) #[] #[.pointer (some ⟨cb,0,none⟩)]] 128)):=allocs_below [.cells #[.slice p l.length c] 52,.cells #[.func (.func hid) #[] #[.pointer (some ⟨cb,0,none⟩)]] 128] w
 have HL1:=Lib.hid (show Blk ((w.alloc (.cells #[.slice p l.length c] 52)).alloc (.cells #[.func (.func hid) #[] #[.pointer (some ⟨cb,0,none⟩)]] 128)) (w.heap.size) (.cells #[.slice p l.length c] 52) from allocs_at [.cells #[.slice p l.length c] 52,.cells #[.func (.func hid) #[] #[.pointer (some ⟨cb,0,none⟩)]] 128] w 0 _ rfl)
 have HF1:=Lib.hid (show Blk ((w.alloc (.cells #[.slice p l.length c] 52)).alloc (.cells #[.func (.func hid) #[] #[.pointer (some ⟨cb,0,none⟩)]] 128)) (w.heap.size+1) (.cells #[.func (.func hid) #[] #[.pointer (some ⟨cb,0,none⟩)]] 128) from allocs_at [.cells #[.slice p l.length c] 52,.cells #[.func (.func hid) #[] #[.pointer (some ⟨cb,0,none⟩)]] 128] w 1 _ rfl)
 have HW:=Lib.hid hE
 have KS:=Lib.hid (search14 hid hEf cb _ _ p c l q _ hsm hm (hl.grow hE) HF1.out HL1.out (fun x hx W hB=>hc x hx W (hE.trans (hB.mono hE.size))))
 have a0:=heapN_cellj HL1.out (k:=0) rfl
 clear hE hm hl hc
 go_enter Tryz.func69,Tryz.ntmps69
 go_wp2_with (fail)
 refine KS.out.mono ?_
 rintro e w5 ⟨r,rfl,hr,hB⟩
 have HR:=Lib.hid hr
 have HB9:=Lib.hid (below_then HW.out hB)
 clear hr hB a0
 go_wp2_with (fail)
 go_ret
 exact ⟨r,rfl,HR.out,HB9.out⟩
end Go.Proofs.YtdfdpghdjlgghaaGreat
