/-
 Kit Open Reg
-/
import Derived.Test.YtdfdpghdjlgghaaGreatRows
import Derived.ProofKit
import Derived.Below
import Derived.ChangeSame
import Derived.WalkKit
import Derived.OpenShut
import Derived.Handy
import Derived.Deep.QuietTactic
import Derived.BigQuiet
import Derived.Lib.Hide
import Derived.Carry
import Derived.StillTail
namespace Go.Proofs.YtdfdpghdjlgghaaGreat
open Go.RowKit Go.WideShapes Go.ChangeShapes
end Go.Proofs.YtdfdpghdjlgghaaGreat
namespace Go.Proofs.YtdfdpghdjlgghaaGreat
open Go.ChangeShapes Go.WideShapes Go.ChangeAt Go.RowKit
theorem below_drewN {B:Nat} {a w:World} (h:Below B a w) (n:Nat):Below B a (w.drewN n):=h.trans ⟨rfl,rfl,rfl,Nat.le_refl _,fun _ _=>rfl⟩
theorem below_then {a b c:World} (h:Below a.heap.size a b) (k:Below b.heap.size b c):Below a.heap.size a c:=h.trans (k.mono h.size)
theorem bcell {W w1:World} (hb:Below W.heap.size W w1):(∀ b o,b < W.heap.size→w1.cell? ⟨b,o,none⟩ = W.cell? ⟨b,o,none⟩)∧(∀ b o,b < W.heap.size→w1.frozen? ⟨b,o,none⟩ = W.frozen? ⟨b,o,none⟩) :=
 ⟨fun b o h=>hb.cell (p:=⟨b,o,none⟩) h,fun b o h=>hb.frozen (p:=⟨b,o,none⟩) h⟩
theorem ret_int {k:IntKind} {a b:Int} (h:a = b):Ending.returned (.int k a) = .returned (.int k b):=by rw [h]
theorem new_one (w:World) (u:Value) (t:TypeId):∀ j x,[u][j]? = some x→(w.alloc (.cells #[u] t)).cell? ((⟨w.heap.size,0,none⟩:Addr).add j) = some x:=by
 intro j x hj
 match j,hj with
 | 0,hj =>
  simp at hj
  subst hj
  simp [Addr.add]
end Go.Proofs.YtdfdpghdjlgghaaGreat
namespace Go.Proofs.YtdfdpghdjlgghaaGreat
open Go.ChangeShapes Go.WideShapes Go.ChangeAt Go.RowKit
variable {P:Program}
theorem ok_int {k:IntKind} {a b:Int} {w:World} (h:a = b):(Result.ok (Value.int k a) w:Result Value) = Result.ok (Value.int k b) w:=by rw [h]
theorem run_max2 (k:IntKind) (x y:Int) (w:World):(Builtin.max2 (.int k x) (.int k y)).run P w = .ok (.int k (max x y)) w:=by
 unfold Builtin.max2
 simp only [Sem.run_pure]
 refine ok_int ?_
 by_cases h:y > x
 ·simp [h]; omega
 ·simp [h]; omega
theorem run_min2 (k:IntKind) (x y:Int) (w:World):(Builtin.min2 (.int k x) (.int k y)).run P w = .ok (.int k (min x y)) w:=by
 unfold Builtin.min2
 simp only [Sem.run_pure]
 refine ok_int ?_
 by_cases h:y < x
 ·simp [h]; omega
 ·simp [h]; omega
theorem run_max_two (ts:Array TypeId) (t:TypeId) (k:IntKind) (x y:Int) (w:World):(Builtin.max_ ts t #[.int k x,.int k y]).run P w = .ok (.int k (max x y)) w:=by
 unfold Builtin.max_
 simp only [List.foldlM_cons,List.foldlM_nil,bind_pure]
 exact run_max2 k x y w
theorem run_min_two (ts:Array TypeId) (t:TypeId) (k:IntKind) (x y:Int) (w:World):(Builtin.min_ ts t #[.int k x,.int k y]).run P w = .ok (.int k (min x y)) w:=by
 unfold Builtin.min_
 simp only [List.foldlM_cons,List.foldlM_nil,bind_pure]
 exact run_min2 k x y w
theorem run_max_three (ts:Array TypeId) (t:TypeId) (k:IntKind) (x y z:Int) (w:World):(Builtin.max_ ts t #[.int k x,.int k y,.int k z]).run P w = .ok (.int k (max (max x y) z)) w:=by
 unfold Builtin.max_
 simp only [List.foldlM_cons,List.foldlM_nil,bind_pure,Sem.run_bind,run_max2,Result.andThen_ok]
end Go.Proofs.YtdfdpghdjlgghaaGreat
namespace Go.Proofs.YtdfdpghdjlgghaaGreat
open Go.RowKit Go.WideShapes Go.ChangeShapes
theorem cell_int {P:Program} {w:World} {r:Reach} {base:Nat} {u:TypeId} {k:IntKind} {v:Value} (hu:P.underlying u = some (.int k)) (h:Cell.okWide P w r base u v):∃ n,v = .int k n∧k.has n:=by
 simp only [Cell.okWide,hu] at h
 cases v <;> simp_all [Cell.ok]

theorem row_ints {P:Program} {w:World} {r:Reach} {base:Nat} {t:TypeId} {k:IntKind} {ts:List TypeId} {cs:Array Value}
  (h:Row.okWide P w r base t cs) (hts:P.cellTypes P.depth t = some ts) (hk:∀ u ∈ ts,P.underlying u = some (.int k)) :
  ∃ xs:List Int,cs = (xs.map (Value.int k)).toArray∧∀ x ∈ xs,k.has x:=by
 obtain ⟨ts',h1,_,h3⟩:=h
 rw [hts] at h1
 obtain rfl:=Option.some.inj h1
 have hc:∀ v ∈ cs.toList,∃ n,v = .int k n∧k.has n:=by
  intro v hv
  obtain ⟨i,hi,rfl⟩:=List.getElem_of_mem hv
  obtain ⟨u,hu,hok⟩:=h3 i (cs.toList[i]) (by rw [← Array.getElem?_toList]; exact List.getElem?_eq_getElem hi)
  exact cell_int (hk u (List.mem_of_getElem? hu)) hok
 have hl:∀ l:List Value,(∀ v ∈ l,∃ n,v = .int k n∧k.has n)→∃ xs:List Int,l = xs.map (Value.int k)∧∀ x ∈ xs,k.has x:=by
  intro l
  induction l with
  | nil=>exact fun _=>⟨[],rfl,by simp⟩
  | cons v l ih =>
   intro h
   obtain ⟨n,rfl,hn⟩:=h v (by simp)
   obtain ⟨xs,rfl,hx⟩:=ih (fun v hv=>h v (by simp [hv]))
   exact ⟨n :: xs,rfl,by simpa using ⟨hn,hx⟩⟩
 obtain ⟨xs,e,hx⟩:=hl _ hc
 exact ⟨xs,by apply Array.toList_inj.1; rw [e],hx⟩

theorem open_array_ints {P:Program} {w:World} {r:Reach} {base:Nat} {t e:TypeId} {n:Nat} {k:IntKind} {ts:List TypeId} {v:Value}
  (ht:P.underlying t = some (.array n e)) (h:Value.okWide P w r base t v) (hts:P.cellTypes P.depth t = some ts) (hk:∀ u ∈ ts,P.underlying u = some (.int k)) :
  ∃ xs:List Int,v = .agg (xs.map (Value.int k)).toArray∧xs.length = P.cellsOf t∧∀ x ∈ xs,k.has x:=by
 simp only [Value.okWide,ht] at h
 obtain ⟨cs,rfl,hsz,hr⟩:=h
 obtain ⟨xs,rfl,hx⟩:=row_ints hr hts hk
 exact ⟨xs,rfl,by simpa using hsz,hx⟩
theorem open_struct_ints {P:Program} {w:World} {r:Reach} {base:Nat} {t:TypeId} {fs:Array Field} {k:IntKind} {ts:List TypeId} {v:Value}
  (ht:P.underlying t = some (.struct fs)) (h:Value.okWide P w r base t v) (hts:P.cellTypes P.depth t = some ts) (hk:∀ u ∈ ts,P.underlying u = some (.int k)) :
  ∃ xs:List Int,v = .agg (xs.map (Value.int k)).toArray∧xs.length = P.cellsOf t∧∀ x ∈ xs,k.has x:=by
 simp only [Value.okWide,ht] at h
 obtain ⟨cs,rfl,hsz,hr⟩:=h
 obtain ⟨xs,rfl,hx⟩:=row_ints hr hts hk
 exact ⟨xs,rfl,by simpa using hsz,hx⟩
theorem zip_ints:∀ (ks:List IntKind) (vs:List Value),vs.length = ks.length→(∀ (i:Nat) (v:Value) (k:IntKind),vs[i]? = some v→ks[i]? = some k→∃ n,v = .int k n∧k.has n) →
  ∃ xs:List Int,vs = List.zipWith Value.int ks xs∧xs.length = ks.length∧∀ p ∈ List.zip ks xs,p.1.has p.2
 | [],[],_,_=>⟨[],rfl,rfl,by simp⟩
 | k :: ks,v :: vs,hl,h=>by
  obtain ⟨n,rfl,hn⟩:=h 0 v k (by simp) (by simp)
  obtain ⟨xs,rfl,h2,h3⟩:=zip_ints ks vs (by simpa using hl) (fun i v k hv hk=>h (i+1) v k (by simpa using hv) (by simpa using hk))
  refine ⟨n :: xs,rfl,by simp [h2],fun p hp=>?_⟩
  simp only [List.zip_cons_cons,List.mem_cons] at hp
  rcases hp with rfl | hp
  ·exact hn
  ·exact h3 p hp
 | [],_ :: _,hl,_=>by simp at hl
 | _ :: _,[],hl,_=>by simp at hl
theorem open_struct_mixed {P:Program} {w:World} {r:Reach} {base:Nat} {t:TypeId} {fs:Array Field} {ks:List IntKind} {ts:List TypeId} {v:Value}
  (ht:P.underlying t = some (.struct fs)) (h:Value.okWide P w r base t v) (hts:P.cellTypes P.depth t = some ts) (hn:P.cellsOf t = ks.length) (hlen:ts.length = ks.length) (hk:∀ p ∈ List.zip ts ks,P.underlying p.1 = some (.int p.2)) :
  ∃ xs:List Int,v = .agg (List.zipWith Value.int ks xs).toArray∧xs.length = ks.length∧∀ p ∈ List.zip ks xs,p.1.has p.2:=by
 simp only [Value.okWide,ht] at h
 obtain ⟨cs,rfl,hsz,hr⟩:=h
 obtain ⟨ts',h1,_,h3⟩:=hr
 rw [hts] at h1
 obtain rfl:=Option.some.inj h1
 obtain ⟨xs,e,hx,hh⟩:=zip_ints ks cs.toList (by rw [Array.length_toList,hsz,hn]) (fun i v k hv hkk=>by
  obtain ⟨u,hu,hok⟩:=h3 i v (by rw [← Array.getElem?_toList]; exact hv)
  refine cell_int (hk (u,k) ?_) hok
  refine List.mem_of_getElem? (i:=i) ?_
  have hi:i < ts.length:=by rw [hlen]; exact (List.getElem?_eq_some_iff.1 hkk).1
  rw [Nat.mod_eq_of_lt hi] at hu
  rw [List.getElem?_zip_eq_some]
  exact ⟨hu,hkk⟩)
 exact ⟨xs,by congr 1; apply Array.toList_inj.1; rw [e],hx,hh⟩
theorem laidOut:laidOutB Tryz.prog = true:=by kernel_rfl
end Go.Proofs.YtdfdpghdjlgghaaGreat
namespace Go.Proofs.YtdfdpghdjlgghaaGreat
open Go.RowKit
structure Grown (w0:World) where
 w:World
 h:Below w0.heap.size w0 w
instance (w0:World):Nonempty (Grown w0):=⟨⟨w0,Below.refl _ _⟩⟩
theorem Grown.cell {w0:World} (g:Grown w0) {b o:Nat} (hb:b < w0.heap.size):g.w.cell? ⟨b,o,none⟩ = w0.cell? ⟨b,o,none⟩:=g.h.cell (p:=⟨b,o,none⟩) hb
theorem Grown.frozen {w0:World} (g:Grown w0) {b o:Nat} (hb:b < w0.heap.size):g.w.frozen? ⟨b,o,none⟩ = w0.frozen? ⟨b,o,none⟩:=g.h.frozen (p:=⟨b,o,none⟩) hb
theorem grow {w0:World} (g:Grown w0) {w':World} (hb:Below g.w.heap.size g.w w'):∃ g':Grown w0,w' = g'.w:=⟨⟨w',g.h.trans (hb.mono g.h.size)⟩,rfl⟩

section
variable {P:Program} {ops:Array Oper} {w0:World}
def isAl (o:Oper):Bool:=match o.op with | .alloc _=>true | _=>false

def rUpon (P:Program) (w:World) (v:Value):Result Next→Prop
 | .ok (.value u) w'=>w' = w∧u = v
 | .ok (.enter f args) w'=>w' = w∧Calls P f args w (fun e w''=>e = .returned v∧Below w.heap.size w w'')
 | _=>False
def RQ (P:Program) (o:Oper) (a:Act) (w0:World) (v:Value):Prop:=∀ g:Grown w0,rUpon P g.w v ((execOp a.eval o).run P g.w)

def wpData (P:Program) (w0:World) (R:Act→Prop):List Oper→Act→Prop
 | [],a=>R a
 | o :: rest,a=>if isAl o = true then wpData P w0 R rest (a.put o.dst undef) else ∃ v,RQ P o a w0 v∧wpData P w0 R rest (a.put o.dst v)

def dsts (l:List Oper):List Tmp:=l.filterMap (·.dst)
def okHead:List Oper→Bool
 | []=>true
 | o :: rest=>(match o.dst with | some d=>!(dsts rest).contains d | none=>false) && o.guard.isNone && (o.looksAt #[]).all (fun t=>!(dsts (o :: rest)).contains t) && okHead rest
def sizeB (l:List Oper) (n:Nat):Bool:=(dsts l).all fun d=>decide (d < n)

theorem looks_none (o:Oper) (h:o.guard.isNone = true) (ops:Array Oper):o.looksAt ops = o.looksAt #[]:=by
 unfold Oper.looksAt
 cases hg:o.guard with
 | none=>rfl
 | some g=>rw [hg] at h; cases h

theorem exec_agree (o:Oper) (hs:∀ cs b,o.op ≠ .select cs b) (a b:Act) (h:∀ t ∈ o.looksAt #[],a.tmps[t]? = b.tmps[t]?):execOp a.eval o = execOp b.eval o:=by
 refine execOp_congr o hs fun x hx=>?_
 cases x with
 | tmp t =>
  have ht:t ∈ o.looksAt #[]:=List.mem_append_left _ (List.mem_filterMap.2 ⟨.tmp t,by simpa using hx,rfl⟩)
  simp only [Act.eval,Array.getD_eq_getD_getElem?,h t ht]
 | _=>rfl

theorem put_get_ne (a:Act) {d t:Tmp} (v:Value) (h:d ≠ t):(a.put (some d) v).tmps[t]? = a.tmps[t]?:=by
 simp [Act.put,Array.getElem?_setIfInBounds_ne h]
theorem put_get_eq (a:Act) {d:Tmp} (v:Value) (h:d < a.tmps.size):(a.put (some d) v).tmps[d]? = some v:=by
 simp [Act.put,h]
theorem put_size (a:Act) (d:Option Tmp) (v:Value):(a.put d v).tmps.size = a.tmps.size:=by
 cases d <;> simp [Act.put]
theorem put_def (a:Act) (d:Option Tmp) (v:Value):(a.put d v).defers = a.defers:=by
 cases d <;> rfl

theorem wpData_end {R:Act→Prop} (N:Nat):∀ (l:List Oper) (a:Act),okHead l = true→sizeB l N = true→(∀ o ∈ l,∀ cs b,o.op ≠ .select cs b)→a.tmps.size = N→wpData P w0 R l a →
  ∃ e:Act,R e∧e.defers = a.defers∧e.tmps.size = N∧(∀ t,t ∉ dsts l→e.tmps[t]? = a.tmps[t]?)∧∀ o ∈ l,isAl o = false→∃ d v,o.dst = some d∧e.tmps[d]? = some v∧RQ P o e w0 v
 | [],a,_,_,_,hN,h=>⟨a,h,rfl,hN,fun _ _=>rfl,fun _ h=>by cases h⟩
 | o :: rest,a,hk,hz,hs,hN,h=>by
  simp only [okHead,Bool.and_eq_true] at hk
  obtain ⟨⟨⟨hd,hg⟩,hl⟩,hr⟩:=hk
  cases hdst:o.dst with
  | none=>rw [hdst] at hd; cases hd
  | some d =>
   rw [hdst] at hd
   have hdr:d ∉ dsts rest:=by simpa using hd
   have hds:dsts (o :: rest) = d :: dsts rest:=by simp [dsts,hdst]
   have hz':sizeB rest N = true:=by
    unfold sizeB at *
    rw [hds] at hz
    simp only [List.all_cons,Bool.and_eq_true] at hz
    exact hz.2
   have hdN:d < N:=by
    unfold sizeB at hz
    rw [hds] at hz
    simp only [List.all_cons,Bool.and_eq_true,decide_eq_true_eq] at hz
    exact hz.1
   have go:∀ v,wpData P w0 R rest (a.put o.dst v)→∃ e:Act,R e∧e.defers = a.defers∧e.tmps.size = N∧(∀ t,t ∉ dsts (o :: rest)→e.tmps[t]? = a.tmps[t]?)∧e.tmps[d]? = some v ∧
     ∀ o ∈ rest,isAl o = false→∃ d v,o.dst = some d∧e.tmps[d]? = some v∧RQ P o e w0 v:=fun v hv=>by
    obtain ⟨e,h1,h2,h3,h4,h5⟩:=wpData_end N rest (a.put o.dst v) hr hz' (fun o ho=>hs o (List.mem_cons_of_mem _ ho)) (by rw [put_size,hN]) hv
    refine ⟨e,h1,by rw [h2,put_def],h3,fun t ht=>?_,?_,h5⟩
    ·rw [hds] at ht
     simp only [List.mem_cons,not_or] at ht
     rw [h4 t ht.2,hdst,put_get_ne _ _ (Ne.symm ht.1)]
    ·rw [h4 d hdr,hdst,put_get_eq _ _ (by rw [hN]; exact hdN)]
   simp only [wpData] at h
   by_cases ha:isAl o = true
   ·rw [if_pos ha] at h
    obtain ⟨e,h1,h2,h3,h4,_,h6⟩:=go _ h
    refine ⟨e,h1,h2,h3,h4,fun o' ho' hal=>?_⟩
    rcases List.mem_cons.1 ho' with rfl | ho'
    ·rw [ha] at hal; cases hal
    ·exact h6 o' ho' hal
   ·rw [if_neg ha] at h
    obtain ⟨v,hq,hw⟩:=h
    obtain ⟨e,h1,h2,h3,h4,h5,h6⟩:=go _ hw
    refine ⟨e,h1,h2,h3,h4,fun o' ho' hal=>?_⟩
    rcases List.mem_cons.1 ho' with rfl | ho'
    ·refine ⟨d,v,hdst,h5,fun g=>?_⟩
     rw [exec_agree o' (hs o' List.mem_cons_self) e a (fun t ht=>h4 t (by
      have:=List.all_eq_true.1 hl t ht
      simpa using this))]
     exact hq g
    ·exact h6 o' ho' hal

def depB (md:Region.Mode) (ops:Array Oper) (n:Nat):Bool :=
 (List.range n).all fun i=>(List.range n).all fun j =>
  match ops[i]?,ops[j]? with
  | some oi,some oj=>(match oj.dst with | some d=>!(oi.looksAt #[]).contains d | none=>true) || (Region.waitsFor md ops i j && !isAl oj)
  | _,_=>true
def backB (ops:Array Oper) (n:Nat):Bool :=
 (List.range n).all fun i=>match ops[i]? with | some o=>o.after.all (fun e=>decide (e.on < i)) | none=>false
def alB (T:TypeId) (l:List Oper):Bool:=l.all fun o=>match o.op with | .alloc t=>t == T | _=>true

structure HInv (T:TypeId) (obj:Obj) (w0:World) (e:Act) (l:List Oper) (n:Nat) (L:Array Bool) (a:Act) (w:World):Prop where
 bel:Below w0.heap.size w0 w
 dfr:a.defers = e.defers
 siz:a.tmps.size = e.tmps.size
 old:∀ t,(∀ (i:Nat) (o:Oper),i < n→l[i]? = some o→(L.getD i false = false ∨ isAl o = true)→o.dst ≠ some t)→a.tmps[t]? = e.tmps[t]?
 als:∀ (i:Nat) (o:Oper),i < n→l[i]? = some o→isAl o = true→L.getD i false = true→∃ d b,o.dst = some d∧a.tmps[d]? = some (.pointer (some ⟨b,0,none⟩))∧w0.heap.size ≤ b∧b < w.heap.size∧w.heap[b]? = some obj
 far:∀ (i:Nat) (o:Oper) (j:Nat) (o':Oper) (d d':Tmp),i < n→j < n→i ≠ j→l[i]? = some o→l[j]? = some o'→isAl o = true→isAl o' = true→L.getD i false = true→L.getD j false = true→o.dst = some d→o'.dst = some d'→a.tmps[d]? ≠ a.tmps[d']?

theorem dst_inj:∀ (l:List Oper),okHead l = true→∀ (i j:Nat) (o o':Oper) (d:Tmp),l[i]? = some o→l[j]? = some o'→o.dst = some d→o'.dst = some d→i = j
 | [],_,i,_,o,_,_,h,_,_,_=>by simp at h
 | o0 :: rest,hk,i,j,o,o',d,hi,hj,hd,hd'=>by
  simp only [okHead,Bool.and_eq_true] at hk
  obtain ⟨⟨⟨h1,_⟩,_⟩,hr⟩:=hk
  have no:∀ (k:Nat) (x:Oper),rest[k]? = some x→o0.dst = some d→x.dst = some d→False:=fun k x hx h0 hxd=>by
   rw [h0] at h1
   have:d ∉ dsts rest:=by simpa using h1
   exact this (List.mem_filterMap.2 ⟨x,List.mem_of_getElem? hx,hxd⟩)
  match i,j,hi,hj with
  | 0,0,_,_=>rfl
  | 0,j+1,hi,hj =>
   simp at hi hj
   subst hi
   exact (no j o' hj hd hd').elim
  | i+1,0,hi,hj =>
   simp at hi hj
   subst hj
   exact (no i o hi hd' hd).elim
  | i+1,j+1,hi,hj =>
   simp at hi hj
   exact congrArg (· + 1) (dst_inj rest hr i j o o' d hi hj hd hd')

theorem okHead_at:∀ (l:List Oper),okHead l = true→∀ (i:Nat) (o:Oper),l[i]? = some o→o.guard.isNone = true∧∃ d,o.dst = some d
 | [],_,i,o,h=>by simp at h
 | o0 :: rest,hk,i,o,hi=>by
  simp only [okHead,Bool.and_eq_true] at hk
  obtain ⟨⟨⟨h1,h2⟩,_⟩,hr⟩:=hk
  match i,hi with
  | 0,hi =>
   simp at hi
   subst hi
   refine ⟨h2,?_⟩
   cases hd:o0.dst with
   | none=>rw [hd] at h1; cases h1
   | some d=>exact ⟨d,rfl⟩
  | i+1,hi=>exact okHead_at rest hr i o (by simpa using hi)

theorem run_alloc {T:TypeId} {obj:Obj} (ev:Operand→Value) (o:Oper) (hop:o.op = .alloc T) (w:World)
  (hT:∀ w:World,(Instr.alloc T true (.tuple #[])).run P w = .ok (.pointer (some ⟨w.heap.size,0,none⟩)) (w.alloc obj)) :
  (execOp ev o).run P w = .ok (.value (.pointer (some ⟨w.heap.size,0,none⟩))) (w.alloc obj):=by
 obtain ⟨dst,op,type,pos,after,guard⟩:=o
 simp only at hop
 subst hop
 have h:=hT w
 show ((Instr.alloc T true (.tuple #[])) >>= fun x=>pure (.value x):Sem Next).run P w = _
 generalize Instr.alloc T true (.tuple #[]) = m at h
 simp [go_sem,h]

theorem head_step {T:TypeId} {obj:Obj} {l:List Oper} {n i:Nat} {L:Array Bool} {e a:Act} {w:World} {md:Region.Mode} {Q:Exit→Act→World→Prop} {K:Act→World→Prop}
  (hT:∀ w:World,(Instr.alloc T true (.tuple #[])).run P w = .ok (.pointer (some ⟨w.heap.size,0,none⟩)) (w.alloc obj))
  (hl:∀ k,k < n→ops[k]? = l[k]?) (hk:okHead l = true) (hz:sizeB l e.tmps.size = true) (hal:alB T l = true) (hs:∀ o ∈ l,∀ cs b,o.op ≠ .select cs b) (hdep:depB md ops n = true)
  (he:∀ o ∈ l,isAl o = false→∃ d v,o.dst = some d∧e.tmps[d]? = some v∧RQ P o e w0 v)
  (hn:n = l.length) (hi:i ∈ Region.ready md ops L) (hin:i < n) (hsz:n ≤ L.size) (I:HInv T obj w0 e l n L a w)
  (next:∀ a' w',HInv T obj w0 e l n (L.setIfInBounds i true) a' w'→K a' w'):wpOp P ops Q i K a w:=by
 obtain ⟨hun,o,ho,hall⟩:=mem_ready.1 hi
 have hol:l[i]? = some o:=by rw [← hl i hin]; exact ho
 have hmem:o ∈ l:=List.mem_of_getElem? hol
 obtain ⟨hg,d,hd⟩:=okHead_at l hk i o hol
 have hdN:d < e.tmps.size:=by
  have:=List.all_eq_true.1 hz d (List.mem_filterMap.2 ⟨o,hmem,hd⟩)
  simpa using this
 have hset:∀ k,(L.setIfInBounds i true).getD k false = if i = k then true else L.getD k false:=fun k=>by
  by_cases hik:i = k
  ·subst hik
   rw [if_pos rfl]
   simp [Array.getD_eq_getD_getElem?,show i < L.size by omega]
  ·rw [if_neg hik]
   simp [Array.getD_eq_getD_getElem?,Array.getElem?_setIfInBounds_ne hik]
 have hLi:L.getD i false = false:=getD_both hun
 have hsame:isAl o = false→execOp a.eval o = execOp e.eval o:=fun hna=>by
  refine exec_agree o (hs o hmem) a e fun t ht=>I.old t fun j oj hj hoj hor hdj=>?_
  have h1:=List.all_eq_true.1 (List.all_eq_true.1 hdep i (List.mem_range.2 hin)) j (List.mem_range.2 hj)
  have hoj':ops[j]? = some oj:=by rw [hl j hj]; exact hoj
  simp only [ho,hoj',hdj] at h1
  simp only [Bool.or_eq_true,Bool.and_eq_true,Bool.not_eq_true'] at h1
  rcases h1 with h1 | ⟨h1,h2⟩
  ·have:=(List.contains_iff_mem).2 ht
   rw [h1] at this
   cases this
  ·obtain ⟨o',ho',ed,hed,hb,hon⟩:=Region.waitsFor_spec h1
   rw [ho] at ho'
   have:=hall ed (by rw [Option.some.inj ho']; exact hed) hb
   rw [hon] at this
   rcases hor with hor | hor
   ·rw [this] at hor; cases hor
   ·rw [h2] at hor; cases hor
 -- the invariant behind a value that is not a new variable's
 have keep:∀ v w',isAl o = false→e.tmps[d]? = some v→Below w.heap.size w w'→HInv T obj w0 e l n (L.setIfInBounds i true) (a.put o.dst v) w':=fun v w' hna hv hb=>by
  refine ⟨I.bel.trans (hb.mono I.bel.size),by rw [put_def,I.dfr],by rw [put_size,I.siz],fun t ht=>?_,fun j oj hj hoj haj hLj=>?_,fun j oj k ok dj dk hj hk' hjk hoj hok haj hak hLj hLk hdj hdk=>?_⟩
  ·by_cases htd:d = t
   ·subst htd
    rw [hd,put_get_eq _ _ (by rw [I.siz]; exact hdN),hv]
   ·rw [hd,put_get_ne _ _ htd]
    refine I.old t fun j oj hj hoj hor hdj=>?_
    refine ht j oj hj hoj ?_ hdj
    rw [hset]
    by_cases hij:i = j
    ·subst hij
     rw [hol] at hoj
     have:=Option.some.inj hoj
     subst this
     rw [hd] at hdj
     exact absurd (Option.some.inj hdj) htd
    ·rw [if_neg hij]; exact hor
  ·rw [hset] at hLj
   have hij:i ≠ j:=fun h=>by subst h; rw [hol] at hoj; rw [Option.some.inj hoj] at hna; rw [hna] at haj; cases haj
   rw [if_neg hij] at hLj
   obtain ⟨dj,b,h1,h2,h3,h4,h5⟩:=I.als j oj hj hoj haj hLj
   have hne:d ≠ dj:=fun h=>hij (dst_inj l hk i j o oj d hol hoj hd (by rw [h]; exact h1))
   exact ⟨dj,b,h1,by rw [hd,put_get_ne _ _ hne]; exact h2,h3,Nat.lt_of_lt_of_le h4 hb.size,by rw [hb.block b h4]; exact h5⟩
  ·rw [hset] at hLj hLk
   have hij:i ≠ j:=fun h=>by subst h; rw [hol] at hoj; rw [Option.some.inj hoj] at hna; rw [hna] at haj; cases haj
   have hik:i ≠ k:=fun h=>by subst h; rw [hol] at hok; rw [Option.some.inj hok] at hna; rw [hna] at hak; cases hak
   rw [if_neg hij] at hLj
   rw [if_neg hik] at hLk
   have hne:d ≠ dj:=fun h=>hij (dst_inj l hk i j o oj d hol hoj hd (by rw [h]; exact hdj))
   have hne':d ≠ dk:=fun h=>hik (dst_inj l hk i k o ok d hol hok hd (by rw [h]; exact hdk))
   rw [hd,put_get_ne _ _ hne,put_get_ne _ _ hne']
   exact I.far j oj k ok dj dk hj hk' hjk hoj hok haj hak hLj hLk hdj hdk
 have hwant:Region.wanted o (yielded ops a.tmps) = true:=by
  unfold Region.wanted
  cases hgo:o.guard with
  | none=>rfl
  | some x=>rw [hgo] at hg; cases hg
 unfold wpOp
 simp only [ho,hwant,if_true]
 refine .inl ?_
 unfold Oper.wp
 by_cases hna:isAl o = false
 ·rw [hsame hna]
  obtain ⟨d',v,hd',hv,hq⟩:=he o hmem hna
  rw [hd] at hd'
  have:=Option.some.inj hd'
  subst this
  have h3:=hq ⟨w,I.bel⟩
  simp only at h3
  generalize (execOp e.eval o).run P w = r at *
  cases r with
  | ok x w' =>
   cases x <;> simp only [rUpon] at h3 <;> simp only [Oper.upon]
   case value u =>
    obtain ⟨e1,e2⟩:=h3
    rw [e1,e2]
    exact next _ _ (keep v w hna hv (Below.refl _ _))
   case enter f args =>
    obtain ⟨e1,hc⟩:=h3
    rw [e1]
    exact hc.mono fun e w'' ⟨he,hw''⟩=>by subst he; exact next _ _ (keep v w'' hna hv hw'')
  | halt x w'=>simp only [rUpon] at h3
 ·have hya:isAl o = true:=by simpa using hna
  have hop:o.op = .alloc T:=by
   have h1:=List.all_eq_true.1 hal o hmem
   unfold isAl at hya
   split at hya
   ·rename_i t ht
    rw [ht] at h1
    simp only [beq_iff_eq] at h1
    rw [ht,h1]
   ·cases hya
  have hrun:(execOp a.eval o).run P w = .ok (.value (.pointer (some ⟨w.heap.size,0,none⟩))) (w.alloc obj):=run_alloc a.eval o hop w hT
  rw [hrun]
  simp only [Oper.upon]
  have hbl:Below w.heap.size w (w.alloc obj):=(Below.refl _ _).alloc (Nat.le_refl _) _
  have hnew:(w.alloc obj).heap[w.heap.size]? = some obj:=by
   show (w.heap.push obj)[w.heap.size]? = _
   simp
  refine next _ _ ⟨I.bel.trans (hbl.mono I.bel.size),by rw [put_def,I.dfr],by rw [put_size,I.siz],fun t ht=>?_,fun j oj hj hoj haj hLj=>?_,fun j oj k ok dj dk hj hk' hjk hoj hok haj hak hLj hLk hdj hdk=>?_⟩
  ·by_cases htd:d = t
   ·subst htd
    exact absurd hd (ht i o hin hol (.inr hya))
   ·rw [hd,put_get_ne _ _ htd]
    refine I.old t fun j oj hj hoj hor hdj=>?_
    refine ht j oj hj hoj ?_ hdj
    rw [hset]
    by_cases hij:i = j
    ·subst hij
     rw [hol] at hoj
     exact .inr (by rw [← Option.some.inj hoj]; exact hya)
    ·rw [if_neg hij]; exact hor
  ·by_cases hij:i = j
   ·subst hij
    rw [hol] at hoj
    have:=Option.some.inj hoj
    subst this
    exact ⟨d,w.heap.size,hd,by rw [hd,put_get_eq _ _ (by rw [I.siz]; exact hdN)],I.bel.size,by simp,hnew⟩
   ·rw [hset,if_neg hij] at hLj
    obtain ⟨dj,b,h1,h2,h3,h4,h5⟩:=I.als j oj hj hoj haj hLj
    have hne:d ≠ dj:=fun h=>hij (dst_inj l hk i j o oj d hol hoj hd (by rw [h]; exact h1))
    exact ⟨dj,b,h1,by rw [hd,put_get_ne _ _ hne]; exact h2,h3,Nat.lt_of_lt_of_le h4 hbl.size,by rw [hbl.block b h4]; exact h5⟩
  ·have one:∀ j oj dj,j < n→l[j]? = some oj→isAl oj = true→i ≠ j→(L.setIfInBounds i true).getD j false = true→oj.dst = some dj→(a.put o.dst (.pointer (some ⟨w.heap.size,0,none⟩))).tmps[dj]? = a.tmps[dj]?∧a.tmps[dj]? ≠ some (.pointer (some ⟨w.heap.size,0,none⟩)):=fun j oj dj hj hoj haj hij hLj hdj=>by
    rw [hset,if_neg hij] at hLj
    obtain ⟨dj',b,h1,h2,h3,h4,h5⟩:=I.als j oj hj hoj haj hLj
    rw [hdj] at h1
    have:=Option.some.inj h1
    subst this
    have hne:d ≠ dj:=fun h=>hij (dst_inj l hk i j o oj d hol hoj hd (by rw [h]; exact hdj))
    refine ⟨by rw [hd,put_get_ne _ _ hne],?_⟩
    rw [h2]
    intro h
    simp only [Option.some.injEq,Value.pointer.injEq,Addr.mk.injEq] at h
    omega
   have own:(a.put o.dst (.pointer (some ⟨w.heap.size,0,none⟩))).tmps[d]? = some (.pointer (some ⟨w.heap.size,0,none⟩)):=by rw [hd,put_get_eq _ _ (by rw [I.siz]; exact hdN)]
   by_cases hij:i = j
   ·subst hij
    rw [hol] at hoj
    have:=Option.some.inj hoj
    subst this
    rw [hd] at hdj
    have:=Option.some.inj hdj
    subst this
    obtain ⟨h1,h2⟩:=one k ok dk hk' hok hak hjk hLk hdk
    rw [own,h1]
    exact Ne.symm h2
   ·by_cases hik:i = k
    ·subst hik
     rw [hol] at hok
     have:=Option.some.inj hok
     subst this
     rw [hd] at hdk
     have:=Option.some.inj hdk
     subst this
     obtain ⟨h1,h2⟩:=one j oj dj hj hoj haj hij hLj hdj
     rw [own,h1]
     exact h2
    ·obtain ⟨h1,_⟩:=one j oj dj hj hoj haj hij hLj hdj
     obtain ⟨h2,_⟩:=one k ok dk hk' hok hak hik hLk hdk
     rw [h1,h2]
     rw [hset,if_neg hij] at hLj
     rw [hset,if_neg hik] at hLk
     exact I.far j oj k ok dj dk hj hk' hjk hoj hok haj hak hLj hLk hdj hdk
end
end Go.Proofs.YtdfdpghdjlgghaaGreat
namespace Go.Proofs.YtdfdpghdjlgghaaGreat
open Go.RowKit
def alDsts (l:List Oper):List Tmp:=l.filterMap fun o=>if isAl o then o.dst else none
def finK (obj:Obj) (w0 w':World) (K:Act→Prop):List Tmp→List Nat→Act→Prop
 | [],_,a=>K a
 | d :: r,bs,a=>∀ b,w0.heap.size ≤ b→b < w'.heap.size→(∀ x ∈ bs,x ≠ b)→w'.heap[b]? = some obj→finK obj w0 w' K r (b :: bs) (a.put (some d) (.pointer (some ⟨b,0,none⟩)))

theorem act_ext {a b:Act} (h1:a.defers = b.defers) (h2:a.tmps.size = b.tmps.size) (h:∀ t:Nat,a.tmps[t]? = b.tmps[t]?):a = b:=by
 obtain ⟨ta,da⟩:=a
 obtain ⟨tb,db⟩:=b
 simp only at *
 subst h1
 congr 1
 exact Array.ext_getElem? h

theorem fin_ok {obj:Obj} {w0 w':World} {K:Act→Prop} {a:Act}:∀ (ds:List Tmp) (bs:List Nat) (e:Act),ds.Nodup→e.defers = a.defers→e.tmps.size = a.tmps.size→(∀ d ∈ ds,d < a.tmps.size) →
  (∀ d ∈ ds,∃ b,a.tmps[d]? = some (.pointer (some ⟨b,0,none⟩))∧w0.heap.size ≤ b∧b < w'.heap.size∧w'.heap[b]? = some obj∧∀ x ∈ bs,x ≠ b) →
  (∀ d ∈ ds,∀ d' ∈ ds,d ≠ d'→a.tmps[d]? ≠ a.tmps[d']?)→(∀ t,t ∉ ds→a.tmps[t]? = e.tmps[t]?)→finK obj w0 w' K ds bs e→K a
 | [],_,e,_,h1,h2,_,_,_,h5,h=>by
  have:a = e:=act_ext h1.symm h2.symm fun t=>h5 t (by simp)
  rw [this]
  exact h
 | d :: r,bs,e,hn,h1,h2,hz,h3,h4,h5,h=>by
  obtain ⟨b,p1,p2,p3,p4,p5⟩:=h3 d List.mem_cons_self
  have hn':=List.nodup_cons.1 hn
  have hd:d < e.tmps.size:=by rw [h2]; exact hz d List.mem_cons_self
  refine fin_ok r (b :: bs) (e.put (some d) (.pointer (some ⟨b,0,none⟩))) hn'.2 (by rw [put_def,h1]) (by rw [put_size,h2]) (fun d' hd'=>hz d' (List.mem_cons_of_mem _ hd')) (fun d' hd'=>?_) (fun x hx y hy=>h4 x (List.mem_cons_of_mem _ hx) y (List.mem_cons_of_mem _ hy)) (fun t ht=>?_) (h b p2 p3 p5 p4)
  ·obtain ⟨b',q1,q2,q3,q4,q5⟩:=h3 d' (List.mem_cons_of_mem _ hd')
   refine ⟨b',q1,q2,q3,q4,fun x hx=>?_⟩
   rcases List.mem_cons.1 hx with rfl | hx
   ·have hne:d ≠ d':=fun hh=>hn'.1 (hh ▸ hd')
    have:=h4 d List.mem_cons_self d' (List.mem_cons_of_mem _ hd') hne
    rw [p1,q1] at this
    intro hh
    exact this (by rw [hh])
   ·exact q5 x hx
  ·by_cases htd:d = t
   ·subst htd
    rw [put_get_eq _ _ hd,p1]
   ·rw [put_get_ne _ _ htd]
    exact h5 t (by simp only [List.mem_cons,not_or]; exact ⟨Ne.symm htd,ht⟩)

theorem cnt_set (p q:Nat→Bool) (i:Nat) (hp:p i = true) (hq:q i = false) (h:∀ j,j ≠ i→q j = p j):∀ n,(List.range n).countP q+(if i < n then 1 else 0) = (List.range n).countP p
 | 0=>by simp
 | n+1=>by
  have ih:=cnt_set p q i hp hq h n
  rw [List.range_succ,List.countP_append,List.countP_append]
  simp only [List.countP_cons,List.countP_nil]
  by_cases hin:n = i
  ·subst hin
   rw [hp,hq]
   simp at ih ⊢
   omega
  ·rw [h n hin]
   by_cases hlt:i < n
   ·rw [if_pos hlt] at ih
    rw [if_pos (show i < n+1 by omega)]
    omega
   ·rw [if_neg hlt] at ih
    rw [if_neg (show ¬ i < n+1 by omega)]
    omega

def cnt (n:Nat) (L:Array Bool):Nat:=(List.range n).countP fun i=>!L.getD i true

def headB (l:List Oper) (n:Nat) (T:TypeId) (N:Nat):Bool :=
 okHead (l.take n) && sizeB (l.take n) N && alB T (l.take n) && Region.noSelect l.toArray && depB .any l.toArray n && backB l.toArray n && decide (n < l.length) && Region.sinkB .any l.toArray n && Region.chainB .any l.toArray n &&
  Region.seqB .any l.toArray (l.length - n) n (Array.replicate n true ++ Array.replicate (l.length - n) false)

section
variable {P:Program} {w0:World}
theorem head_any {T:TypeId} {obj:Obj} {l:List Oper} {n:Nat} {e:Act} {Q:Exit→Act→World→Prop}
  (hT:∀ w:World,(Instr.alloc T true (.tuple #[])).run P w = .ok (.pointer (some ⟨w.heap.size,0,none⟩)) (w.alloc obj))
  (hB:headB l n T e.tmps.size = true)
  (he:∀ o ∈ l.take n,isAl o = false→∃ d v,o.dst = some d∧e.tmps[d]? = some v∧RQ P o e w0 v)
  (hfin:∀ w',Below w0.heap.size w0 w'→finK obj w0 w' (fun a=>wpList P l.toArray Q (l.drop n) a w') (alDsts (l.take n)) [] e) :
  ∀ (f:Nat) (L:Array Bool) (a:Act) (w:World),cnt n L = f→HeadInv .any l.toArray n L→HInv T obj w0 e (l.take n) n L a w→wpAny P .any l.toArray Q (f+(l.length - n)) L a w:=by
 simp only [headB,Bool.and_eq_true,decide_eq_true_eq] at hB
 obtain ⟨⟨⟨⟨⟨⟨⟨⟨⟨b1,b2⟩,b3⟩,b4⟩,b5⟩,b6⟩,b7⟩,b8⟩,b9⟩,b10⟩:=hB
 have hlen:(l.take n).length = n:=by rw [List.length_take]; omega
 have hl:∀ k,k < n→l.toArray[k]? = (l.take n)[k]?:=fun k hk=>by
  rw [List.getElem?_take_of_lt hk]
  simp
 have hsel:∀ o ∈ l.take n,∀ cs b,o.op ≠ .select cs b:=fun o ho cs b=>by
  obtain ⟨k,hk⟩:=List.getElem?_of_mem ho
  have hkn:k < n:=by
   have:=(List.getElem?_eq_some_iff.1 hk).1
   omega
  exact Region.noSelect_spec b4 k o cs b (by rw [hl k hkn]; exact hk)
 have listedAll:∀ (L:Array Bool),L.size = l.toArray.size→cnt n L = 0→∀ i,i < n→L.getD i true = true:=fun L _ h0 i hi=>by
  unfold cnt at h0
  have:=List.countP_eq_zero.1 h0 i (List.mem_range.2 hi)
  simpa using this
 intro f
 induction f with
 | zero =>
  intro L a w hc inv I
  have hall:=listedAll L inv.size hc
  have hLe:L = Array.replicate n true ++ Array.replicate (l.length - n) false:=by
   refine Array.ext (by rw [inv.size]; simp; omega) fun i hi hi'=>?_
   by_cases hin:i < n
   ·have:=hall i hin
    simp [hi] at this
    rw [this,Array.getElem_append_left (by simpa using hin)]
    simp
   ·have h2:i < l.toArray.size:=by rw [← inv.size]; exact hi
    have:=inv.tail i (by omega) h2
    simp [hi] at this
    rw [this,Array.getElem_append_right (by simp; omega)]
    simp
  rw [Nat.zero_add]
  have hd:(l.drop n).length = l.length - n:=by simp
  rw [← hd]
  refine wpAny_of_seq (l.drop n) n L a w (fun j=>by simp [List.getElem?_drop]) (by rw [hd,hLe]; exact b10) ?_
  have hN:(alDsts (l.take n)).Nodup:=by
   have:∀ (m:List Oper),okHead m = true→(alDsts m).Nodup∧∀ d ∈ alDsts m,d ∈ dsts m:=fun m=>by
    induction m with
    | nil=>intro _; simp [alDsts]
    | cons o r ih =>
     intro hk
     simp only [okHead,Bool.and_eq_true] at hk
     obtain ⟨⟨⟨h1,_⟩,_⟩,hr⟩:=hk
     obtain ⟨q1,q2⟩:=ih hr
     cases hd:o.dst with
     | none=>rw [hd] at h1; cases h1
     | some d =>
      rw [hd] at h1
      have hnd:d ∉ dsts r:=by simpa using h1
      have hds:dsts (o :: r) = d :: dsts r:=by simp [dsts,hd]
      by_cases ha:isAl o = true
      ·have hal:alDsts (o :: r) = d :: alDsts r:=by simp [alDsts,ha,hd]
       rw [hal,hds]
       exact ⟨List.nodup_cons.2 ⟨fun h=>hnd (q2 d h),q1⟩,fun x hx=>by
        rcases List.mem_cons.1 hx with rfl | hx
        ·exact List.mem_cons_self
        ·exact List.mem_cons_of_mem _ (q2 x hx)⟩
      ·have hal:alDsts (o :: r) = alDsts r:=by simp [alDsts,ha]
       rw [hal,hds]
       exact ⟨q1,fun x hx=>List.mem_cons_of_mem _ (q2 x hx)⟩
   exact (this _ b1).1
  have mem:∀ d ∈ alDsts (l.take n),∃ i o,i < n∧(l.take n)[i]? = some o∧isAl o = true∧o.dst = some d:=fun d hd=>by
   obtain ⟨o,ho,h1⟩:=List.mem_filterMap.1 hd
   obtain ⟨i,hi⟩:=List.getElem?_of_mem ho
   have hin:i < n:=by
    have:=(List.getElem?_eq_some_iff.1 hi).1
    omega
   by_cases ha:isAl o = true
   ·rw [if_pos ha] at h1
    exact ⟨i,o,hin,hi,ha,h1⟩
   ·rw [if_neg ha] at h1
    cases h1
  have lst:∀ i,i < n→L.getD i false = true:=fun i hi=>by
   have:=hall i hi
   have hs:i < L.size:=by rw [inv.size]; simp; omega
   simp [hs] at this ⊢
   exact this
  refine fin_ok (alDsts (l.take n)) [] e hN I.dfr.symm I.siz.symm (fun d hd=>?_) (fun d hd=>?_) (fun d hd d' hd' hne=>?_) (fun t ht=>?_) (hfin w I.bel)
  ·obtain ⟨i,o,hi,ho,ha,hdo⟩:=mem d hd
   have:=List.all_eq_true.1 b2 d (List.mem_filterMap.2 ⟨o,List.mem_of_getElem? ho,hdo⟩)
   rw [I.siz]
   simpa using this
  ·obtain ⟨i,o,hi,ho,ha,hdo⟩:=mem d hd
   obtain ⟨d',b,h1,h2,h3,h4,h5⟩:=I.als i o hi ho ha (lst i hi)
   rw [hdo] at h1
   have:=Option.some.inj h1
   subst this
   exact ⟨b,h2,h3,h4,h5,by simp⟩
  ·obtain ⟨i,o,hi,ho,ha,hdo⟩:=mem d hd
   obtain ⟨j,o',hj,ho',ha',hdo'⟩:=mem d' hd'
   exact I.far i o j o' d d' hi hj (fun hij=>hne (by
    subst hij
    rw [ho] at ho'
    have:=Option.some.inj ho'
    subst this
    rw [hdo] at hdo'
    exact Option.some.inj hdo')) ho ho' ha ha' (lst i hi) (lst j hj) hdo hdo'
  ·refine I.old t fun i o hi ho hor hdt=>?_
   rcases hor with hor | hor
   ·rw [lst i hi] at hor; cases hor
   ·exact ht (List.mem_filterMap.2 ⟨o,List.mem_of_getElem? ho,by rw [if_pos hor]; exact hdt⟩)
 | succ f ih =>
  intro L a w hc inv I
  -- some operation of the head has not come up
  have hex:∃ i,i < n∧L.getD i true = false:=by
   by_cases h:∃ i,i < n∧L.getD i true = false
   ·exact h
   ·exfalso
    have:cnt n L = 0:=by
     unfold cnt
     refine List.countP_eq_zero.2 fun i hi=>?_
     have hin:=List.mem_range.1 hi
     cases hh:L.getD i true with
     | true=>simp
     | false=>exact absurd ⟨i,hin,hh⟩ h
    omega
  obtain ⟨i0,hi0,hu0⟩:=hex
  have hne:Region.ready .any l.toArray L ≠ []:=fun h0=>by
   have all:∀ i,i < n→L.getD i false = true:=fun i=>by
    induction i using Nat.strongRecOn with
    | _ i ihh =>
     intro hi
     cases hh:L.getD i false with
     | true=>rfl
     | false =>
      exfalso
      have hs:i < L.size:=by rw [inv.size]; simp; omega
      have hsl:i < l.length:=by omega
      have hmem:i ∈ Region.ready .any l.toArray L:=mem_ready.2 ⟨getD_in hs hh,l[i],by simp [hsl],fun ed hed hb=>by
       have h1:=List.all_eq_true.1 b6 i (List.mem_range.2 hi)
       have ho:l.toArray[i]? = some l[i]:=by simp [hsl]
       simp only [ho] at h1
       have h2:=(Array.all_eq_true'.1 h1) ed hed
       simp only [decide_eq_true_eq] at h2
       exact ihh ed.on h2 (by omega)⟩
      rw [h0] at hmem
      cases hmem
   have:=all i0 hi0
   rw [getD_both hu0] at this
   cases this
  rw [show f+1+(l.length - n) = (f+(l.length - n))+1 by omega]
  refine ⟨fun h0=>absurd h0 hne,fun i hi=>?_⟩
  have hin:i < n:=by
   rcases Nat.lt_or_ge i n with h | h
   ·exact h
   ·exact absurd hi (tail_waits b8 b9 (by simpa using b7) inv _ i0 rfl hi0 hu0 i h)
  have hun:=(mem_ready.1 hi).1
  refine head_step hT hl b1 b2 b3 hsel b5 he hlen.symm hi hin (by rw [inv.size]; simp; omega) I fun a' w' I'=>ih _ a' w' ?_ (inv.set hi hin) I'
  have hs:i < L.size:=by rw [inv.size]; simp; omega
  have:=cnt_set (fun k=>!L.getD k true) (fun k=>!(L.setIfInBounds i true).getD k true) i (by show (!L.getD i true) = true; rw [hun]; rfl) (by simp [Array.getD_eq_getD_getElem?,hs]) (fun j hj=>by
   simp only [Array.getD_eq_getD_getElem?,Array.getElem?_setIfInBounds_ne (Ne.symm hj)]) n
  rw [if_pos hin] at this
  unfold cnt at *
  omega

theorem region_data {id:Nat} {Q:Exit→Act→World→Prop} {a:Act} {w:World} {l:List Oper} (n:Nat) (T:TypeId) (obj:Obj) (hm:P.follows .mixedOrders = true)
  (hT:∀ w:World,(Instr.alloc T true (.tuple #[])).run P w = .ok (.pointer (some ⟨w.heap.size,0,none⟩)) (w.alloc obj))
  (hB:headB l n T a.tmps.size = true)
  (h:wpData P w (fun e=>∀ w',Below w.heap.size w w'→finK obj w w' (fun a=>wpList P l.toArray Q (l.drop n) a w') (alDsts (l.take n)) [] e) (l.take n) a):(Code.region id l.toArray true).wp P Q a w:=by
 have hB':=hB
 simp only [headB,Bool.and_eq_true,decide_eq_true_eq] at hB'
 obtain ⟨⟨⟨⟨⟨⟨⟨⟨⟨b1,b2⟩,b3⟩,b4⟩,b5⟩,b6⟩,b7⟩,b8⟩,b9⟩,b10⟩:=hB'
 have hlen:(l.take n).length = n:=by rw [List.length_take]; omega
 have hsel:∀ o ∈ l.take n,∀ cs b,o.op ≠ .select cs b:=fun o ho cs b=>by
  obtain ⟨k,hk⟩:=List.getElem?_of_mem ho
  have hkn:k < n:=by
   have:=(List.getElem?_eq_some_iff.1 hk).1
   omega
  refine Region.noSelect_spec b4 k o cs b ?_
  rw [List.getElem?_take_of_lt hkn] at hk
  simpa using hk
 obtain ⟨e,h1,h2,h3,h4,h5⟩:=wpData_end a.tmps.size (l.take n) a b1 b2 hsel rfl h
 refine wp_region_any hm ?_
 have hsz:l.toArray.size = n+(l.length - n):=by simp; omega
 have:=head_any (w0:=w) (T:=T) (obj:=obj) (Q:=Q) hT (by rw [h3]; exact hB) h5 h1 n (Array.replicate l.toArray.size false) a { w with drawn:=w.drawn+1 } ?_ ?_ ?_
 ·rw [← hsz] at this
  exact this
 ·unfold cnt
  have:(List.range n).countP (fun i=>!(Array.replicate l.toArray.size false).getD i true) = (List.range n).length:=by
   refine List.countP_eq_length.2 fun i hi=>?_
   have hi':=List.mem_range.1 hi
   have hs:i < l.length:=by omega
   simp [Array.getD_eq_getD_getElem?,hs]
  simpa using this
 ·refine ⟨by simp,fun j oj hj hl=>?_,fun t ht ht'=>?_⟩
  ·rw [getD_replicate_false] at hl; cases hl
  ·simp only [List.size_toArray] at ht'
   simp [Array.getD_eq_getD_getElem?,ht']
 ·refine ⟨⟨rfl,rfl,rfl,Nat.le_refl _,fun _ _=>rfl⟩,h2.symm,h3.symm,fun t ht=>?_,fun i o _ _ _ hL=>?_,fun i o j o' d d' _ _ _ _ _ _ _ hL=>?_⟩
  ·refine (h4 t fun htd=>?_).symm
   obtain ⟨o,ho,hdo⟩:=List.mem_filterMap.1 htd
   obtain ⟨i,hi⟩:=List.getElem?_of_mem ho
   have hin:i < n:=by
    have:=(List.getElem?_eq_some_iff.1 hi).1
    omega
   exact ht i o hin hi (.inl (getD_replicate_false _ _)) hdo
  ·rw [getD_replicate_false] at hL; cases hL
  ·rw [getD_replicate_false] at hL; cases hL
end
end Go.Proofs.YtdfdpghdjlgghaaGreat
