/-
 More of the same.
-/
import Derived.ProofKit
import Derived.Below
import Derived.ChangeSame
import Derived.WalkKit
import Derived.OpenShut
import Derived.Handy
import Derived.Deep.QuietTactic
import Derived.BigQuiet
import Derived.Lib.Hide
import Derived.Carry
import Derived.StillTail
import Derived.KernelRfl
import Derived.Outline
import Derived.WalkMore
import Derived.OwnWalk
import Derived.RangeFuncBox
import Derived.RangeFuncRecord
import Derived.Laws.AppendOwn
import Derived.Laws.AppendOwnNone
import Derived.DeepKeys4
import Derived.Maps.OwnSet
import Derived.Maps.AppendAt
import Derived.Deep.RegionLaw
import Derived.Laws.EntriesVeiled
import Derived.RangeFuncNested
import Derived.RangeFuncCalls
import Derived.OrdersIn
import Derived.TacticsIn
import Derived.Deep.RegionWith
import Derived.Laws.Bits128
import Derived.Deep.CutRange
import Derived.Deep.Matrix
import Derived.RangeFuncBound
import Derived.RangeFuncLeaves
import Derived.Shelf.Abstract
import Derived.Shelf.RegionOpen
import Derived.OwnWalkIn
import Derived.TacticsInMore
import Derived.LoopNIn
import Derived.LoopIn
import Derived.Laws.OwnMore
import Derived.Test.YtdfdpghdjlgghaaGreatKdzr
namespace Go.Proofs.YtdfdpghdjlgghaaGreat
open Go.RowKit
instance (w0:World):Nonempty (Grown w0):=⟨⟨w0,Below.refl _ _⟩⟩
end Go.Proofs.YtdfdpghdjlgghaaGreat
namespace Go.Proofs.YtdfdpghdjlgghaaGreat
open Go.ChangeShapes Go.WideShapes Go.ChangeAt Go.RowKit
set_option linter.unusedVariables false
instance (x:Int):Decidable (Num x):=inferInstanceAs (Decidable (_∧_))
instance (lo hi:Int):Decidable (Ent lo hi):=inferInstanceAs (Decidable (_∧_))
instance (lo hi:Int):Decidable (VI lo hi):=inferInstanceAs (Decidable (_ ∨ _))
end Go.Proofs.YtdfdpghdjlgghaaGreat
namespace Go.Proofs.YtdfdpghdjlgghaaGreat
open Go.ChangeShapes Go.WideShapes Go.ChangeAt Go.RowKit
set_option linter.unusedVariables false
set_option linter.unusedSimpArgs false
set_option maxRecDepth 100000
instance (a b:Int):Decidable (Bd a b):=inferInstanceAs (Decidable (_∧_))
end Go.Proofs.YtdfdpghdjlgghaaGreat
namespace Go.Proofs.YtdfdpghdjlgghaaGreat
open Go.ChangeShapes Go.WideShapes Go.ChangeAt Go.RowKit
set_option linter.unusedVariables false
set_option linter.unusedSimpArgs false
set_option maxRecDepth 100000
instance:DecidableEq Nd:=fun x y=>if h:x.op = y.op∧x.n = y.n∧x.lo = y.lo∧x.hi = y.hi then isTrue (by cases x; cases y; simp at h; simp [h]) else isFalse (by rintro rfl; simp at h)
instance:DecidableEq Is:=fun x y=>if h:x.op = y.op∧x.a = y.a∧x.b = y.b∧x.lo = y.lo∧x.hi = y.hi then isTrue (by cases x; cases y; simp at h; simp [h]) else isFalse (by rintro rfl; simp at h)
end Go.Proofs.YtdfdpghdjlgghaaGreat
namespace Go.Proofs.YtdfdpghdjlgghaaGreat
open Go.ChangeShapes Go.WideShapes Go.ChangeAt Go.RowKit
set_option linter.unusedVariables false
set_option linter.unusedSimpArgs false
set_option maxRecDepth 100000
section
variable {H:Type} {enc:TypeId × Value→H} {w:World} {base:Nat} {spare:Nat→Bool} {held:Bool}
theorem cell_blkT {w:World} {a:Addr} {v:Value} (h:w.cell? a = some v):a.block < w.heap.size∧a.spot = none:=by
 unfold World.cell? at h
 split at h
 ·rename_i hh
  refine ⟨(Array.getElem?_eq_some_iff.1 hh).1,?_⟩
  split at h
  ·cases h
  ·rename_i hs
   simpa using hs
 ·cases h
theorem add_spot (a:Addr) (n:Nat) (h:a.spot = none):a.add n = ⟨a.block,a.off+n,none⟩:=by
 obtain ⟨b,o,s⟩:=a
 simp only at h
 subst h
 by_cases hz:n = 0 <;> simp [Addr.add,hz]
theorem rx_of {α:Type} {en:α→List Value} {sz:Nat} {P:α→Prop} (d:α) {a:Addr} {len cap:Nat} (hl:len ≤ maxLen) (hen:∀ x,∃ u,(en x)[0]? = some u)
  (hel:∀ i,i < len→∃ x:α,P x∧∀ j u,(en x)[j]? = some u→w.cell? (a.add (i * sz+j)) = some u):∃ l:List α,Rx en sz w (.slice (some a) len cap) l∧∀ x ∈ l,P x:=by
 have hex:∃ f:Nat→α,∀ i,i < len→P (f i)∧∀ j u,(en (f i))[j]? = some u→w.cell? (a.add (i * sz+j)) = some u :=
  ⟨fun i=>if h:i < len then (hel i h).choose else d,fun i h=>by simp only [h,dif_pos]; exact (hel i h).choose_spec⟩
 obtain ⟨f,hf⟩:=hex
 refine ⟨(List.range len).map f,⟨by simp; omega,some a,cap,by simp,fun k x hx=>?_⟩,fun p hp=>?_⟩
 ·have hk:k < len:=by
   have:=(List.getElem?_eq_some_iff.1 hx).1
   simpa using this
  obtain rfl:f k = x:=by
   rw [List.getElem?_map,List.getElem?_range hk] at hx
   simpa using hx
  obtain ⟨hv,hcell⟩:=hf k hk
  obtain ⟨u0,hu0⟩:=hen (f 0)
  have q0:=(hf 0 (by omega)).2 0 _ hu0
  have hs:a.spot = none:=by
   have:=(cell_blkT q0).2
   simpa [Addr.add] using this
  have hb:a.block < w.heap.size:=by
   have:=(cell_blkT q0).1
   rw [add_spot a _ hs] at this
   exact this
  refine ⟨a.block,a.off,?_,hb,fun j u hu=>?_⟩
  ·obtain ⟨b,o,sp⟩:=a
   simp only at hs
   subst hs
   rfl
  ·have q:=hcell j u hu
   rw [add_spot a _ hs] at q
   rw [Nat.add_assoc]
   exact q
 ·obtain ⟨i,hi',rfl⟩:=List.mem_map.1 hp
  exact (hf i (List.mem_range.1 hi')).1
theorem ix_read {fuel:Nat} {c:Value} {y:DataW H × List MemPlace} (h:DataW.trod enc Tryz.prog w base spare held fuel 32 [c] = some y):∃ l:List Is,Ix w c l∧∀ x ∈ l,IW x:=by
 have h2:Tryz.prog.cellsOf 75 = 5:=by kernel_rfl
 have h1:Tryz.prog.cellsOf 3 = 1:=by kernel_rfl
 have h3:Tryz.prog.cellsOf 66 = 2:=by kernel_rfl
 have h4:Tryz.prog.cellsOf 2 = 1:=by kernel_rfl
 rcases Go.Deep.open_slice Tryz.underlying32 h with ⟨hc,_⟩ | ⟨a,len,cap,m,n,D,Pl,hc,_,hl,hm,hmm,_,hi⟩
 ·obtain rfl:c = .slice none 0 0:=by simpa using hc
  exact ⟨[],Rx.nil _ _ _,fun p hp=>by simp at hp⟩
 ·obtain rfl:c = .slice (some a) len cap:=by simpa using hc
  rw [h2] at hi
  have hlm:len ≤ m:=by rw [hmm]; split <;> omega
  refine rx_of (en:=encI) (sz:=5) (P:=IW) ⟨0,0,0,0,0⟩ (by omega) (fun x=>⟨_,rfl⟩) (fun i hil=>?_)
  obtain ⟨cs,hcs,ht⟩:=hi i (by omega)
  obtain ⟨_,hcl,hat⟩:=World.cells?_some hcs
  obtain ⟨xs,n',_,_,_,hlen,hg⟩:=DataW.trod_struct Tryz.underlying75 ht
  match cs,hcl with
  | [c0,c1,c2,c3,c4],_ =>
   match xs,hlen with
   | [y0,y1,y2,y3],_ =>
    have g0:=hg 0 _ rfl
    have g1:=hg 1 _ rfl
    have g2:=hg 2 _ rfl
    have g3:=hg 3 _ rfl
    simp [Value.cells,h1,h3,h4] at g0 g1 g2 g3
    obtain ⟨k0,e0,_,w0⟩:=DataW.trod_int Tryz.underlying3 g0
    obtain ⟨k1,e1,_,w1⟩:=DataW.trod_int Tryz.underlying3 g1
    obtain ⟨k2,e2,_,w2⟩:=DataW.trod_int Tryz.underlying3 g2
    obtain ⟨y0',y1',n'',_,_,t0,t1⟩:=trod_struct2 Tryz.underlying66 g3
    obtain ⟨k3,e3,_,w3⟩:=DataW.trod_int Tryz.underlying2 t0
    obtain ⟨k4,e4,_,w4⟩:=DataW.trod_int Tryz.underlying2 t1
    simp [h4] at e0 e1 e2 e3 e4
    subst e0 e1 e2 e3 e4
    refine ⟨⟨k0,k1,k2,k3,k4⟩,⟨wf64t w0,wf64t w1,wf64t w2,wf64t w3,wf64t w4⟩,fun j u hu=>?_⟩
    have hj:j < 5:=by
     have:=(List.getElem?_eq_some_iff.1 hu).1
     simpa [encI] using this
    have q:=hat j (by omega)
    rw [Go.Deep.add_add] at q
    rw [q,← hu]
    rfl
theorem px_read {fuel:Nat} {c:Value} {y:DataW H × List MemPlace} (h:DataW.trod enc Tryz.prog w base spare held fuel 33 [c] = some y):∃ l:List Int,Px w c l∧∀ x ∈ l,W64 x:=by
 have h1:Tryz.prog.cellsOf 3 = 1:=by kernel_rfl
 rcases Go.Deep.open_slice Tryz.underlying33 h with ⟨hc,_⟩ | ⟨a,len,cap,m,n,D,Pl,hc,_,hl,hm,hmm,_,hi⟩
 ·obtain rfl:c = .slice none 0 0:=by simpa using hc
  exact ⟨[],Rx.nil _ _ _,fun p hp=>by simp at hp⟩
 ·obtain rfl:c = .slice (some a) len cap:=by simpa using hc
  rw [h1] at hi
  have hlm:len ≤ m:=by rw [hmm]; split <;> omega
  refine rx_of (en:=enc1) (sz:=1) (P:=W64) 0 (by omega) (fun x=>⟨_,rfl⟩) (fun i hil=>?_)
  obtain ⟨cs,hcs,ht⟩:=hi i (by omega)
  obtain ⟨_,hcl,hat⟩:=World.cells?_some hcs
  match cs,hcl with
  | [c0],_ =>
   obtain ⟨k0,e0,_,w0⟩:=DataW.trod_int Tryz.underlying3 ht
   simp at e0
   subst e0
   refine ⟨k0,wf64t w0,fun j u hu=>?_⟩
   have hj:j < 1:=by
    have:=(List.getElem?_eq_some_iff.1 hu).1
    simpa [enc1] using this
   have q:=hat j (by omega)
   rw [Go.Deep.add_add] at q
   rw [q,← hu]
   rfl
theorem vx_read {fuel:Nat} {c:Value} {y:DataW H × List MemPlace} (h:DataW.trod enc Tryz.prog w base spare held fuel 23 [c] = some y):∃ l:List (Int × Int),Vx w c l∧∀ p ∈ l,W64 p.1∧W64 p.2:=by
 have h3:Tryz.prog.cellsOf 66 = 2:=by kernel_rfl
 have h4:Tryz.prog.cellsOf 2 = 1:=by kernel_rfl
 rcases Go.Deep.open_slice Tryz.underlying23 h with ⟨hc,_⟩ | ⟨a,len,cap,m,n,D,Pl,hc,_,hl,hm,hmm,_,hi⟩
 ·obtain rfl:c = .slice none 0 0:=by simpa using hc
  exact ⟨[],Rx.nil _ _ _,fun p hp=>by simp at hp⟩
 ·obtain rfl:c = .slice (some a) len cap:=by simpa using hc
  rw [h3] at hi
  have hlm:len ≤ m:=by rw [hmm]; split <;> omega
  refine rx_of (en:=encB) (sz:=2) (P:=fun p:Int × Int=>W64 p.1∧W64 p.2) (0,0) (by omega) (fun x=>⟨_,rfl⟩) (fun i hil=>?_)
  obtain ⟨cs,hcs,ht⟩:=hi i (by omega)
  obtain ⟨_,hcl,hat⟩:=World.cells?_some hcs
  obtain ⟨y0',y1',n'',_,_,t0,t1⟩:=trod_struct2 Tryz.underlying66 ht
  match cs,hcl with
  | [c3,c4],_ =>
   obtain ⟨k3,e3,_,w3⟩:=DataW.trod_int Tryz.underlying2 t0
   obtain ⟨k4,e4,_,w4⟩:=DataW.trod_int Tryz.underlying2 t1
   simp [h4] at e3 e4
   subst e3 e4
   refine ⟨(k3,k4),⟨wf64t w3,wf64t w4⟩,fun j u hu=>?_⟩
   have hj:j < 2:=by
    have:=(List.getElem?_eq_some_iff.1 hu).1
    simpa [encB] using this
   have q:=hat j (by omega)
   rw [Go.Deep.add_add] at q
   rw [q,← hu]
   rfl
end
end Go.Proofs.YtdfdpghdjlgghaaGreat
namespace Go.Proofs.YtdfdpghdjlgghaaGreat
open Go.ChangeShapes Go.WideShapes Go.ChangeAt Go.RowKit
set_option linter.unusedVariables false
set_option linter.unusedSimpArgs false
set_option maxRecDepth 100000
section
variable {H:Type} {enc:TypeId × Value→H} {w:World} {base:Nat} {spare:Nat→Bool} {held:Bool}
theorem wf8t {x:Int} (h:(Lit.int .u8 x).wf = true):0 ≤ x∧x ≤ 255:=by
 simp [Lit.wf,IntKind.has,IntKind.min,IntKind.max,IntKind.signed,IntKind.bits] at h
 omega
theorem wf16t {x:Int} (h:(Lit.int .u16 x).wf = true):0 ≤ x∧x ≤ 65535:=by
 simp [Lit.wf,IntKind.has,IntKind.min,IntKind.max,IntKind.signed,IntKind.bits] at h
 omega
theorem wf32t {x:Int} (h:(Lit.int .i32 x).wf = true):-2147483648 ≤ x∧x ≤ 2147483647:=by
 simp [Lit.wf,IntKind.has,IntKind.min,IntKind.max,IntKind.signed,IntKind.bits] at h
 omega
theorem sg_read {fuel:Nat} {c:Value} {y:DataW H × List MemPlace} (h:DataW.trod enc Tryz.prog w base spare held fuel 52 [c] = some y):∃ l:List Sr,Zx w c l∧∀ x ∈ l,SrW w x:=by
 have h2:Tryz.prog.cellsOf 39 = 6:=by kernel_rfl
 have h3:Tryz.prog.cellsOf 23 = 1:=by kernel_rfl
 have h4:Tryz.prog.cellsOf 2 = 1:=by kernel_rfl
 rcases Go.Deep.open_slice Tryz.underlying52 h with ⟨hc,_⟩ | ⟨a,len,cap,m,n,D,Pl,hc,_,hl,hm,hmm,_,hi⟩
 ·obtain rfl:c = .slice none 0 0:=by simpa using hc
  exact ⟨[],Rx.nil _ _ _,fun p hp=>by simp at hp⟩
 ·obtain rfl:c = .slice (some a) len cap:=by simpa using hc
  rw [h2] at hi
  have hlm:len ≤ m:=by rw [hmm]; split <;> omega
  refine rx_of (en:=encSr) (sz:=6) (P:=SrW w) ⟨0,0,none,none,none,none,0,0,0,0,[],[],[],[]⟩ (by omega) (fun x=>⟨_,rfl⟩) (fun i hil=>?_)
  obtain ⟨cs,hcs,ht⟩:=hi i (by omega)
  obtain ⟨_,hcl,hat⟩:=World.cells?_some hcs
  obtain ⟨xs,n',_,_,_,hlen,hg⟩:=DataW.trod_struct Tryz.underlying39 ht
  match cs,hcl with
  | [c0,c1,c2,c3,c4,c5],_ =>
   match xs,hlen with
   | [y0,y1,y2,y3,y4,y5],_ =>
    have g0:=hg 0 _ rfl
    have g1:=hg 1 _ rfl
    have g2:=hg 2 _ rfl
    have g3:=hg 3 _ rfl
    have g4:=hg 4 _ rfl
    have g5:=hg 5 _ rfl
    simp [Value.cells,h3,h4] at g0 g1 g2 g3 g4 g5
    obtain ⟨k0,e0,_,w0⟩:=DataW.trod_int Tryz.underlying2 g0
    obtain ⟨k1,e1,_,w1⟩:=DataW.trod_int Tryz.underlying2 g1
    obtain ⟨F,f1,f2⟩:=vx_read g2
    obtain ⟨P,p1,p2⟩:=vx_read g3
    obtain ⟨U,u1,u2⟩:=vx_read g4
    obtain ⟨E,q1,q2⟩:=vx_read g5
    simp [h4] at e0 e1
    subst e0 e1
    obtain ⟨s2,n2,rfl⟩:=f1.cut
    obtain ⟨s3,n3,rfl⟩:=p1.cut
    obtain ⟨s4,n4,rfl⟩:=u1.cut
    obtain ⟨s5,n5,rfl⟩:=q1.cut
    refine ⟨⟨k0,k1,s2,s3,s4,s5,n2,n3,n4,n5,F,P,U,E⟩,⟨⟨f1,p1,u1,q1⟩,wf64t w0,wf64t w1,f2,p2,u2,q2⟩,fun j u hu=>?_⟩
    have hj:j < 6:=by
     have:=(List.getElem?_eq_some_iff.1 hu).1
     simpa [encSr] using this
    have q:=hat j (by omega)
    rw [Go.Deep.add_add] at q
    rw [q,← hu]
    rfl
theorem open_queries14 {r:Reach} {b0:Nat} {v:Value} {d:DataW H} {p:List MemPlace} (hv:Value.okWide Tryz.prog w r b0 81 v) (h:DataW.Trod enc Tryz.prog w base spare held 81 v d p) :
  ∃ (vL:Value) (n t lo hi id:Int) (L:List Sr),v = .agg #[vL,.int .u8 n,.int .i64 t,.int .i64 lo,.int .i64 hi,.int .i64 id]∧(Zx w vL L∧∀ x ∈ L,SrW w x)∧(0 ≤ n∧n ≤ 255)∧W64 t∧W64 lo∧W64 hi∧W64 id:=by
 have k1:Tryz.prog.cellsOf 52 = 1:=by kernel_rfl
 have k2:Tryz.prog.cellsOf 2 = 1:=by kernel_rfl
 have k3:Tryz.prog.cellsOf 3 = 1:=by kernel_rfl
 have k4:Tryz.prog.cellsOf 5 = 1:=by kernel_rfl
 have k5:Tryz.prog.cellsOf 66 = 2:=by kernel_rfl
 obtain ⟨cs,rfl,hsz⟩:=okWide_struct Tryz.underlying81 hv
 obtain ⟨l⟩:=cs
 match l,hsz.trans (show Tryz.prog.cellsOf 81 = 6 by kernel_rfl) with
 | [c0,c1,c2,c3,c4,c5],_ =>
  obtain ⟨fuel,hf⟩:=h
  obtain ⟨xs,n,_,_,_,hlen,hg⟩:=DataW.trod_struct Tryz.underlying81 hf
  match xs,hlen with
  | [y0,y1,y2,y3,y4],_ =>
   have g0:=hg 0 _ rfl
   have g1:=hg 1 _ rfl
   have g2:=hg 2 _ rfl
   have g3:=hg 3 _ rfl
   have g4:=hg 4 _ rfl
   simp [Value.cells,k1,k2,k3,k4,k5] at g0 g1 g2 g3 g4
   obtain ⟨L,a1,a2⟩:=sg_read g0
   obtain ⟨k,e0,_,w0⟩:=DataW.trod_int Tryz.underlying5 g1
   obtain ⟨t,e1,_,w1⟩:=DataW.trod_int Tryz.underlying2 g2
   obtain ⟨y0',y1',n'',_,_,t0,t1⟩:=trod_struct2 Tryz.underlying66 g3
   obtain ⟨p3,e3,_,w3⟩:=DataW.trod_int Tryz.underlying2 t0
   obtain ⟨p4,e4,_,w4⟩:=DataW.trod_int Tryz.underlying2 t1
   obtain ⟨id,e5,_,w5⟩:=DataW.trod_int Tryz.underlying3 g4
   simp [k2] at e0 e1 e3 e4 e5
   subst e0 e1 e3 e4 e5
   exact ⟨c0,k,t,p3,p4,id,L,rfl,⟨a1,a2⟩,wf8t w0,wf64t w1,wf64t w3,wf64t w4,wf64t w5⟩
theorem open_problem14 {r:Reach} {b0:Nat} {v:Value} {d:DataW H} {p:List MemPlace} (hv:Value.okWide Tryz.prog w r b0 47 v) (h:DataW.Trod enc Tryz.prog w base spare held 47 v d p) :
  ∃ (vL vO vX:Value) (n od t la:Int) (L:List Is) (out:List Int) (X:List (Int × Int)),v = .agg #[.int .i64 n,vL,vO,vX,.int .u8 od,.int .i32 t,.int .u16 la]∧(Ix w vL L∧∀ x ∈ L,IW x)∧(Px w vO out∧∀ x ∈ out,W64 x)∧(Vx w vX X∧∀ q ∈ X,W64 q.1∧W64 q.2)∧W64 n∧(0 ≤ od∧od ≤ 255)∧(-2147483648 ≤ t∧t ≤ 2147483647)∧(0 ≤ la∧la ≤ 65535):=by
 have k1:Tryz.prog.cellsOf 23 = 1:=by kernel_rfl
 have k3:Tryz.prog.cellsOf 3 = 1:=by kernel_rfl
 have k4:Tryz.prog.cellsOf 35 = 3:=by kernel_rfl
 have k5:Tryz.prog.cellsOf 5 = 1:=by kernel_rfl
 have k6:Tryz.prog.cellsOf 32 = 1:=by kernel_rfl
 have k7:Tryz.prog.cellsOf 33 = 1:=by kernel_rfl
 have k8:Tryz.prog.cellsOf 21 = 1:=by kernel_rfl
 have k9:Tryz.prog.cellsOf 30 = 1:=by kernel_rfl
 obtain ⟨cs,rfl,hsz⟩:=okWide_struct Tryz.underlying47 hv
 obtain ⟨l⟩:=cs
 match l,hsz.trans (show Tryz.prog.cellsOf 47 = 7 by kernel_rfl) with
 | [c0,c1,c2,c3,c4,c5,c6],_ =>
  obtain ⟨fuel,hf⟩:=h
  obtain ⟨xs,n,_,_,_,hlen,hg⟩:=DataW.trod_struct Tryz.underlying47 hf
  match xs,hlen with
  | [y0,y1,y2,y3,y4],_ =>
   have g0:=hg 0 _ rfl
   have g1:=hg 1 _ rfl
   have g2:=hg 2 _ rfl
   have g3:=hg 3 _ rfl
   have g4:=hg 4 _ rfl
   simp [Value.cells,k1,k4,k5,k8,k9] at g0 g1 g2 g3 g4
   obtain ⟨zs,n',_,_,_,hlen',hg'⟩:=DataW.trod_struct Tryz.underlying35 g0
   match zs,hlen' with
   | [z0,z1,z2],_ =>
    have j0:=hg' 0 _ rfl
    have j1:=hg' 1 _ rfl
    have j2:=hg' 2 _ rfl
    simp [k3,k6,k7] at j0 j1 j2
    obtain ⟨k,e0,_,w0⟩:=DataW.trod_int Tryz.underlying3 j0
    obtain ⟨L,a1,a2⟩:=ix_read j1
    obtain ⟨out,b1,b2⟩:=px_read j2
    obtain ⟨X,x1,x2⟩:=vx_read g1
    obtain ⟨p3,e3,_,w3⟩:=DataW.trod_int Tryz.underlying5 g2
    obtain ⟨p4,e4,_,w4⟩:=DataW.trod_int Tryz.underlying21 g3
    obtain ⟨p5,e5,_,w5⟩:=DataW.trod_int Tryz.underlying30 g4
    simp at e0 e3 e4 e5
    subst e0 e3 e4 e5
    exact ⟨c1,c2,c3,k,p3,p4,p5,L,out,X,rfl,⟨a1,a2⟩,⟨b1,b2⟩,⟨x1,x2⟩,wf64t w0,wf8t w3,wf32t w4,wf16t w5⟩
end
end Go.Proofs.YtdfdpghdjlgghaaGreat
