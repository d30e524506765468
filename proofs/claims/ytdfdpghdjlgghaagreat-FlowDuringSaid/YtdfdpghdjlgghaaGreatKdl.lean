/-
 U5 U6 U7 R2
-/
import Derived.Test.YtdfdpghdjlgghaaGreatKda
import Derived.Test.YtdfdpghdjlgghaaGreatKdb
import Derived.Test.YtdfdpghdjlgghaaGreatKdd
import Derived.Test.YtdfdpghdjlgghaaGreatKdf
import Derived.Test.YtdfdpghdjlgghaaGreatKdg
import Derived.Test.YtdfdpghdjlgghaaGreatKdh
import Derived.Test.YtdfdpghdjlgghaaGreatKdj
import Derived.Test.YtdfdpghdjlgghaaGreatKdk
import Derived.Laws.EntriesVeiled
import Derived.Maps.AppendAt
namespace Go.Proofs.YtdfdpghdjlgghaaGreat
open Go.ChangeShapes Go.WideShapes Go.ChangeAt Go.RowKit
set_option linter.unusedVariables false
set_option linter.unusedSimpArgs false
set_option maxRecDepth 100000
attribute [local irreducible] Calls
def rtI (p:Int × Int):Int × Int:=if p.1 < 0 then (-2147483648,2147483648) else (mkLo (rt1 p.1) (rt2 p.2),mkHi (rt1 p.1) (rt2 p.2))
theorem boxed_set {W:World} {k X o:Nat} {t:TypeId} {v y:Value} (h:Boxed W k t v) (hne:k ≠ X):Boxed (W.setCell ⟨X,o,none⟩ y) k t v:=((grownBy_setN W ⟨X,o,none⟩ y).block k (Array.getElem?_eq_some_iff.1 h).1 (fun e=>hne (Option.some.inj e))).trans h
theorem offirst_ok (f:Nat) (w:World):Calls Tryz.prog 212 #[.func (.func f) #[] #[]] w fun e w'=>e = .returned (.func (.func 229) #[] #[.pointer (some ⟨w.heap.size,0,none⟩)])∧Boxed w' w.heap.size 83 (.func (.func f) #[] #[])∧Below w.heap.size w w':=by
 go_enter Tryz.func212,Tryz.ntmps212
 go_wp2_with (fail)
 go_ret
 exact ⟨rfl,World.alloc_heap_new w _,(Below.refl _ _).alloc (Nat.le_refl _) _⟩
def opsC (x y z:Nat):Array Value:=#[.nilFunc,.nilFunc,.nilFunc,.nilFunc,.func (.func 229) #[] #[.pointer (some ⟨x,0,none⟩)],.func (.func 229) #[] #[.pointer (some ⟨y,0,none⟩)],.func (.func 229) #[] #[.pointer (some ⟨z,0,none⟩)],.func (.func 165) #[] #[],.func (.func 172) #[] #[],.func (.func 166) #[] #[],.func (.func 214) #[] #[]]
set_option maxHeartbeats 4000000 in
theorem operations_ok (w:World):Calls Tryz.prog 182 #[] w fun e w'=>∃ x y z,e = .returned (.agg (opsC x y z))∧Boxed w' x 83 (.func (.func 170) #[] #[])∧Boxed w' y 83 (.func (.func 171) #[] #[])∧Boxed w' z 83 (.func (.func 213) #[] #[])∧Below w.heap.size w w':=by
 unfold opsC
 have hba:Below w.heap.size w (w.alloc (.cells #[.nilFunc,.nilFunc,.nilFunc,.nilFunc,.nilFunc,.nilFunc,.nilFunc,.nilFunc,.nilFunc,.nilFunc,.nilFunc] 221)):=(Below.refl _ _).alloc (Nat.le_refl _) _
 have hX:=World.alloc_heap_new w (.cells #[.nilFunc,.nilFunc,.nilFunc,.nilFunc,.nilFunc,.nilFunc,.nilFunc,.nilFunc,.nilFunc,.nilFunc,.nilFunc] 221)
 have HB:=Lib.hid hba
 have HX:=Lib.hid hX
 clear hba hX
 go_enter Tryz.func182,Tryz.ntmps182
 go_wp2_with (fail)
 refine (offirst_ok _ _).mono ?_
 rintro e w1 ⟨rfl,h1,hB1⟩
 have H1:=Lib.hid h1
 have HB1:=Lib.hid hB1
 clear h1 hB1
 go_wp2_with (fail)
 refine (offirst_ok _ _).mono ?_
 rintro e w2 ⟨rfl,h2,hB2⟩
 have H2:=Lib.hid h2
 have HB2:=Lib.hid hB2
 clear h2 hB2
 go_wp2_with (fail)
 refine (offirst_ok _ _).mono ?_
 rintro e w3 ⟨rfl,h3,hB3⟩
 have H3:=Lib.hid h3
 have HB3:=Lib.hid hB3
 clear h3 hB3
 have hBx:=below_then HB1.out (below_then HB2.out HB3.out)
 have hx3:=(hBx.block _ (Array.getElem?_eq_some_iff.1 HX.out).1).trans HX.out
 have y0:=heapN_cellj hx3 (k:=0) rfl
 have y1:=heapN_cellj hx3 (k:=1) rfl
 have y2:=heapN_cellj hx3 (k:=2) rfl
 have y3:=heapN_cellj hx3 (k:=3) rfl
 have y4:=heapN_cellj hx3 (k:=4) rfl
 have y5:=heapN_cellj hx3 (k:=5) rfl
 have y6:=heapN_cellj hx3 (k:=6) rfl
 have y7:=heapN_cellj hx3 (k:=7) rfl
 have y8:=heapN_cellj hx3 (k:=8) rfl
 have y9:=heapN_cellj hx3 (k:=9) rfl
 have y10:=heapN_cellj hx3 (k:=10) rfl
 have z0:w3.frozen? ⟨w.heap.size,0,none⟩ = false:=by simp [World.frozen?,hx3]
 have z1:w3.frozen? ⟨w.heap.size,1,none⟩ = false:=by simp [World.frozen?,hx3]
 have z2:w3.frozen? ⟨w.heap.size,2,none⟩ = false:=by simp [World.frozen?,hx3]
 have z3:w3.frozen? ⟨w.heap.size,3,none⟩ = false:=by simp [World.frozen?,hx3]
 have z4:w3.frozen? ⟨w.heap.size,4,none⟩ = false:=by simp [World.frozen?,hx3]
 have z5:w3.frozen? ⟨w.heap.size,5,none⟩ = false:=by simp [World.frozen?,hx3]
 have z6:w3.frozen? ⟨w.heap.size,6,none⟩ = false:=by simp [World.frozen?,hx3]
 have z7:w3.frozen? ⟨w.heap.size,7,none⟩ = false:=by simp [World.frozen?,hx3]
 have z8:w3.frozen? ⟨w.heap.size,8,none⟩ = false:=by simp [World.frozen?,hx3]
 have z9:w3.frozen? ⟨w.heap.size,9,none⟩ = false:=by simp [World.frozen?,hx3]
 have z10:w3.frozen? ⟨w.heap.size,10,none⟩ = false:=by simp [World.frozen?,hx3]
 have HX3:=Lib.hid hx3
 have HBX:=Lib.hid (below_then HB.out hBx)
 clear hBx hx3
 go_wp2_with (fail)
 obtain ⟨W9,hW9⟩:∃ W9,(((((((((((w3.setCell ⟨w.heap.size,0,none⟩ (.nilFunc)).setCell ⟨w.heap.size,1,none⟩ (.nilFunc)).setCell ⟨w.heap.size,2,none⟩ (.nilFunc)).setCell ⟨w.heap.size,3,none⟩ (.nilFunc)).setCell ⟨w.heap.size,4,none⟩ (.func (.func 229) #[] #[.pointer (some ⟨w.heap.size+1,0,none⟩)])).setCell ⟨w.heap.size,5,none⟩ (.func (.func 229) #[] #[.pointer (some ⟨w1.heap.size,0,none⟩)])).setCell ⟨w.heap.size,6,none⟩ (.func (.func 229) #[] #[.pointer (some ⟨w2.heap.size,0,none⟩)])).setCell ⟨w.heap.size,7,none⟩ (.func (.func 165) #[] #[])).setCell ⟨w.heap.size,8,none⟩ (.func (.func 172) #[] #[])).setCell ⟨w.heap.size,9,none⟩ (.func (.func 166) #[] #[])).setCell ⟨w.heap.size,10,none⟩ (.func (.func 214) #[] #[])) = W9:=⟨_,rfl⟩
 rw [hW9]
 have hb9:Below w.heap.size w W9:=by
  rw [← hW9]
  exact (((((((((((HBX.out.setCell (p:=⟨w.heap.size,0,none⟩) (Nat.le_refl _) _).setCell (p:=⟨w.heap.size,1,none⟩) (Nat.le_refl _) _).setCell (p:=⟨w.heap.size,2,none⟩) (Nat.le_refl _) _).setCell (p:=⟨w.heap.size,3,none⟩) (Nat.le_refl _) _).setCell (p:=⟨w.heap.size,4,none⟩) (Nat.le_refl _) _).setCell (p:=⟨w.heap.size,5,none⟩) (Nat.le_refl _) _).setCell (p:=⟨w.heap.size,6,none⟩) (Nat.le_refl _) _).setCell (p:=⟨w.heap.size,7,none⟩) (Nat.le_refl _) _).setCell (p:=⟨w.heap.size,8,none⟩) (Nat.le_refl _) _).setCell (p:=⟨w.heap.size,9,none⟩) (Nat.le_refl _) _).setCell (p:=⟨w.heap.size,10,none⟩) (Nat.le_refl _) _)
 have hs9:W9.heap[w.heap.size]? = some (.cells (opsC (w.heap.size+1) w1.heap.size w2.heap.size) 221 (0,0)):=by
  rw [← hW9]
  exact (cellsT_setN (o:=10) (u:=.func (.func 214) #[] #[]) (cellsT_setN (o:=9) (u:=.func (.func 166) #[] #[]) (cellsT_setN (o:=8) (u:=.func (.func 172) #[] #[]) (cellsT_setN (o:=7) (u:=.func (.func 165) #[] #[]) (cellsT_setN (o:=6) (u:=.func (.func 229) #[] #[.pointer (some ⟨w2.heap.size,0,none⟩)]) (cellsT_setN (o:=5) (u:=.func (.func 229) #[] #[.pointer (some ⟨w1.heap.size,0,none⟩)]) (cellsT_setN (o:=4) (u:=.func (.func 229) #[] #[.pointer (some ⟨w.heap.size+1,0,none⟩)]) (cellsT_setN (o:=3) (u:=.nilFunc) (cellsT_setN (o:=2) (u:=.nilFunc) (cellsT_setN (o:=1) (u:=.nilFunc) (cellsT_setN (o:=0) (u:=.nilFunc) HX3.out)))))))))))
 have bx:∀ (k:Nat) (v:Value),Boxed w3 k 83 v→Boxed W9 k 83 v:=fun k v hb=>by
  have hne:k ≠ w.heap.size:=fun e=>by
   unfold Boxed at hb
   rw [e,HX3.out] at hb
   simp only [Option.some.injEq,Obj.cells.injEq] at hb
   exact absurd hb.2.1 (by decide)
  rw [← hW9]
  exact (boxed_set (boxed_set (boxed_set (boxed_set (boxed_set (boxed_set (boxed_set (boxed_set (boxed_set (boxed_set (boxed_set hb hne) hne) hne) hne) hne) hne) hne) hne) hne) hne) hne)
 have g1:=bx _ _ (((HB2.out.trans (HB3.out.mono HB2.out.size)).block _ (Array.getElem?_eq_some_iff.1 H1.out).1).trans H1.out)
 have g2:=bx _ _ ((HB3.out.block _ (Array.getElem?_eq_some_iff.1 H2.out).1).trans H2.out)
 have g3:=bx _ _ H3.out
 rw [alloc_sz] at g1
 clear bx hW9
 have x0:=heapN_cellj hs9 (k:=0) rfl
 have x1:=heapN_cellj hs9 (k:=1) rfl
 have x2:=heapN_cellj hs9 (k:=2) rfl
 have x3:=heapN_cellj hs9 (k:=3) rfl
 have x4:=heapN_cellj hs9 (k:=4) rfl
 have x5:=heapN_cellj hs9 (k:=5) rfl
 have x6:=heapN_cellj hs9 (k:=6) rfl
 have x7:=heapN_cellj hs9 (k:=7) rfl
 have x8:=heapN_cellj hs9 (k:=8) rfl
 have x9:=heapN_cellj hs9 (k:=9) rfl
 have x10:=heapN_cellj hs9 (k:=10) rfl
 exact bodyPost_ret (v:=.agg (opsC (w.heap.size+1) w1.heap.size w2.heap.size)) (by simp [results,Tryz.results182,go_sem,opsC,x0,x1,x2,x3,x4,x5,x6,x7,x8,x9,x10]) rfl ⟨_,_,_,rfl,g1,g2,g3,hb9⟩
end Go.Proofs.YtdfdpghdjlgghaaGreat
namespace Go.Proofs.YtdfdpghdjlgghaaGreat
open Go.ChangeShapes Go.WideShapes Go.ChangeAt Go.RowKit
set_option linter.unusedVariables false
set_option linter.unusedSimpArgs false
set_option maxRecDepth 100000
attribute [local irreducible] Calls
def encB (p:Int × Int):List Value:=[.int .i64 p.1,.int .i64 p.2]
theorem encB_len (p:Int × Int):(encB p).length = 2:=rfl
abbrev Vx:=Rx encB 2
theorem vx_rd {w:World} {p:Option Addr} {n c i:Nat} {l:List (Int × Int)} {x y:Int} (h:Vx w (.slice p n c) l) (hx:l[i]? = some (x,y)):∃ b o,p = some ⟨b,o,none⟩∧b < w.heap.size∧∀ g:Grown w,g.w.cell? ⟨b,o+i * 2,none⟩ = some (.int .i64 x)∧g.w.cell? ⟨b,o+i * 2+1,none⟩ = some (.int .i64 y):=by
 obtain ⟨b,o,rfl,h1,rd⟩:=h.rd hx
 exact ⟨b,o,rfl,h1,fun g=>⟨rd g 0 _ rfl,rd g 1 _ rfl⟩⟩
theorem crB_set2:∀ (l:List (Int × Int)) (k:Nat) (u v:Int),cr encB (l.set k (u,v)) = ((cr encB l).set (k * 2) (.int .i64 u)).set (k * 2+1) (.int .i64 v)
 | [],k,u,v=>by simp [cr]
 | p :: l,0,u,v=>by simp [cr,encB]
 | p :: l,k+1,u,v=>by
  have h:=crB_set2 l k u v
  rw [show (k+1) * 2 = k * 2+1+1 by omega,show k * 2+1+1+1 = (k * 2+1)+1+1 by omega]
  show encB p ++ cr encB (l.set k (u,v)) = ((encB p ++ cr encB l).set _ _).set _ _
  rw [h]
  simp [encB]
theorem crB_zero (n:Nat):cr encB (List.replicate n ((0:Int),(0:Int))) = List.replicate (n * 2) (.int .i64 0):=by
 induction n with
 | zero=>rfl
 | succ n ih =>
  rw [List.replicate_succ,show (n+1) * 2 = n * 2+1+1 by omega,List.replicate_succ,List.replicate_succ]
  show encB (0,0) ++ cr encB (List.replicate n (0,0)) = _
  rw [ih]
  rfl
theorem made_zeroB (n:Nat):(madeCells (Value.cells (.agg #[.int .i64 0,.int .i64 0])) (n * 2)).toList = cr encB (List.replicate n ((0:Int),(0:Int))):=by
 rw [crB_zero]
 refine List.eq_replicate_iff.2 ⟨by rw [Array.length_toList,size_madeCells],fun u hu=>?_⟩
 simp only [madeCells,Value.cells,Array.toList_map,List.mem_map] at hu
 obtain ⟨a,_,rfl⟩:=hu
 rcases Nat.mod_two_eq_zero_or_one a with h | h <;> simp [h]
theorem info_ivB:(Tryz.prog.info? 66).map (fun i=>(i.zero,i.size,i.bytes)) = some (some (.agg #[.int .i64 0,.int .i64 0]),2,16):=by kernel_rfl
def opI (op:Int) (p q:Int × Int):Int × Int :=
 if op = 4 then (-p.2,-p.1) else if op = 5 then (sqLo p.1 p.2,sqHi p.1 p.2) else if op = 6 then rtI p
 else if op = 7 then (addLo p.1 p.2 q.1 q.2,addHi p.1 p.2 q.1 q.2) else if op = 8 then (addLo p.1 p.2 (-q.2) (-q.1),addHi p.1 p.2 (-q.2) (-q.1))
 else if op = 9 then (mulLo p.1 p.2 q.1 q.2,mulHi p.1 p.2 q.1 q.2) else (divLo p.1 p.2 q.1 q.2,divHi p.1 p.2 q.1 q.2)
def evI (X:List (Int × Int)) (t:Int × Int) (vals:List (Int × Int)) (x:Is):Int × Int :=
 if x.op = 1 then (x.lo,x.hi) else if x.op = 2 then X.getD x.a.toNat (0,0) else if x.op = 3 then t
 else opI x.op (vals.getD x.a.toNat (0,0)) (vals.getD x.b.toNat (0,0))
def evL (X:List (Int × Int)) (t:Int × Int) (L:List Is):List (Int × Int):=L.foldl (fun vals x=>vals ++ [evI X t vals x]) []
theorem evL_snoc {X:List (Int × Int)} {t:Int × Int} {L:List Is} {k:Nat} {x:Is} (h:L[k]? = some x):evL X t (L.take (k+1)) = evL X t (L.take k) ++ [evI X t (evL X t (L.take k)) x]:=by
 unfold evL
 rw [List.take_add_one,h,List.foldl_append]
 rfl
theorem evL_len (X:List (Int × Int)) (t:Int × Int) (L:List Is):(evL X t L).length = L.length:=by
 have key:∀ (L:List Is) (v:List (Int × Int)),(L.foldl (fun vals x=>vals ++ [evI X t vals x]) v).length = v.length+L.length:=by
  intro L
  induction L with
  | nil=>intro v; rfl
  | cons x r ih=>intro v; rw [List.foldl_cons,ih]; simp; omega
 have:=key L []
 simpa [evL] using this
theorem vin_cases {k n:Int} {x:Is} (h:vinB k n x = true):(x.op = 1∧VI x.lo x.hi) ∨ (x.op = 2∧0 ≤ x.a∧x.a < n) ∨ x.op = 3 ∨ ((x.op = 4 ∨ x.op = 5 ∨ x.op = 6)∧x.b = 0∧0 ≤ x.a∧x.a < k) ∨ ((x.op = 7 ∨ x.op = 8 ∨ x.op = 9 ∨ x.op = 10)∧0 ≤ x.a∧x.a < k∧0 ≤ x.b∧x.b < k):=by
 unfold vinB ixB at h
 split at h
 ·next e=>simp only [Bool.and_eq_true,decide_eq_true_eq] at h; exact .inl ⟨e,h.2.2⟩
 split at h
 ·next e=>simp only [Bool.and_eq_true,decide_eq_true_eq] at h; exact .inr (.inl ⟨e,h.2.2.2⟩)
 split at h
 ·next e=>exact .inr (.inr (.inl e))
 split at h
 ·next e=>simp only [Bool.and_eq_true,decide_eq_true_eq] at h; exact .inr (.inr (.inr (.inl ⟨e,h.1,h.2.2.2⟩)))
 split at h
 ·next e=>simp only [Bool.and_eq_true,decide_eq_true_eq] at h; exact .inr (.inr (.inr (.inr ⟨e,h.2.2.1.1,h.2.2.1.2,h.2.2.2⟩)))
 ·simp at h
theorem vl_at {n:Int}:∀ {L:List Is} {i:Nat},vlGo n L i = true→∀ {k:Nat} {x:Is},L[k]? = some x→vinB ((i+k:Nat):Int) n x = true
 | [],i,_,k,x,h=>by simp at h
 | y :: r,i,h,k,x,hx=>by
  unfold vlGo at h
  simp only [Bool.and_eq_true] at h
  match k with
  | 0=>simp only [List.getElem?_cons_zero,Option.some.injEq] at hx; subst hx; exact h.1
  | k+1 =>
   rw [List.getElem?_cons_succ] at hx
   have:=vl_at h.2 hx
   rwa [show i+1+k = i+(k+1) by omega] at this
theorem tv_cases {n:Int} {L:List Is} {out:List Int} (h:tvB n L out = true):1 ≤ n∧n ≤ 6∧L.length ≤ 400∧(out.length:Int) = n∧(∀ (k:Nat) (x:Is),L[k]? = some x→vinB k n x = true)∧∀ y ∈ out,0 ≤ y∧y < L.length:=by
 unfold tvB at h
 simp only [Bool.and_eq_true,decide_eq_true_eq,List.all_eq_true] at h
 refine ⟨h.1,h.2.1,h.2.2.1,h.2.2.2.1,fun k x hx=>by have:=vl_at h.2.2.2.2.1 hx; rwa [Nat.zero_add] at this,fun y hy=>?_⟩
 have:=h.2.2.2.2.2 y hy
 unfold ixB at this
 simpa using this
theorem rtI_vi {p:Int × Int} (h:VI p.1 p.2):VI (rtI p).1 (rtI p).2:=by
 unfold rtI
 by_cases h1:p.1 < 0
 ·rw [if_pos h1]; exact .inl ⟨rfl,rfl⟩
 ·have hb:=h.bd
  rw [if_neg h1]
  dsimp only
  exact mk_vi (x:=rt1 p.1) (y:=rt2 p.2) (rt_le hb.2.2.2.2 (by omega))
theorem opI_vi (op:Int) {p q:Int × Int} (hp:VI p.1 p.2) (hq:VI q.1 q.2):VI (opI op p q).1 (opI op p q).2:=by
 unfold opI
 by_cases h4:op = 4
 ·rw [if_pos h4]; exact hp.neg
 rw [if_neg h4]
 by_cases h5:op = 5
 ·rw [if_pos h5]; exact sq_vi _ _
 rw [if_neg h5]
 by_cases h6:op = 6
 ·rw [if_pos h6]; exact rtI_vi hp
 rw [if_neg h6]
 by_cases h7:op = 7
 ·rw [if_pos h7]; exact add_vi hp.bd.2.2.2.2 hq.bd.2.2.2.2
 rw [if_neg h7]
 by_cases h8:op = 8
 ·rw [if_pos h8]; exact add_vi hp.bd.2.2.2.2 hq.neg.bd.2.2.2.2
 rw [if_neg h8]
 by_cases h9:op = 9
 ·rw [if_pos h9]; exact mul_vi _ _ _ _
 ·rw [if_neg h9]; exact div_vi hq.bd.2.2.2.2
theorem evI_vi {X:List (Int × Int)} {t:Int × Int} {vals:List (Int × Int)} {x:Is} {k n:Int} (hX:∀ p ∈ X,VI p.1 p.2) (ht:VI t.1 t.2) (hv:∀ p ∈ vals,VI p.1 p.2) (hi:vinB k n x = true):VI (evI X t vals x).1 (evI X t vals x).2:=by
 have gd:∀ (l:List (Int × Int)) (j:Nat),(∀ p ∈ l,VI p.1 p.2)→VI (l.getD j (0,0)).1 (l.getD j (0,0)).2:=fun l j h=>by
  rw [List.getD_eq_getElem?_getD]
  cases e:l[j]? with
  | none=>exact .inr (by decide)
  | some p=>exact h p (List.mem_of_getElem? e)
 unfold evI
 split
 ·next e =>
  rcases vin_cases hi with h | h | h | h | h
  ·exact h.2
  all_goals omega
 split
 ·exact gd _ _ hX
 split
 ·exact ht
 ·exact opI_vi _ (gd _ _ hv) (gd _ _ hv)
theorem evL_vi {X:List (Int × Int)} {t:Int × Int} {L:List Is} {n:Int} (hX:∀ p ∈ X,VI p.1 p.2) (ht:VI t.1 t.2) (hL:∀ (k:Nat) (x:Is),L[k]? = some x→vinB k n x = true):∀ p ∈ evL X t L,VI p.1 p.2:=by
 have key:∀ k,k ≤ L.length→∀ p ∈ evL X t (L.take k),VI p.1 p.2:=by
  intro k
  induction k with
  | zero=>intro _ p hp; simp [evL] at hp
  | succ k ih =>
   intro hk p hp
   obtain ⟨x,hx⟩:∃ x,L[k]? = some x:=⟨_,List.getElem?_eq_getElem (by omega)⟩
   rw [evL_snoc hx,List.mem_append,List.mem_singleton] at hp
   rcases hp with hp | rfl
   ·exact ih (by omega) p hp
   ·exact evI_vi hX ht (ih (by omega)) (hL k x hx)
 have:=key L.length (Nat.le_refl _)
 rwa [List.take_length] at this
end Go.Proofs.YtdfdpghdjlgghaaGreat
namespace Go.Proofs.YtdfdpghdjlgghaaGreat
open Go.ChangeShapes Go.WideShapes Go.ChangeAt Go.RowKit
set_option linter.unusedVariables false
set_option linter.unusedSimpArgs false
set_option maxRecDepth 100000
attribute [local irreducible] Calls
theorem set_fill {vals:List (Int × Int)} {k N:Nat} {v:Int × Int} (hv:vals.length = k) (hk:k < N):(vals ++ List.replicate (N - k) ((0:Int),(0:Int))).set k v = (vals ++ [v]) ++ List.replicate (N - (k+1)) (0,0):=by
 rw [List.set_append_right _ _ (by omega),hv,Nat.sub_self,show N - k = N - (k+1)+1 by omega,List.replicate_succ,List.set_cons_zero,List.append_assoc]
 rfl
theorem own_slice {B n sz:Nat} {w:World} {v:Value} {t:TypeId} {xs:List Value} (h:w.ownsRow B t sz v n xs):∃ p c,v = .slice p n c:=by
 rcases id h.2 with ⟨rfl,h0⟩ | ⟨g,cap,cur,rfl,_⟩
 ·subst h0
  exact ⟨none,0,rfl⟩
 ·exact ⟨_,_,rfl⟩
theorem new_b (w:World) (x:Int × Int):∀ j u,(encB x)[j]? = some u→(w.alloc (.cells #[.int .i64 x.1,.int .i64 x.2] 66)).cell? ((⟨w.heap.size,0,none⟩:Addr).add j) = some u:=by
 intro j u hj
 have hk:j < 2:=by have:=(List.getElem?_eq_some_iff.1 hj).1; simpa [encB] using this
 unfold encB at hj
 match j,hk,hj with
 | 0,_,hj=>cases hj; simp [Addr.add,go_sem]
 | 1,_,hj=>cases hj; simp [Addr.add,go_sem]
theorem one_b (x:Int × Int):∀ u ∈ encB x,u.oneCell' = true:=by
 intro u hu
 simp only [encB,List.mem_cons,List.not_mem_nil,or_false] at hu
 rcases hu with rfl | rfl <;> rfl
def outV (vals:List (Int × Int)) (out:List Int):List (Int × Int):=out.map (fun y=>vals.getD y.toNat (0,0))
theorem row_put {B vb N k:Nat} {W:World} {vals:List (Int × Int)} (p q:Int) (h:W.ownsRow B 66 2 (.slice (some ⟨vb,0,none⟩) N N) N (cr encB (vals ++ List.replicate (N - k) (0,0)))) (hv:vals.length = k) (hk:k < N) :
  W.cell? ⟨vb,k * 2,none⟩ = some (.int .i64 0)∧W.cell? ⟨vb,k * 2+1,none⟩ = some (.int .i64 0)∧W.frozen? ⟨vb,k * 2,none⟩ = false∧W.frozen? ⟨vb,k * 2+1,none⟩ = false∧((W.setCell ⟨vb,k * 2,none⟩ (.int .i64 p)).setCell ⟨vb,k * 2+1,none⟩ (.int .i64 q)).ownsRow B 66 2 (.slice (some ⟨vb,0,none⟩) N N) N (cr encB ((vals ++ [(p,q)]) ++ List.replicate (N - (k+1)) (0,0))):=by
 have hx:(vals ++ List.replicate (N - k) ((0:Int),(0:Int)))[k]? = some (0,0):=by
  rw [List.getElem?_append_right (by omega),hv,Nat.sub_self,List.getElem?_replicate,if_pos (by omega)]
 have c0:=h.cellAt (k * 2) (by omega)
 have c1:=h.cellAt (k * 2+1) (by omega)
 have s1:=h.stored (k * 2) (.int .i64 p)
 have s2:=s1.1.stored (k * 2+1) (.int .i64 q)
 rw [← crB_set2,set_fill hv hk] at s2
 exact ⟨c0.trans (cr_get encB_len k _ hx 0 _ rfl),c1.trans (cr_get encB_len k _ hx 1 _ rfl),h.frozenAt _,h.frozenAt _,s2.1⟩
set_option maxHeartbeats 16000000 in
theorem eval_ok (vl vo vx:Value) (t1 t2:Int) (L:List Is) (out:List Int) (X:List (Int × Int)) (w:World) (hl:Ix w vl L) (ho:Px w vo out) (hx:Vx w vx X) (htv:tvB X.length L out = true) (hN1:NmL L) (hvx:∀ p ∈ X,VI p.1 p.2) (hvt:VI t1 t2) :
  Calls Tryz.prog 162 #[.agg #[.int .i64 X.length,vl,vo],vx,.agg #[.int .i64 t1,.int .i64 t2]] w fun e w'=>∃ u,e = .returned u∧Vx w' u (outV (evL X (t1,t2) L) out)∧Below w.heap.size w w':=by
 obtain ⟨i0,hi,hz0,hz1,hz2⟩:=info_parts info_ivB
 obtain ⟨pl,cl,rfl⟩:=hl.cut
 obtain ⟨po,co,rfl⟩:=ho.cut
 obtain ⟨px,cx,rfl⟩:=hx.cut
 obtain ⟨n1,n6,n400,nout,hvin,hout⟩:=tv_cases htv
 have hba:Below w.heap.size w ((w.alloc (.cells #[.int .i64 X.length,.slice pl L.length cl,.slice po out.length co] 35)).alloc (.cells #[.int .i64 t1,.int .i64 t2] 66)):=((Below.refl _ _).alloc (Nat.le_refl _) _).alloc (by rw [alloc_sz]; omega) _
 have hX:((w.alloc (.cells #[.int .i64 X.length,.slice pl L.length cl,.slice po out.length co] 35)).alloc (.cells #[.int .i64 t1,.int .i64 t2] 66)).heap[w.heap.size]? = some (.cells #[.int .i64 X.length,.slice pl L.length cl,.slice po out.length co] 35 (0,0)):=(((Below.refl _ (w.alloc (.cells #[.int .i64 X.length,.slice pl L.length cl,.slice po out.length co] 35))).alloc (Nat.le_refl _) _).block _ (by rw [alloc_sz]; omega)).trans (World.alloc_heap_new w _)
 have hY:((w.alloc (.cells #[.int .i64 X.length,.slice pl L.length cl,.slice po out.length co] 35)).alloc (.cells #[.int .i64 t1,.int .i64 t2] 66)).heap[w.heap.size+1]? = some (.cells #[.int .i64 t1,.int .i64 t2] 66 (0,0)):=by
  have:=World.alloc_heap_new (w.alloc (.cells #[.int .i64 X.length,.slice pl L.length cl,.slice po out.length co] 35)) (.cells #[.int .i64 t1,.int .i64 t2] 66)
  rwa [alloc_sz] at this
 have x0:((w.alloc (.cells #[.int .i64 X.length,.slice pl L.length cl,.slice po out.length co] 35)).alloc (.cells #[.int .i64 t1,.int .i64 t2] 66)).cell? ⟨w.heap.size,0,none⟩ = _:=heapN_cellj hX (k:=0) rfl
 have x1:((w.alloc (.cells #[.int .i64 X.length,.slice pl L.length cl,.slice po out.length co] 35)).alloc (.cells #[.int .i64 t1,.int .i64 t2] 66)).cell? ⟨w.heap.size,1,none⟩ = _:=heapN_cellj hX (k:=1) rfl
 have x2:((w.alloc (.cells #[.int .i64 X.length,.slice pl L.length cl,.slice po out.length co] 35)).alloc (.cells #[.int .i64 t1,.int .i64 t2] 66)).cell? ⟨w.heap.size,2,none⟩ = _:=heapN_cellj hX (k:=2) rfl
 have KV:=Lib.hid (fun w a b=>tvalid_ok X.length (.slice pl L.length cl) (.slice po out.length co) L out w a b)
 rw [htv] at KV
 have HL:=Lib.hid hl
 have HO:=Lib.hid ho
 have HXX:=Lib.hid hx
 have HX:=Lib.hid hX
 have HY:=Lib.hid hY
 have HB:=Lib.hid hba
 have HVIN:=Lib.hid hvin
 have HOUT:=Lib.hid hout
 have HVX:=Lib.hid hvx
 have HVT:=Lib.hid hvt
 have NO:=Lib.hid nout
 clear hl ho hx hX hY hba hvin hout hvx hvt htv nout
 go_enter Tryz.func162,Tryz.ntmps162
 go_wp2_with (fail)
 refine (KV.out _ (HL.out.grow HB.out) (HO.out.grow HB.out)).mono ?_
 rintro e w1 ⟨rfl,hB1⟩
 have hb1:=below_then HB.out hB1
 have X1:=Lib.hid ((hB1.block _ (Array.getElem?_eq_some_iff.1 HX.out).1).trans HX.out)
 have Y1:=Lib.hid ((hB1.block _ (Array.getElem?_eq_some_iff.1 HY.out).1).trans HY.out)
 have B1:=Lib.hid hb1
 have y0:=heapN_cellj X1.out (k:=0) (u:=.int .i64 X.length) rfl
 clear hB1 hb1 KV HB HX HY x0 x1 x2
 go_wp2_with (fail)
 refine (operations_ok w1).mono ?_
 rintro e w2 ⟨xb,yb,zb,rfl,g1,g2,g3,hB2⟩
 clear y0
 have hs2:=(Array.getElem?_eq_some_iff.1 Y1.out).1
 have hbb:Below w1.heap.size w1 (w2.alloc (.cells (opsC xb yb zb) 221)):=hB2.alloc hB2.size _
 have hb3:=below_then B1.out hbb
 have X3:=Lib.hid ((hbb.block _ (Array.getElem?_eq_some_iff.1 X1.out).1).trans X1.out)
 have Y3:=Lib.hid ((hbb.block _ hs2).trans Y1.out)
 have hgw:Below w2.heap.size w2 (w2.alloc (.cells (opsC xb yb zb) 221)):=(Below.refl _ _).alloc (Nat.le_refl _) _
 have G1:=Lib.hid ((hgw.block _ (Array.getElem?_eq_some_iff.1 g1).1).trans g1)
 have G2:=Lib.hid ((hgw.block _ (Array.getElem?_eq_some_iff.1 g2).1).trans g2)
 have G3:=Lib.hid ((hgw.block _ (Array.getElem?_eq_some_iff.1 g3).1).trans g3)
 have O3:=Lib.hid (World.alloc_heap_new w2 (.cells (opsC xb yb zb) 221))
 have B3:=Lib.hid hb3
 have hs3:w.heap.size+1 < w2.heap.size:=Nat.lt_of_lt_of_le hs2 hB2.size
 have z1:=heapN_cellj X3.out (k:=1) (u:=.slice pl L.length cl) rfl
 have W3D:∃ w3,w2.alloc (.cells (opsC xb yb zb) 221) = w3:=⟨_,rfl⟩
 have qmk:(Instr.makeSlice 23 (.int .i64 (L.length:Int)) (.int .i64 (L.length:Int))).run Tryz.prog (w2.alloc (.cells (opsC xb yb zb) 221)) = .ok (.slice (some ⟨w2.heap.size+1,0,none⟩) L.length L.length) ((w2.alloc (.cells (opsC xb yb zb) 221)).alloc (.cells (madeCells (Value.cells (.agg #[.int .i64 0,.int .i64 0])) (L.length * 2)) 66)):=by
  have:=run_make (P:=Tryz.prog) (w2.alloc (.cells (opsC xb yb zb) 221)) 23 66 i0 _ Tryz.underlying23 hi hz0 .i64 .i64 L.length L.length (by omega) (Int.le_refl _) (by rw [hz2]; omega) (by omega)
  rw [hz1,alloc_sz] at this
  simpa using this
 obtain ⟨w5,hw5⟩:∃ w5,(w2.alloc (.cells (opsC xb yb zb) 221)).alloc (.cells (madeCells (Value.cells (.agg #[.int .i64 0,.int .i64 0])) (L.length * 2)) 66) = w5:=⟨_,rfl⟩
 rw [hw5] at qmk
 have hb5:Below (w2.heap.size+1) (w2.alloc (.cells (opsC xb yb zb) 221)) w5:=by
  rw [← hw5,← alloc_sz w2 (.cells (opsC xb yb zb) 221)]
  exact (Below.refl _ _).alloc (Nat.le_refl _) _
 have hrow5:w5.ownsRow (w2.heap.size+1) 66 2 (.slice (some ⟨w2.heap.size+1,0,none⟩) L.length L.length) L.length (cr encB (List.replicate L.length ((0:Int),(0:Int)))):=by
  rw [← hw5,← made_zeroB,← alloc_sz w2 (.cells (opsC xb yb zb) 221)]
  exact World.ownsRow_lit _ _ L.length (Nat.le_refl _) (by unfold maxLen; omega) (size_madeCells _ _)
 have z2:=heapN_cellj ((hb5.block _ (show w.heap.size < w2.heap.size+1 by omega)).trans X3.out) (k:=1) (u:=.slice pl L.length cl) rfl
 have HB5:=Lib.hid hb5
 have HR5:=Lib.hid hrow5
 clear hB2 hbb hb3 hgw g1 g2 g3 hs2 X1 Y1 B1 W3D hb5 hrow5 hw5
 unfold opsC at z1 qmk
 unfold opsC
 go_wp2_with (fail)
 have hb5:=HB5.out
 have X5:=Lib.hid ((hb5.block _ (show w.heap.size < w2.heap.size+1 by omega)).trans X3.out)
 have Y5:=Lib.hid ((hb5.block _ (show w.heap.size+1 < w2.heap.size+1 by omega)).trans Y3.out)
 have O5:=Lib.hid ((hb5.block w2.heap.size (by omega)).trans O3.out)
 have hgx:=(show xb < w2.heap.size+1 by rw [← alloc_sz w2 (.cells (opsC xb yb zb) 221)]; exact (Array.getElem?_eq_some_iff.1 G1.out).1)
 have hgy:=(show yb < w2.heap.size+1 by rw [← alloc_sz w2 (.cells (opsC xb yb zb) 221)]; exact (Array.getElem?_eq_some_iff.1 G2.out).1)
 have hgz:=(show zb < w2.heap.size+1 by rw [← alloc_sz w2 (.cells (opsC xb yb zb) 221)]; exact (Array.getElem?_eq_some_iff.1 G3.out).1)
 have G15:Hid (Boxed w5 xb 83 (.func (.func 170) #[] #[])):=Lib.hid ((hb5.block _ hgx).trans G1.out)
 have G25:Hid (Boxed w5 yb 83 (.func (.func 171) #[] #[])):=Lib.hid ((hb5.block _ hgy).trans G2.out)
 have G35:Hid (Boxed w5 zb 83 (.func (.func 213) #[] #[])):=Lib.hid ((hb5.block _ hgz).trans G3.out)
 have B5:=Lib.hid (B3.out.trans (hb5.mono (by omega)))
 have hs5:w2.heap.size+1 ≤ w5.heap.size:=by have:=hb5.size; rw [alloc_sz] at this; exact this
 clear hb5 X3 Y3 O3 G1 G2 G3 B3 HB5 z1 z2 qmk
 go_loopw [32] (fun i wr=>∃ k:Nat,i = .int .i64 k∧k ≤ L.length∧Hid (wr.ownsRow (w2.heap.size+1) 66 2 (.slice (some ⟨w2.heap.size+1,0,none⟩) L.length L.length) L.length (cr encB (evL X (t1,t2) (L.take k) ++ List.replicate (L.length - k) (0,0))))∧Below (w2.heap.size+1) w5 wr) (fun i _=>L.length - (intOf i).toNat)
 case atStart=>exact ⟨0,rfl,Nat.zero_le _,Lib.hid (by simpa [evL] using HR5.out),Below.refl _ _⟩
 case round =>
  clear HR5
  obtain ⟨k,rfl,hk,HR,hB⟩:=hrel
  have hsr:=hB.size
  have hBw:=B5.out.trans (hB.mono (show w.heap.size ≤ w2.heap.size+1 by omega))
  have hXr:=(hB.block _ (show w.heap.size < w2.heap.size+1 by omega)).trans X5.out
  by_cases hlt:k < L.length
  ·have i2:(k:Int) < L.length:=by omega
   obtain ⟨⟨op,a,b,lo,hi'⟩,hx⟩:∃ x,L[k]? = some x:=⟨_,List.getElem?_eq_getElem hlt⟩
   have hvi:=vin_cases (HVIN.out k _ hx)
   have hsn:=evL_snoc (X:=X) (t:=(t1,t2)) hx
   have hvl:(evL X (t1,t2) (L.take k)).length = k:=by rw [evL_len,List.length_take]; omega
   have hvv:∀ p ∈ evL X (t1,t2) (L.take k),VI p.1 p.2:=evL_vi (n:=X.length) HVX.out HVT.out (fun j x hj=>HVIN.out j x (by
    rw [List.getElem?_take] at hj
    split at hj
    ·exact hj
    ·cases hj))
   obtain ⟨bb,o,rfl,hbs,rd⟩:=is_rd HL.out hx
   obtain ⟨f0,f1,f2,f3,f4⟩:=rd ⟨wr,hBw⟩
   dsimp only at f0 f1 f2 f3 f4 hvi
   have hBa:Below (w2.heap.size+1) w5 (wr.alloc (.cells #[.int .i64 op,.int .i64 a,.int .i64 b,.int .i64 lo,.int .i64 hi'] 75)):=hB.alloc (by omega) _
   have hRa:=HR.out.alloc (.cells #[.int .i64 op,.int .i64 a,.int .i64 b,.int .i64 lo,.int .i64 hi'] 75)
   obtain ⟨vals,hvals⟩:∃ vals,evL X (t1,t2) (L.take k) = vals:=⟨_,rfl⟩
   rw [hvals] at hsn hvl hvv hRa HR
   have HSN:=Lib.hid hsn
   have HRA:=Lib.hid hRa
   have HBA:=Lib.hid hBa
   have hN:op = 1:=hN1 k _ hx
   clear hsn hBa hRa rd hx hvals
   rcases hvi with ⟨rfl,hvi⟩ | ⟨rfl,ha0,han⟩ | rfl | ⟨hop,hb00,ha0,hak⟩ | ⟨hop,ha0,hak,hb0,hbk⟩
   ·-- a constant
    have he:evI X (t1,t2) vals ⟨1,a,b,lo,hi'⟩ = (lo,hi'):=rfl
    obtain ⟨c0,c1,z0,z1,hput⟩:=row_put lo hi' HRA.out hvl hlt
    have HP:=Lib.hid hput
    clear hput
    go_wp2_with (fail)
    go_roundw
    case rel=>exact ⟨k+1,by go_num,by omega,Lib.hid (by rw [HSN.out,he]; exact HP.out),(HBA.out.setCell (p:=⟨w2.heap.size+1,k * 2,none⟩) (Nat.le_refl _) _).setCell (p:=⟨w2.heap.size+1,k * 2+1,none⟩) (Nat.le_refl _) _⟩
    case measure=>simp [intOf]; omega
   all_goals omega
  ·obtain rfl:k = L.length:=by omega
   obtain ⟨wv,hwv⟩:∃ wv,wv = wr:=⟨_,rfl⟩
   subst hwv
   have i2:¬ (L.length:Int) < L.length:=by omega
   have x0:=heapN_cellj hXr (k:=0) (u:=.int .i64 X.length) rfl
   have x2:=heapN_cellj hXr (k:=2) (u:=.slice po out.length co) rfl
   rw [Nat.sub_self,List.take_length] at HR
   have hvl:(evL X (t1,t2) L).length = L.length:=evL_len _ _ _
   obtain ⟨vals,hvals⟩:∃ vals,evL X (t1,t2) L = vals:=⟨_,rfl⟩
   rw [hvals] at HR hvl
   have HVS:=Lib.hid hvals
   obtain ⟨w6,hw6⟩:∃ w6,wv.alloc (.cells (madeCells (Value.cells (.agg #[.int .i64 0,.int .i64 0])) (X.length * 2)) 66) = w6:=⟨_,rfl⟩
   have qmk:(Instr.makeSlice 23 (.int .i64 0) (.int .i64 (X.length:Int))).run Tryz.prog wv = .ok (.slice (some ⟨wv.heap.size,0,none⟩) 0 X.length) w6:=by
    have:=run_make (P:=Tryz.prog) wv 23 66 i0 _ Tryz.underlying23 hi hz0 .i64 .i64 0 X.length (by omega) (by omega) (by rw [hz2]; omega) (by omega)
    rw [hz1] at this
    rw [← hw6]
    simpa using this
   have hb6:Below wv.heap.size wv w6:=by rw [← hw6]; exact (Below.refl _ _).alloc (Nat.le_refl _) _
   have hr6:w6.ownsRow wv.heap.size 66 2 (.slice (some ⟨wv.heap.size,0,none⟩) 0 X.length) 0 []:=by
    rw [← hw6]
    exact World.ownsRow_made wv _ X.length (Nat.le_refl _) (by unfold maxLen; omega) (size_madeCells _ _)
   have x26:=heapN_cellj ((hb6.block _ (Array.getElem?_eq_some_iff.1 hXr).1).trans hXr) (k:=2) (u:=.slice po out.length co) rfl
   have HB6:=Lib.hid hb6
   have HR6:=Lib.hid hr6
   have HBr:=Lib.hid hB
   have HBW:=Lib.hid hBw
   clear hw6 hb6 hr6 hB hBw hXr hvals x2
   go_wp2_with (fail)
   go_loopw [11,87] (fun v i wr=>∃ j:Nat,i = .int .i64 j∧j ≤ out.length∧wr.ownsRow wv.heap.size 66 2 v j (cr encB (outV vals (out.take j)))∧Below wv.heap.size wv wr) (fun v i _=>out.length - (intOf i).toNat)
   case atStart=>exact ⟨0,rfl,Nat.zero_le _,HR6.out,HB6.out⟩
   case round =>
    clear HR6 HB6 x0 x26 qmk
    obtain ⟨j,rfl,hj,hrow,hB⟩:=hrel
    have hRW:=own_keptN HR.out hB
    rw [List.replicate_zero,List.append_nil] at hRW
    obtain ⟨pv,cv,rfl⟩:=own_slice hrow
    have HBj:=Lib.hid hB
    have HRj:=Lib.hid hrow
    have hsW:=hB.size
    by_cases hlo:j < out.length
    ·have i3:(j:Int) < out.length:=by omega
     have hj6:j < 6:=by have:=NO.out; omega
     obtain ⟨y,hy⟩:∃ y,out[j]? = some y:=⟨_,List.getElem?_eq_getElem hlo⟩
     have hyb:=HOUT.out y (List.mem_of_getElem? hy)
     obtain ⟨m,rfl⟩:∃ m:Nat,y = m:=⟨y.toNat,by omega⟩
     obtain ⟨⟨p,q⟩,hm⟩:∃ x,vals[m]? = some x:=⟨_,List.getElem?_eq_getElem (by omega)⟩
     have i4:(m:Int) < L.length:=by omega
     obtain ⟨bo,oo,rfl,hbo,rdo⟩:=px_rd HO.out hy
     have r0:=rdo ⟨wr,HBW.out.trans (hB.mono HBW.out.size)⟩
     dsimp only at r0
     have hsn:outV vals (out.take (j+1)) = outV vals (out.take j) ++ [(p,q)]:=by
      unfold outV
      rw [List.take_add_one,hy]
      simp [List.getD_eq_getElem?_getD,hm]
     have s0:=(hRW.cellAt (m * 2) (by omega)).trans (cr_get encB_len m _ hm 0 _ rfl)
     have s1:=(hRW.cellAt (m * 2+1) (by omega)).trans (cr_get encB_len m _ hm 1 _ rfl)
     simp only [Nat.add_zero] at s0
     have HSN:=Lib.hid hsn
     clear hsn rdo hy hm hB hrow hRW
     go_wp2_with (at_builtin; refine wpList_append_own _ rfl (.tmp 91) (.tmp 96) 23 rfl wv.heap.size 66 i0 (.agg #[.int .i64 0,.int .i64 0]) 2 16 Tryz.underlying23 hi hz0 hz1 hz2 rfl (by decide) (.slice pv j cv) j _ rfl (HRj.out.alloc _) ⟨wr.heap.size,0,none⟩ 1 1 (encB (p,q)) rfl rfl (new_b _ (p,q)) (one_b _) (by unfold maxLen; omega) (by omega) (by rw [alloc_sz]; omega) ?_)
     intro v' w8 hown' hgrow _
     have hB8:Below wv.heap.size wv w8:=Below.grown (HBj.out.alloc (by omega) _) hgrow (by rw [alloc_sz]; omega) (fun i hi=>(HRj.out.lt i hi).1)
     obtain ⟨p8,c8,rfl⟩:=own_slice hown'
     have HR8:=Lib.hid hown'
     have HB8:=Lib.hid hB8
     clear hown' hgrow hB8
     go_wp2_with (fail)
     go_roundw
     case rel =>
      refine ⟨j+1,by go_num,by omega,?_,HB8.out⟩
      rw [HSN.out,cr_snoc]
      exact HR8.out
     case measure=>simp [intOf]; omega
    ·obtain rfl:j = out.length:=by omega
     have i3:¬ (out.length:Int) < out.length:=by omega
     go_wp2_with (fail)
     go_ret
     refine ⟨_,rfl,?_,HBW.out.trans (HBj.out.mono HBW.out.size)⟩
     rw [HVS.out]
     have h:=HRj.out
     rw [List.take_length] at h
     have hl:(outV vals out).length = out.length:=List.length_map _
     have h2:=Rx.own encB_len (l:=outV vals out) (by rw [hl]; exact h) (by rw [hl]; have:=NO.out; unfold maxLen; omega)
     exact h2
end Go.Proofs.YtdfdpghdjlgghaaGreat
namespace Go.Proofs.YtdfdpghdjlgghaaGreat
open Go.ChangeShapes Go.WideShapes Go.ChangeAt Go.RowKit
set_option linter.unusedVariables false
set_option linter.unusedSimpArgs false
set_option maxRecDepth 100000
attribute [local irreducible] Calls
end Go.Proofs.YtdfdpghdjlgghaaGreat
namespace Go.Proofs.YtdfdpghdjlgghaaGreat
open Go.ChangeShapes Go.WideShapes Go.ChangeAt Go.RowKit Go.Maps
set_option linter.unusedVariables false
set_option linter.unusedSimpArgs false
set_option maxRecDepth 100000
attribute [local irreducible] Calls
def ndI (x:Is):Nd:=⟨x.op,if x.op = 2 then x.a else 0,x.lo,x.hi⟩
end Go.Proofs.YtdfdpghdjlgghaaGreat
namespace Go.Proofs.YtdfdpghdjlgghaaGreat
open Go.ChangeShapes Go.WideShapes Go.ChangeAt Go.RowKit Go.Maps
set_option linter.unusedVariables false
set_option linter.unusedSimpArgs false
set_option maxRecDepth 100000
attribute [local irreducible] Calls
def cap (n:Int):Int:=if 201 < n then 201 else n
structure Oth (eb:Nat) (W W':World):Prop where
 os:W'.os = W.os
 tape:W'.tape = W.tape
 output:W'.output = W.output
 size:W.heap.size ≤ W'.heap.size
 blk:∀ k,k < W.heap.size→k ≠ eb→W'.heap[k]? = W.heap[k]?
section
variable {eb B:Nat} {W W' W'':World}
theorem Oth.set (eb:Nat) (W:World) (v:Value):Oth eb W (W.setCell ⟨eb,0,none⟩ v) :=
 have h:=grownBy_setN W ⟨eb,0,none⟩ v
 ⟨h.os,h.tape,h.output,h.size,fun k hk hn=>h.block k hk (fun e=>hn (Option.some.inj e))⟩
theorem Oth.ext {n c:Nat} {v:Value} (h:Ext eb eb (.slice none n c) v W W'):Oth eb W W':=⟨h.os,h.tape,h.output,h.size,fun k hk hn=>h.blk k hk hn hn (by simp [Value.ownBlock])⟩
theorem Oth.trans (h:Oth eb W W') (k:Oth eb W' W''):Oth eb W W'':=⟨k.os.trans h.os,k.tape.trans h.tape,k.output.trans h.output,Nat.le_trans h.size k.size,fun j hj hn=>(k.blk j (Nat.lt_of_lt_of_le hj h.size) hn).trans (h.blk j hj hn)⟩
theorem Oth.below (h:Oth eb W W') {b:Nat} (hb:b ≤ eb) (hw:b ≤ W.heap.size):Below b W W':=⟨h.os,h.tape,h.output,h.size,fun k hk=>h.blk k (by omega) (by omega)⟩
end
end Go.Proofs.YtdfdpghdjlgghaaGreat
namespace Go.Proofs.YtdfdpghdjlgghaaGreat
open Go.ChangeShapes Go.WideShapes Go.ChangeAt Go.RowKit Go.Maps
set_option linter.unusedVariables false
set_option linter.unusedSimpArgs false
set_option maxRecDepth 100000
attribute [local irreducible] Calls
theorem row_app {B B' n n' sz sz':Nat} {W W':World} {v r:Value} {t t':TypeId} {xs ys:List Value} (ht:t' ≠ t) (hr:W.ownsRow B t sz v n xs) (ho:W.ownsRow B' t' sz' r n' ys) (hg:W.grownBy W' r.ownBlock):W'.ownsRow B t sz v n xs:=by
 refine ⟨hr.1,hr.2.imp id ?_⟩
 rintro ⟨g,cap,cur,e,hgb,hh,rest⟩
 refine ⟨g,cap,cur,e,hgb,(hg.block g (Array.getElem?_eq_some_iff.1 hh).1 (fun e2=>?_)).trans hh,rest⟩
 rcases id ho.2 with ⟨e1,_⟩ | ⟨g',cap',cur',e1,_,hh',_⟩
 ·rw [e1] at e2; simp [Value.ownBlock] at e2
 ·rw [e1] at e2
  simp only [Value.ownBlock,Option.some.injEq] at e2
  rw [e2,hh'] at hh
  simp only [Option.some.injEq,Obj.cells.injEq] at hh
  exact ht hh.2.1
end Go.Proofs.YtdfdpghdjlgghaaGreat
namespace Go.Proofs.YtdfdpghdjlgghaaGreat
open Go.ChangeShapes Go.WideShapes Go.ChangeAt Go.RowKit
set_option linter.unusedVariables false
set_option linter.unusedSimpArgs false
set_option maxRecDepth 100000
open Go.BigFrame
attribute [local go_sem ↓] run_max_two run_min_two run_max_three
set_option maxHeartbeats 1000000 in
theorem r2point (x:Int) (w:World) :
  Calls Tryz.prog 30 #[.int .i64 x] w fun e w'=>e = .returned (.agg #[.int .i64 (mkLo x x),.int .i64 (mkHi x x)])∧Below w.heap.size w w':=by
 have c:=fun w=>r2new x x w
 generalize mkLo x x = p at *
 generalize mkHi x x = q at *
 go_enter Tryz.func30,Tryz.ntmps30
 go_wp2_with (fail)
 generalize hW0:World.alloc w _ = W0
 have hT0:Below w.heap.size w W0:=by subst hW0; exact ((Below.refl w.heap.size w).alloc (by go_size) _)
 have S0:∀ g:Grown W0,w.heap.size < g.w.heap.size:=fun g=>Nat.lt_of_lt_of_le (by subst hW0; simp <;> omega) g.h.size
 have Y0:w.heap.size < W0.heap.size:=by subst hW0; simp <;> omega
 have F00:∀ g:Grown W0,g.w.cell? ⟨w.heap.size,0,none⟩ = some (.int .i64 0):=fun g=>(g.cell Y0).trans (by subst hW0; simp [go_sem])
 have H00:∀ g:Grown W0,g.w.frozen? ⟨w.heap.size,0,none⟩ = false:=fun g=>(g.frozen Y0).trans (by subst hW0; simp [go_sem])
 have F01:∀ g:Grown W0,g.w.cell? ⟨w.heap.size,1,none⟩ = some (.int .i64 0):=fun g=>(g.cell Y0).trans (by subst hW0; simp [go_sem])
 have H01:∀ g:Grown W0,g.w.frozen? ⟨w.heap.size,1,none⟩ = false:=fun g=>(g.frozen Y0).trans (by subst hW0; simp [go_sem])
 clear Y0
 clear hW0
 obtain ⟨g0,hg0⟩:∃ g:Grown W0,W0 = g.w:=⟨⟨W0,Below.refl _ _⟩,rfl⟩
 rw [hg0]
 clear hg0
 refine (c _).mono ?_
 rintro e1 w1 ⟨rfl,hB1⟩
 obtain ⟨g1,rfl⟩:=grow g0 hB1
 clear hB1
 go_wp2_with (fail)
 have hB:Below w.heap.size w g1.w:=below_then hT0 g1.h
 refine bodyPost_ret (v:=.agg #[.int .i64 p,.int .i64 q]) (by simp [results,Tryz.results30,go_sem,F00,F01]) rfl ⟨rfl,?_⟩
 go_grown

end Go.Proofs.YtdfdpghdjlgghaaGreat
