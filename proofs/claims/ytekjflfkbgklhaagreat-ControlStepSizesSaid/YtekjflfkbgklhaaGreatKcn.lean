/-
 U6
-/
import Derived.Test.YtekjflfkbgklhaaGreatKcm
namespace Go.Proofs.YtekjflfkbgklhaaGreat
open Go.ChangeShapes Go.WideShapes Go.ChangeAt Go.RowKit
set_option linter.unusedVariables false
set_option linter.unusedSimpArgs false
set_option maxRecDepth 100000
attribute [local irreducible] Calls
theorem set_fill {vals:List (Int × Int)} {k N:Nat} {v:Int × Int} (hv:vals.length = k) (hk:k < N):(vals ++ List.replicate (N - k) ((0:Int),(0:Int))).set k v = (vals ++ [v]) ++ List.replicate (N - (k+1)) (0,0):=by
 rw [List.set_append_right _ _ (by omega),hv,Nat.sub_self,show N - k = N - (k+1)+1 by omega,List.replicate_succ,List.set_cons_zero,List.append_assoc]
 rfl
theorem own_slice {B n sz:Nat} {w:World} {v:Value} {t:TypeId} {xs:List Value} (h:w.ownsRow B t sz v n xs):∃ p c,v = .slice p n c:=by
 rcases id h.2 with ⟨rfl,h0⟩ | ⟨g,cap,cur,rfl,_⟩
 ·subst h0
  exact ⟨none,0,rfl⟩
 ·exact ⟨_,_,rfl⟩
theorem new_b (w:World) (x:Int × Int):∀ j u,(encB x)[j]? = some u→(w.alloc (.cells #[.int .i64 x.1,.int .i64 x.2] 59)).cell? ((⟨w.heap.size,0,none⟩:Addr).add j) = some u:=by
 intro j u hj
 have hk:j < 2:=by have:=(List.getElem?_eq_some_iff.1 hj).1; simpa [encB] using this
 unfold encB at hj
 match j,hk,hj with
 | 0,_,hj=>cases hj; simp [Addr.add,go_sem]
 | 1,_,hj=>cases hj; simp [Addr.add,go_sem]
theorem one_b (x:Int × Int):∀ u ∈ encB x,u.oneCell' = true:=by
 intro u hu
 simp only [encB,List.mem_cons,List.not_mem_nil,or_false] at hu
 rcases hu with rfl | rfl <;> rfl
def outV (vals:List (Int × Int)) (out:List Int):List (Int × Int):=out.map (fun y=>vals.getD y.toNat (0,0))
theorem evI_two {X:List (Int × Int)} {t:Int × Int} {vals:List (Int × Int)} {op lo hi:Int} {m j:Nat} {p q:Int × Int} (h1:op ≠ 1) (h2:op ≠ 2) (h3:op ≠ 3) (hm:vals[m]? = some p) (hj:vals[j]? = some q):evI X t vals ⟨op,m,j,lo,hi⟩ = opI op p q:=by
 unfold evI
 dsimp only
 rw [if_neg h1,if_neg h2,if_neg h3,Int.toNat_natCast,Int.toNat_natCast,List.getD_eq_getElem?_getD,List.getD_eq_getElem?_getD,hm,hj]
 rfl
theorem row_put {B vb N k:Nat} {W:World} {vals:List (Int × Int)} (p q:Int) (h:W.ownsRow B 59 2 (.slice (some ⟨vb,0,none⟩) N N) N (cr encB (vals ++ List.replicate (N - k) (0,0)))) (hv:vals.length = k) (hk:k < N) :
  W.cell? ⟨vb,k * 2,none⟩ = some (.int .i64 0)∧W.cell? ⟨vb,k * 2+1,none⟩ = some (.int .i64 0)∧W.frozen? ⟨vb,k * 2,none⟩ = false∧W.frozen? ⟨vb,k * 2+1,none⟩ = false∧((W.setCell ⟨vb,k * 2,none⟩ (.int .i64 p)).setCell ⟨vb,k * 2+1,none⟩ (.int .i64 q)).ownsRow B 59 2 (.slice (some ⟨vb,0,none⟩) N N) N (cr encB ((vals ++ [(p,q)]) ++ List.replicate (N - (k+1)) (0,0))):=by
 have hx:(vals ++ List.replicate (N - k) ((0:Int),(0:Int)))[k]? = some (0,0):=by
  rw [List.getElem?_append_right (by omega),hv,Nat.sub_self,List.getElem?_replicate,if_pos (by omega)]
 have c0:=h.cellAt (k * 2) (by omega)
 have c1:=h.cellAt (k * 2+1) (by omega)
 have s1:=h.stored (k * 2) (.int .i64 p)
 have s2:=s1.1.stored (k * 2+1) (.int .i64 q)
 rw [← crB_set2,set_fill hv hk] at s2
 exact ⟨c0.trans (cr_get encB_len k _ hx 0 _ rfl),c1.trans (cr_get encB_len k _ hx 1 _ rfl),h.frozenAt _,h.frozenAt _,s2.1⟩
theorem row_get {B vb N k j:Nat} {W:World} {vals:List (Int × Int)} {x y:Int} (h:W.ownsRow B 59 2 (.slice (some ⟨vb,0,none⟩) N N) N (cr encB (vals ++ List.replicate (N - k) (0,0)))) (hv:vals.length = k) (hk:k ≤ N) (hj:vals[j]? = some (x,y)) :
  W.cell? ⟨vb,j * 2,none⟩ = some (.int .i64 x)∧W.cell? ⟨vb,j * 2+1,none⟩ = some (.int .i64 y):=by
 have hjk:=(List.getElem?_eq_some_iff.1 hj).1
 have hx:(vals ++ List.replicate (N - k) ((0:Int),(0:Int)))[j]? = some (x,y):=by rw [List.getElem?_append_left hjk]; exact hj
 exact ⟨(h.cellAt (j * 2) (by omega)).trans (cr_get encB_len j _ hx 0 _ rfl),(h.cellAt (j * 2+1) (by omega)).trans (cr_get encB_len j _ hx 1 _ rfl)⟩
set_option maxHeartbeats 16000000 in
theorem eval_ok (vl vo vx:Value) (t1 t2:Int) (L:List Is) (out:List Int) (X:List (Int × Int)) (w:World) (hl:Ix w vl L) (ho:Px w vo out) (hx:Vx w vx X) (htv:tvB X.length L out = true) (hvx:∀ p ∈ X,VI p.1 p.2) (hvt:VI t1 t2) :
  Calls Tryz.prog 140 #[.agg #[.int .i64 X.length,vl,vo],vx,.agg #[.int .i64 t1,.int .i64 t2]] w fun e w'=>∃ u,e = .returned u∧Vx w' u (outV (evL X (t1,t2) L) out)∧Below w.heap.size w w':=by
 obtain ⟨i0,hi,hz0,hz1,hz2⟩:=info_parts info_ivB
 obtain ⟨pl,cl,rfl⟩:=hl.cut
 obtain ⟨po,co,rfl⟩:=ho.cut
 obtain ⟨px,cx,rfl⟩:=hx.cut
 obtain ⟨n1,n6,n400,nout,hvin,hout⟩:=tv_cases htv
 have hba:Below w.heap.size w ((w.alloc (.cells #[.int .i64 X.length,.slice pl L.length cl,.slice po out.length co] 39)).alloc (.cells #[.int .i64 t1,.int .i64 t2] 59)):=((Below.refl _ _).alloc (Nat.le_refl _) _).alloc (by rw [alloc_sz]; omega) _
 have hX:((w.alloc (.cells #[.int .i64 X.length,.slice pl L.length cl,.slice po out.length co] 39)).alloc (.cells #[.int .i64 t1,.int .i64 t2] 59)).heap[w.heap.size]? = some (.cells #[.int .i64 X.length,.slice pl L.length cl,.slice po out.length co] 39 (0,0)):=(((Below.refl _ (w.alloc (.cells #[.int .i64 X.length,.slice pl L.length cl,.slice po out.length co] 39))).alloc (Nat.le_refl _) _).block _ (by rw [alloc_sz]; omega)).trans (World.alloc_heap_new w _)
 have hY:((w.alloc (.cells #[.int .i64 X.length,.slice pl L.length cl,.slice po out.length co] 39)).alloc (.cells #[.int .i64 t1,.int .i64 t2] 59)).heap[w.heap.size+1]? = some (.cells #[.int .i64 t1,.int .i64 t2] 59 (0,0)):=by
  have:=World.alloc_heap_new (w.alloc (.cells #[.int .i64 X.length,.slice pl L.length cl,.slice po out.length co] 39)) (.cells #[.int .i64 t1,.int .i64 t2] 59)
  rwa [alloc_sz] at this
 have x0:((w.alloc (.cells #[.int .i64 X.length,.slice pl L.length cl,.slice po out.length co] 39)).alloc (.cells #[.int .i64 t1,.int .i64 t2] 59)).cell? ⟨w.heap.size,0,none⟩ = _:=heapN_cellj hX (k:=0) rfl
 have x1:((w.alloc (.cells #[.int .i64 X.length,.slice pl L.length cl,.slice po out.length co] 39)).alloc (.cells #[.int .i64 t1,.int .i64 t2] 59)).cell? ⟨w.heap.size,1,none⟩ = _:=heapN_cellj hX (k:=1) rfl
 have x2:((w.alloc (.cells #[.int .i64 X.length,.slice pl L.length cl,.slice po out.length co] 39)).alloc (.cells #[.int .i64 t1,.int .i64 t2] 59)).cell? ⟨w.heap.size,2,none⟩ = _:=heapN_cellj hX (k:=2) rfl
 have KV:=Lib.hid (fun w a b=>tvalid_ok X.length (.slice pl L.length cl) (.slice po out.length co) L out w a b)
 rw [htv] at KV
 have HL:=Lib.hid hl
 have HO:=Lib.hid ho
 have HXX:=Lib.hid hx
 have HX:=Lib.hid hX
 have HY:=Lib.hid hY
 have HB:=Lib.hid hba
 have HVIN:=Lib.hid hvin
 have HOUT:=Lib.hid hout
 have HVX:=Lib.hid hvx
 have HVT:=Lib.hid hvt
 have NO:=Lib.hid nout
 clear hl ho hx hX hY hba hvin hout hvx hvt htv nout
 go_enter Tryz.func140,Tryz.ntmps140
 go_wp2_with (fail)
 refine (KV.out _ (HL.out.grow HB.out) (HO.out.grow HB.out)).mono ?_
 rintro e w1 ⟨rfl,hB1⟩
 have hb1:=below_then HB.out hB1
 have X1:=Lib.hid ((hB1.block _ (Array.getElem?_eq_some_iff.1 HX.out).1).trans HX.out)
 have Y1:=Lib.hid ((hB1.block _ (Array.getElem?_eq_some_iff.1 HY.out).1).trans HY.out)
 have B1:=Lib.hid hb1
 have y0:=heapN_cellj X1.out (k:=0) (u:=.int .i64 X.length) rfl
 clear hB1 hb1 KV HB HX HY x0 x1 x2
 go_wp2_with (fail)
 refine (operations_ok w1).mono ?_
 rintro e w2 ⟨xb,yb,zb,rfl,g1,g2,g3,hB2⟩
 clear y0
 have hs2:=(Array.getElem?_eq_some_iff.1 Y1.out).1
 have hbb:Below w1.heap.size w1 (w2.alloc (.cells (opsC xb yb zb) 166)):=hB2.alloc hB2.size _
 have hb3:=below_then B1.out hbb
 have X3:=Lib.hid ((hbb.block _ (Array.getElem?_eq_some_iff.1 X1.out).1).trans X1.out)
 have Y3:=Lib.hid ((hbb.block _ hs2).trans Y1.out)
 have hgw:Below w2.heap.size w2 (w2.alloc (.cells (opsC xb yb zb) 166)):=(Below.refl _ _).alloc (Nat.le_refl _) _
 have G1:=Lib.hid ((hgw.block _ (Array.getElem?_eq_some_iff.1 g1).1).trans g1)
 have G2:=Lib.hid ((hgw.block _ (Array.getElem?_eq_some_iff.1 g2).1).trans g2)
 have G3:=Lib.hid ((hgw.block _ (Array.getElem?_eq_some_iff.1 g3).1).trans g3)
 have O3:=Lib.hid (World.alloc_heap_new w2 (.cells (opsC xb yb zb) 166))
 have B3:=Lib.hid hb3
 have hs3:w.heap.size+1 < w2.heap.size:=Nat.lt_of_lt_of_le hs2 hB2.size
 have z1:=heapN_cellj X3.out (k:=1) (u:=.slice pl L.length cl) rfl
 have W3D:∃ w3,w2.alloc (.cells (opsC xb yb zb) 166) = w3:=⟨_,rfl⟩
 have qmk:(Instr.makeSlice 25 (.int .i64 (L.length:Int)) (.int .i64 (L.length:Int))).run Tryz.prog (w2.alloc (.cells (opsC xb yb zb) 166)) = .ok (.slice (some ⟨w2.heap.size+1,0,none⟩) L.length L.length) ((w2.alloc (.cells (opsC xb yb zb) 166)).alloc (.cells (madeCells (Value.cells (.agg #[.int .i64 0,.int .i64 0])) (L.length * 2)) 59)):=by
  have:=run_make (P:=Tryz.prog) (w2.alloc (.cells (opsC xb yb zb) 166)) 25 59 i0 _ Tryz.underlying25 hi hz0 .i64 .i64 L.length L.length (by omega) (Int.le_refl _) (by rw [hz2]; omega) (by omega)
  rw [hz1,alloc_sz] at this
  simpa using this
 obtain ⟨w5,hw5⟩:∃ w5,(w2.alloc (.cells (opsC xb yb zb) 166)).alloc (.cells (madeCells (Value.cells (.agg #[.int .i64 0,.int .i64 0])) (L.length * 2)) 59) = w5:=⟨_,rfl⟩
 rw [hw5] at qmk
 have hb5:Below (w2.heap.size+1) (w2.alloc (.cells (opsC xb yb zb) 166)) w5:=by
  rw [← hw5,← alloc_sz w2 (.cells (opsC xb yb zb) 166)]
  exact (Below.refl _ _).alloc (Nat.le_refl _) _
 have hrow5:w5.ownsRow (w2.heap.size+1) 59 2 (.slice (some ⟨w2.heap.size+1,0,none⟩) L.length L.length) L.length (cr encB (List.replicate L.length ((0:Int),(0:Int)))):=by
  rw [← hw5,← made_zeroB,← alloc_sz w2 (.cells (opsC xb yb zb) 166)]
  exact World.ownsRow_lit _ _ L.length (Nat.le_refl _) (by unfold maxLen; omega) (size_madeCells _ _)
 have z2:=heapN_cellj ((hb5.block _ (show w.heap.size < w2.heap.size+1 by omega)).trans X3.out) (k:=1) (u:=.slice pl L.length cl) rfl
 have HB5:=Lib.hid hb5
 have HR5:=Lib.hid hrow5
 clear hB2 hbb hb3 hgw g1 g2 g3 hs2 X1 Y1 B1 W3D hb5 hrow5 hw5
 unfold opsC at z1 qmk
 unfold opsC
 go_wp2_with (fail)
 have hb5:=HB5.out
 have X5:=Lib.hid ((hb5.block _ (show w.heap.size < w2.heap.size+1 by omega)).trans X3.out)
 have Y5:=Lib.hid ((hb5.block _ (show w.heap.size+1 < w2.heap.size+1 by omega)).trans Y3.out)
 have O5:=Lib.hid ((hb5.block w2.heap.size (by omega)).trans O3.out)
 have hgx:=(show xb < w2.heap.size+1 by rw [← alloc_sz w2 (.cells (opsC xb yb zb) 166)]; exact (Array.getElem?_eq_some_iff.1 G1.out).1)
 have hgy:=(show yb < w2.heap.size+1 by rw [← alloc_sz w2 (.cells (opsC xb yb zb) 166)]; exact (Array.getElem?_eq_some_iff.1 G2.out).1)
 have hgz:=(show zb < w2.heap.size+1 by rw [← alloc_sz w2 (.cells (opsC xb yb zb) 166)]; exact (Array.getElem?_eq_some_iff.1 G3.out).1)
 have G15:Hid (Boxed w5 xb 136 (.func (.func 149) #[] #[])):=Lib.hid ((hb5.block _ hgx).trans G1.out)
 have G25:Hid (Boxed w5 yb 136 (.func (.func 150) #[] #[])):=Lib.hid ((hb5.block _ hgy).trans G2.out)
 have G35:Hid (Boxed w5 zb 136 (.func (.func 178) #[] #[])):=Lib.hid ((hb5.block _ hgz).trans G3.out)
 have B5:=Lib.hid (B3.out.trans (hb5.mono (by omega)))
 have hs5:w2.heap.size+1 ≤ w5.heap.size:=by have:=hb5.size; rw [alloc_sz] at this; exact this
 clear hb5 X3 Y3 O3 G1 G2 G3 B3 HB5 z1 z2 qmk
 go_loopw [32] (fun i wr=>∃ k:Nat,i = .int .i64 k∧k ≤ L.length∧Hid (wr.ownsRow (w2.heap.size+1) 59 2 (.slice (some ⟨w2.heap.size+1,0,none⟩) L.length L.length) L.length (cr encB (evL X (t1,t2) (L.take k) ++ List.replicate (L.length - k) (0,0))))∧Below (w2.heap.size+1) w5 wr) (fun i _=>L.length - (intOf i).toNat)
 case atStart=>exact ⟨0,rfl,Nat.zero_le _,Lib.hid (by simpa [evL] using HR5.out),Below.refl _ _⟩
 case round =>
  clear HR5
  obtain ⟨k,rfl,hk,HR,hB⟩:=hrel
  have hsr:=hB.size
  have hBw:=B5.out.trans (hB.mono (show w.heap.size ≤ w2.heap.size+1 by omega))
  have hXr:=(hB.block _ (show w.heap.size < w2.heap.size+1 by omega)).trans X5.out
  by_cases hlt:k < L.length
  ·have i2:(k:Int) < L.length:=by omega
   obtain ⟨⟨op,a,b,lo,hi'⟩,hx⟩:∃ x,L[k]? = some x:=⟨_,List.getElem?_eq_getElem hlt⟩
   have hvi:=vin_cases (HVIN.out k _ hx)
   have hsn:=evL_snoc (X:=X) (t:=(t1,t2)) hx
   have hvl:(evL X (t1,t2) (L.take k)).length = k:=by rw [evL_len,List.length_take]; omega
   have hvv:∀ p ∈ evL X (t1,t2) (L.take k),VI p.1 p.2:=evL_vi (n:=X.length) HVX.out HVT.out (fun j x hj=>HVIN.out j x (by
    rw [List.getElem?_take] at hj
    split at hj
    ·exact hj
    ·cases hj))
   obtain ⟨bb,o,rfl,hbs,rd⟩:=is_rd HL.out hx
   obtain ⟨f0,f1,f2,f3,f4⟩:=rd ⟨wr,hBw⟩
   dsimp only at f0 f1 f2 f3 f4 hvi
   have hBa:Below (w2.heap.size+1) w5 (wr.alloc (.cells #[.int .i64 op,.int .i64 a,.int .i64 b,.int .i64 lo,.int .i64 hi'] 112)):=hB.alloc (by omega) _
   have hRa:=HR.out.alloc (.cells #[.int .i64 op,.int .i64 a,.int .i64 b,.int .i64 lo,.int .i64 hi'] 112)
   obtain ⟨vals,hvals⟩:∃ vals,evL X (t1,t2) (L.take k) = vals:=⟨_,rfl⟩
   rw [hvals] at hsn hvl hvv hRa HR
   have HSN:=Lib.hid hsn
   have HRA:=Lib.hid hRa
   have HBA:=Lib.hid hBa
   clear hsn hBa hRa rd hx hvals
   rcases hvi with ⟨rfl,hvi⟩ | ⟨rfl,ha0,han⟩ | rfl | ⟨hop,hb00,ha0,hak⟩ | ⟨hop,ha0,hak,hb0,hbk⟩
   ·-- a constant
    have he:evI X (t1,t2) vals ⟨1,a,b,lo,hi'⟩ = (lo,hi'):=rfl
    obtain ⟨c0,c1,z0,z1,hput⟩:=row_put lo hi' HRA.out hvl hlt
    have HP:=Lib.hid hput
    clear hput
    go_wp2_with (fail)
    go_roundw
    case rel=>exact ⟨k+1,by go_num,by omega,Lib.hid (by rw [HSN.out,he]; exact HP.out),(HBA.out.setCell (p:=⟨w2.heap.size+1,k * 2,none⟩) (Nat.le_refl _) _).setCell (p:=⟨w2.heap.size+1,k * 2+1,none⟩) (Nat.le_refl _) _⟩
    case measure=>simp [intOf]; omega
   ·-- a coordinate
    obtain ⟨m,rfl⟩:∃ m:Nat,a = m:=⟨a.toNat,by omega⟩
    obtain ⟨⟨p,q⟩,hxm⟩:∃ x,X[m]? = some x:=⟨_,List.getElem?_eq_getElem (by omega)⟩
    have he:evI X (t1,t2) vals ⟨2,m,b,lo,hi'⟩ = (p,q):=by
     show X.getD (m:Int).toNat (0,0) = _
     rw [Int.toNat_natCast,List.getD_eq_getElem?_getD,hxm]; rfl
    obtain ⟨bx,ox,rfl,hbx,rdx⟩:=vx_rd HXX.out hxm
    obtain ⟨r0,r1⟩:=rdx ⟨(wr.alloc (.cells #[.int .i64 2,.int .i64 (m:Int),.int .i64 b,.int .i64 lo,.int .i64 hi'] 112)),B5.out.trans (HBA.out.mono (show w.heap.size ≤ w2.heap.size+1 by omega))⟩
    dsimp only at r0 r1
    obtain ⟨c0,c1,z0,z1,hput⟩:=row_put p q HRA.out hvl hlt
    have HP:=Lib.hid hput
    clear hput rdx hxm
    go_wp2_with (fail)
    go_roundw
    case rel=>exact ⟨k+1,by go_num,by omega,Lib.hid (by rw [HSN.out,he]; exact HP.out),(HBA.out.setCell (p:=⟨w2.heap.size+1,k * 2,none⟩) (Nat.le_refl _) _).setCell (p:=⟨w2.heap.size+1,k * 2+1,none⟩) (Nat.le_refl _) _⟩
    case measure=>simp [intOf]; omega
   ·-- the time
    have he:evI X (t1,t2) vals ⟨3,a,b,lo,hi'⟩ = (t1,t2):=rfl
    have hy:=(HBA.out.block _ (show w.heap.size+1 < w2.heap.size+1 by omega)).trans Y5.out
    have r0:=heapN_cellj hy (k:=0) rfl
    have r1:=heapN_cellj hy (k:=1) rfl
    obtain ⟨c0,c1,z0,z1,hput⟩:=row_put t1 t2 HRA.out hvl hlt
    have HP:=Lib.hid hput
    clear hput hy
    go_wp2_with (fail)
    go_roundw
    case rel=>exact ⟨k+1,by go_num,by omega,Lib.hid (by rw [HSN.out,he]; exact HP.out),(HBA.out.setCell (p:=⟨w2.heap.size+1,k * 2,none⟩) (Nat.le_refl _) _).setCell (p:=⟨w2.heap.size+1,k * 2+1,none⟩) (Nat.le_refl _) _⟩
    case measure=>simp [intOf]; omega
   ·-- one operand
    obtain ⟨m,rfl⟩:∃ m:Nat,a = m:=⟨a.toNat,by omega⟩
    obtain ⟨⟨p1,p2⟩,hpm⟩:∃ x,vals[m]? = some x:=⟨_,List.getElem?_eq_getElem (by omega)⟩
    have i5:(m:Int) < L.length:=by omega
    have hp:=hvv _ (List.mem_of_getElem? hpm)
    dsimp only at hp
    obtain ⟨j,hj⟩:∃ j:Nat,b = j:=⟨0,hb00⟩
    have hjk:j < k:=by omega
    subst hj
    clear hb00
    obtain ⟨⟨q1,q2⟩,hqm⟩:∃ x,vals[j]? = some x:=⟨_,List.getElem?_eq_getElem (by omega)⟩
    have i6:(j:Int) < L.length:=by omega
    have hq:=hvv _ (List.mem_of_getElem? hqm)
    dsimp only at hq
    by_cases h4:op = 4
    ·as_aux_lemma =>
     subst h4
     obtain ⟨⟨r1,r2⟩,hr⟩:∃ r,opI 4 (p1,p2) (q1,q2) = r:=⟨_,rfl⟩
     have he:evI X (t1,t2) vals ⟨4,m,j,lo,hi'⟩ = (r1,r2):=(evI_two (by decide) (by decide) (by decide) hpm hqm).trans hr
     have hr1:-p2 = r1:=congrArg Prod.fst hr
     have hr2:-p1 = r2:=congrArg Prod.snd hr
     have KF:=Lib.hid (fun w h=>first_neg p1 p2 q1 q2 xb w hp h)
     rw [hr1,hr2] at KF
     clear hr1 hr2 hr
     have ic:=IsC.new wr ⟨4,m,j,lo,hi'⟩
     dsimp only at ic
     have h0:=fun g:Grown (wr.alloc (.cells #[.int .i64 4,.int .i64 (m:Int),.int .i64 (j:Int),.int .i64 lo,.int .i64 hi'] 112))=>(ic.grow g.h).c0
     have h1':=fun g:Grown (wr.alloc (.cells #[.int .i64 4,.int .i64 (m:Int),.int .i64 (j:Int),.int .i64 lo,.int .i64 hi'] 112))=>(ic.grow g.h).c1
     have h2':=fun g:Grown (wr.alloc (.cells #[.int .i64 4,.int .i64 (m:Int),.int .i64 (j:Int),.int .i64 lo,.int .i64 hi'] 112))=>(ic.grow g.h).c2
     dsimp only at h0 h1' h2'
     have oc:=fun g:Grown (wr.alloc (.cells #[.int .i64 4,.int .i64 (m:Int),.int .i64 (j:Int),.int .i64 lo,.int .i64 hi'] 112))=>heapN_cellj ((g.h.block w2.heap.size (by rw [alloc_sz]; omega)).trans ((HBA.out.block w2.heap.size (by omega)).trans O5.out)) (k:=4) (u:=.func (.func 191) #[] #[.pointer (some ⟨xb,0,none⟩)]) rfl
     have va0:=fun g:Grown (wr.alloc (.cells #[.int .i64 4,.int .i64 (m:Int),.int .i64 (j:Int),.int .i64 lo,.int .i64 hi'] 112))=>(row_get (own_keptN HRA.out g.h) hvl hk hpm).1
     have va1:=fun g:Grown (wr.alloc (.cells #[.int .i64 4,.int .i64 (m:Int),.int .i64 (j:Int),.int .i64 lo,.int .i64 hi'] 112))=>(row_get (own_keptN HRA.out g.h) hvl hk hpm).2
     have vb0:=fun g:Grown (wr.alloc (.cells #[.int .i64 4,.int .i64 (m:Int),.int .i64 (j:Int),.int .i64 lo,.int .i64 hi'] 112))=>(row_get (own_keptN HRA.out g.h) hvl hk hqm).1
     have vb1:=fun g:Grown (wr.alloc (.cells #[.int .i64 4,.int .i64 (m:Int),.int .i64 (j:Int),.int .i64 lo,.int .i64 hi'] 112))=>(row_get (own_keptN HRA.out g.h) hvl hk hqm).2
     have GX:=fun g:Grown (wr.alloc (.cells #[.int .i64 4,.int .i64 (m:Int),.int .i64 (j:Int),.int .i64 lo,.int .i64 hi'] 112))=>(show Boxed g.w xb 136 (.func (.func 149) #[] #[]) from (g.h.block xb (by rw [alloc_sz]; omega)).trans ((HBA.out.block xb (by omega)).trans G15.out))
     clear ic
     go_wp2_with (fail)
     refine region_pred_n 18 (lk [(39,fun z_ _=>z_ = .slice (some ⟨w2.heap.size+1,0,none⟩) L.length L.length),(40,fun z_ _=>z_ = .int .i64 (k:Int)),(41,fun z_ _=>z_ = .pointer (some ⟨wr.heap.size,0,none⟩)),(42,fun z_ _=>z_ = .int .i64 4),(43,fun z_ _=>z_ = .pointer (some ⟨w2.heap.size,4,none⟩)),(44,fun z_ _=>z_ = .func (.func 191) #[] #[.pointer (some ⟨xb,0,none⟩)]),(45,fun z_ _=>z_ = .slice (some ⟨w2.heap.size+1,0,none⟩) L.length L.length),(46,fun z_ _=>z_ = .pointer (some ⟨wr.heap.size,1,none⟩)),(47,fun z_ _=>z_ = .int .i64 (m:Int)),(48,fun z_ _=>z_ = .pointer (some ⟨w2.heap.size+1,m * 2,none⟩)),(49,fun z_ _=>z_ = .agg #[.int .i64 p1,.int .i64 p2]),(50,fun z_ _=>z_ = .slice (some ⟨w2.heap.size+1,0,none⟩) L.length L.length),(51,fun z_ _=>z_ = .pointer (some ⟨wr.heap.size,2,none⟩)),(52,fun z_ _=>z_ = .int .i64 (j:Int)),(53,fun z_ _=>z_ = .pointer (some ⟨w2.heap.size+1,j * 2,none⟩)),(54,fun z_ _=>z_ = .agg #[.int .i64 q1,.int .i64 q2]),(55,fun z_ _=>z_ = .agg #[.int .i64 r1,.int .i64 r2]),(56,fun z_ _=>z_ = .pointer (some ⟨w2.heap.size+1,k * 2,none⟩))]) (by kernel_rfl) (by kernel_rfl) (lk_steady _ ⟨steady_eq _,steady_eq _,steady_eq _,steady_eq _,steady_eq _,steady_eq _,steady_eq _,steady_eq _,steady_eq _,steady_eq _,steady_eq _,steady_eq _,steady_eq _,steady_eq _,steady_eq _,steady_eq _,steady_eq _,steady_eq _,trivial⟩) ?_ ?_
     ·refine ⟨?_,?_,?_,?_,?_,?_,?_,?_,?_,?_,?_,?_,?_,?_,?_,?_,?_,?_,trivial⟩
      ·refine ob_plain [8] rfl rfl fun aa g h=>?_
       have yy0:=seen_out (v:=.slice (some ⟨w2.heap.size+1,0,none⟩) L.length L.length) rfl rfl h.1
       exact tvS (by simp [go_sem,yy0]) rfl
      ·refine ob_plain [9] rfl rfl fun aa g h=>?_
       have yy0:=seen_out (v:=.int .i64 (k:Int)) rfl rfl h.1
       exact tvS (by simp [go_sem,yy0]) rfl
      ·refine ob_plain [10] rfl rfl fun aa g h=>?_
       have yy0:=seen_out (v:=.pointer (some ⟨wr.heap.size,0,none⟩)) rfl rfl h.1
       exact tvS (by simp [go_sem,yy0]) rfl
      ·refine ob_plain [41] rfl rfl fun aa g h=>?_
       obtain ⟨_,yy0,rfl⟩:=seen_in rfl h.1
       exact tvS (by simp [go_sem,yy0,h0 g]) rfl
      ·refine ob_plain [7,42] rfl rfl fun aa g h=>?_
       have yy0:=seen_out (v:=.pointer (some ⟨w2.heap.size,0,none⟩)) rfl rfl h.1
       obtain ⟨_,yy1,rfl⟩:=seen_in rfl h.2.1
       exact tvS (by simp [go_sem,yy0,yy1]) rfl
      ·refine ob_plain [43] rfl rfl fun aa g h=>?_
       obtain ⟨_,yy0,rfl⟩:=seen_in rfl h.1
       exact tvS (by simp [go_sem,yy0,oc g]) rfl
      ·refine ob_plain [8] rfl rfl fun aa g h=>?_
       have yy0:=seen_out (v:=.slice (some ⟨w2.heap.size+1,0,none⟩) L.length L.length) rfl rfl h.1
       exact tvS (by simp [go_sem,yy0]) rfl
      ·refine ob_plain [10] rfl rfl fun aa g h=>?_
       have yy0:=seen_out (v:=.pointer (some ⟨wr.heap.size,0,none⟩)) rfl rfl h.1
       exact tvS (by simp [go_sem,yy0]) rfl
      ·refine ob_plain [46] rfl rfl fun aa g h=>?_
       obtain ⟨_,yy0,rfl⟩:=seen_in rfl h.1
       exact tvS (by simp [go_sem,yy0,h1' g]) rfl
      ·refine ob_plain [45,47] rfl rfl fun aa g h=>?_
       obtain ⟨_,yy0,rfl⟩:=seen_in rfl h.1
       obtain ⟨_,yy1,rfl⟩:=seen_in rfl h.2.1
       exact tvS (by simp [go_sem,yy0,yy1,i5]) rfl
      ·refine ob_plain [48] rfl rfl fun aa g h=>?_
       obtain ⟨_,yy0,rfl⟩:=seen_in rfl h.1
       exact tvS (by simp [go_sem,yy0,va0 g,va1 g]) rfl
      ·refine ob_plain [8] rfl rfl fun aa g h=>?_
       have yy0:=seen_out (v:=.slice (some ⟨w2.heap.size+1,0,none⟩) L.length L.length) rfl rfl h.1
       exact tvS (by simp [go_sem,yy0]) rfl
      ·refine ob_plain [10] rfl rfl fun aa g h=>?_
       have yy0:=seen_out (v:=.pointer (some ⟨wr.heap.size,0,none⟩)) rfl rfl h.1
       exact tvS (by simp [go_sem,yy0]) rfl
      ·refine ob_plain [51] rfl rfl fun aa g h=>?_
       obtain ⟨_,yy0,rfl⟩:=seen_in rfl h.1
       exact tvS (by simp [go_sem,yy0,h2' g]) rfl
      ·refine ob_plain [50,52] rfl rfl fun aa g h=>?_
       obtain ⟨_,yy0,rfl⟩:=seen_in rfl h.1
       obtain ⟨_,yy1,rfl⟩:=seen_in rfl h.2.1
       exact tvS (by simp [go_sem,yy0,yy1,i6]) rfl
      ·refine ob_plain [53] rfl rfl fun aa g h=>?_
       obtain ⟨_,yy0,rfl⟩:=seen_in rfl h.1
       exact tvS (by simp [go_sem,yy0,vb0 g,vb1 g]) rfl
      ·refine ob_plain [44,49,54] rfl rfl fun aa g h=>?_
       obtain ⟨_,yy0,rfl⟩:=seen_in rfl h.1
       obtain ⟨_,yy1,rfl⟩:=seen_in rfl h.2.1
       obtain ⟨_,yy2,rfl⟩:=seen_in rfl h.2.2.1
       refine tupon_enter (f:=191) (args:=#[.agg #[.int .i64 p1,.int .i64 p2],.agg #[.int .i64 q1,.int .i64 q2],.pointer (some ⟨xb,0,none⟩)]) (by simp [go_sem,yy0,yy1,yy2]) rfl ?_
       exact (KF.out g.w (GX g)).mono fun e w' ⟨he,hB⟩=>⟨_,he,hB,rfl⟩
      ·refine ob_plain [39,40] rfl rfl fun aa g h=>?_
       obtain ⟨_,yy0,rfl⟩:=seen_in rfl h.1
       obtain ⟨_,yy1,rfl⟩:=seen_in rfl h.2.1
       exact tvS (by simp [go_sem,yy0,yy1,i2]) rfl
     rintro w9 hB9 _ rfl _ rfl _ rfl _ rfl _ rfl _ rfl _ rfl _ rfl _ rfl _ rfl _ rfl _ rfl _ rfl _ rfl _ rfl _ rfl _ rfl _ rfl
     simp only [Act.put,List.setIfInBounds_toArray,List.set_cons_succ,List.set_cons_zero,finP,List.drop_succ_cons,List.drop_zero,List.take_zero,List.filterMap_nil]
     obtain ⟨c0,c1,z0,z1,hput⟩:=row_put r1 r2 (own_keptN HRA.out hB9) hvl hlt
     have HP:=Lib.hid hput
     have hB10:=HBA.out.trans (hB9.mono (by rw [alloc_sz]; omega))
     have HB10:=Lib.hid hB10
     clear hput h0 h1' h2' oc va0 va1 vb0 vb1 hB9 hB10 GX
     go_wp2_with (fail)
     go_roundw
     case rel=>exact ⟨k+1,by go_num,by omega,Lib.hid (by rw [HSN.out,he]; exact HP.out),(HB10.out.setCell (p:=⟨w2.heap.size+1,k * 2,none⟩) (Nat.le_refl _) _).setCell (p:=⟨w2.heap.size+1,k * 2+1,none⟩) (Nat.le_refl _) _⟩
     case measure=>simp [intOf]; omega
    by_cases h5:op = 5
    ·as_aux_lemma =>
     subst h5
     obtain ⟨⟨r1,r2⟩,hr⟩:∃ r,opI 5 (p1,p2) (q1,q2) = r:=⟨_,rfl⟩
     have he:evI X (t1,t2) vals ⟨5,m,j,lo,hi'⟩ = (r1,r2):=(evI_two (by decide) (by decide) (by decide) hpm hqm).trans hr
     have hr1:sqLo p1 p2 = r1:=congrArg Prod.fst hr
     have hr2:sqHi p1 p2 = r2:=congrArg Prod.snd hr
     have KF:=Lib.hid (fun w h=>first_sqr p1 p2 q1 q2 yb w hp h)
     rw [hr1,hr2] at KF
     clear hr1 hr2 hr
     have ic:=IsC.new wr ⟨5,m,j,lo,hi'⟩
     dsimp only at ic
     have h0:=fun g:Grown (wr.alloc (.cells #[.int .i64 5,.int .i64 (m:Int),.int .i64 (j:Int),.int .i64 lo,.int .i64 hi'] 112))=>(ic.grow g.h).c0
     have h1':=fun g:Grown (wr.alloc (.cells #[.int .i64 5,.int .i64 (m:Int),.int .i64 (j:Int),.int .i64 lo,.int .i64 hi'] 112))=>(ic.grow g.h).c1
     have h2':=fun g:Grown (wr.alloc (.cells #[.int .i64 5,.int .i64 (m:Int),.int .i64 (j:Int),.int .i64 lo,.int .i64 hi'] 112))=>(ic.grow g.h).c2
     dsimp only at h0 h1' h2'
     have oc:=fun g:Grown (wr.alloc (.cells #[.int .i64 5,.int .i64 (m:Int),.int .i64 (j:Int),.int .i64 lo,.int .i64 hi'] 112))=>heapN_cellj ((g.h.block w2.heap.size (by rw [alloc_sz]; omega)).trans ((HBA.out.block w2.heap.size (by omega)).trans O5.out)) (k:=5) (u:=.func (.func 191) #[] #[.pointer (some ⟨yb,0,none⟩)]) rfl
     have va0:=fun g:Grown (wr.alloc (.cells #[.int .i64 5,.int .i64 (m:Int),.int .i64 (j:Int),.int .i64 lo,.int .i64 hi'] 112))=>(row_get (own_keptN HRA.out g.h) hvl hk hpm).1
     have va1:=fun g:Grown (wr.alloc (.cells #[.int .i64 5,.int .i64 (m:Int),.int .i64 (j:Int),.int .i64 lo,.int .i64 hi'] 112))=>(row_get (own_keptN HRA.out g.h) hvl hk hpm).2
     have vb0:=fun g:Grown (wr.alloc (.cells #[.int .i64 5,.int .i64 (m:Int),.int .i64 (j:Int),.int .i64 lo,.int .i64 hi'] 112))=>(row_get (own_keptN HRA.out g.h) hvl hk hqm).1
     have vb1:=fun g:Grown (wr.alloc (.cells #[.int .i64 5,.int .i64 (m:Int),.int .i64 (j:Int),.int .i64 lo,.int .i64 hi'] 112))=>(row_get (own_keptN HRA.out g.h) hvl hk hqm).2
     have GX:=fun g:Grown (wr.alloc (.cells #[.int .i64 5,.int .i64 (m:Int),.int .i64 (j:Int),.int .i64 lo,.int .i64 hi'] 112))=>(show Boxed g.w yb 136 (.func (.func 150) #[] #[]) from (g.h.block yb (by rw [alloc_sz]; omega)).trans ((HBA.out.block yb (by omega)).trans G25.out))
     clear ic
     go_wp2_with (fail)
     refine region_pred_n 18 (lk [(39,fun z_ _=>z_ = .slice (some ⟨w2.heap.size+1,0,none⟩) L.length L.length),(40,fun z_ _=>z_ = .int .i64 (k:Int)),(41,fun z_ _=>z_ = .pointer (some ⟨wr.heap.size,0,none⟩)),(42,fun z_ _=>z_ = .int .i64 5),(43,fun z_ _=>z_ = .pointer (some ⟨w2.heap.size,5,none⟩)),(44,fun z_ _=>z_ = .func (.func 191) #[] #[.pointer (some ⟨yb,0,none⟩)]),(45,fun z_ _=>z_ = .slice (some ⟨w2.heap.size+1,0,none⟩) L.length L.length),(46,fun z_ _=>z_ = .pointer (some ⟨wr.heap.size,1,none⟩)),(47,fun z_ _=>z_ = .int .i64 (m:Int)),(48,fun z_ _=>z_ = .pointer (some ⟨w2.heap.size+1,m * 2,none⟩)),(49,fun z_ _=>z_ = .agg #[.int .i64 p1,.int .i64 p2]),(50,fun z_ _=>z_ = .slice (some ⟨w2.heap.size+1,0,none⟩) L.length L.length),(51,fun z_ _=>z_ = .pointer (some ⟨wr.heap.size,2,none⟩)),(52,fun z_ _=>z_ = .int .i64 (j:Int)),(53,fun z_ _=>z_ = .pointer (some ⟨w2.heap.size+1,j * 2,none⟩)),(54,fun z_ _=>z_ = .agg #[.int .i64 q1,.int .i64 q2]),(55,fun z_ _=>z_ = .agg #[.int .i64 r1,.int .i64 r2]),(56,fun z_ _=>z_ = .pointer (some ⟨w2.heap.size+1,k * 2,none⟩))]) (by kernel_rfl) (by kernel_rfl) (lk_steady _ ⟨steady_eq _,steady_eq _,steady_eq _,steady_eq _,steady_eq _,steady_eq _,steady_eq _,steady_eq _,steady_eq _,steady_eq _,steady_eq _,steady_eq _,steady_eq _,steady_eq _,steady_eq _,steady_eq _,steady_eq _,steady_eq _,trivial⟩) ?_ ?_
     ·refine ⟨?_,?_,?_,?_,?_,?_,?_,?_,?_,?_,?_,?_,?_,?_,?_,?_,?_,?_,trivial⟩
      ·refine ob_plain [8] rfl rfl fun aa g h=>?_
       have yy0:=seen_out (v:=.slice (some ⟨w2.heap.size+1,0,none⟩) L.length L.length) rfl rfl h.1
       exact tvS (by simp [go_sem,yy0]) rfl
      ·refine ob_plain [9] rfl rfl fun aa g h=>?_
       have yy0:=seen_out (v:=.int .i64 (k:Int)) rfl rfl h.1
       exact tvS (by simp [go_sem,yy0]) rfl
      ·refine ob_plain [10] rfl rfl fun aa g h=>?_
       have yy0:=seen_out (v:=.pointer (some ⟨wr.heap.size,0,none⟩)) rfl rfl h.1
       exact tvS (by simp [go_sem,yy0]) rfl
      ·refine ob_plain [41] rfl rfl fun aa g h=>?_
       obtain ⟨_,yy0,rfl⟩:=seen_in rfl h.1
       exact tvS (by simp [go_sem,yy0,h0 g]) rfl
      ·refine ob_plain [7,42] rfl rfl fun aa g h=>?_
       have yy0:=seen_out (v:=.pointer (some ⟨w2.heap.size,0,none⟩)) rfl rfl h.1
       obtain ⟨_,yy1,rfl⟩:=seen_in rfl h.2.1
       exact tvS (by simp [go_sem,yy0,yy1]) rfl
      ·refine ob_plain [43] rfl rfl fun aa g h=>?_
       obtain ⟨_,yy0,rfl⟩:=seen_in rfl h.1
       exact tvS (by simp [go_sem,yy0,oc g]) rfl
      ·refine ob_plain [8] rfl rfl fun aa g h=>?_
       have yy0:=seen_out (v:=.slice (some ⟨w2.heap.size+1,0,none⟩) L.length L.length) rfl rfl h.1
       exact tvS (by simp [go_sem,yy0]) rfl
      ·refine ob_plain [10] rfl rfl fun aa g h=>?_
       have yy0:=seen_out (v:=.pointer (some ⟨wr.heap.size,0,none⟩)) rfl rfl h.1
       exact tvS (by simp [go_sem,yy0]) rfl
      ·refine ob_plain [46] rfl rfl fun aa g h=>?_
       obtain ⟨_,yy0,rfl⟩:=seen_in rfl h.1
       exact tvS (by simp [go_sem,yy0,h1' g]) rfl
      ·refine ob_plain [45,47] rfl rfl fun aa g h=>?_
       obtain ⟨_,yy0,rfl⟩:=seen_in rfl h.1
       obtain ⟨_,yy1,rfl⟩:=seen_in rfl h.2.1
       exact tvS (by simp [go_sem,yy0,yy1,i5]) rfl
      ·refine ob_plain [48] rfl rfl fun aa g h=>?_
       obtain ⟨_,yy0,rfl⟩:=seen_in rfl h.1
       exact tvS (by simp [go_sem,yy0,va0 g,va1 g]) rfl
      ·refine ob_plain [8] rfl rfl fun aa g h=>?_
       have yy0:=seen_out (v:=.slice (some ⟨w2.heap.size+1,0,none⟩) L.length L.length) rfl rfl h.1
       exact tvS (by simp [go_sem,yy0]) rfl
      ·refine ob_plain [10] rfl rfl fun aa g h=>?_
       have yy0:=seen_out (v:=.pointer (some ⟨wr.heap.size,0,none⟩)) rfl rfl h.1
       exact tvS (by simp [go_sem,yy0]) rfl
      ·refine ob_plain [51] rfl rfl fun aa g h=>?_
       obtain ⟨_,yy0,rfl⟩:=seen_in rfl h.1
       exact tvS (by simp [go_sem,yy0,h2' g]) rfl
      ·refine ob_plain [50,52] rfl rfl fun aa g h=>?_
       obtain ⟨_,yy0,rfl⟩:=seen_in rfl h.1
       obtain ⟨_,yy1,rfl⟩:=seen_in rfl h.2.1
       exact tvS (by simp [go_sem,yy0,yy1,i6]) rfl
      ·refine ob_plain [53] rfl rfl fun aa g h=>?_
       obtain ⟨_,yy0,rfl⟩:=seen_in rfl h.1
       exact tvS (by simp [go_sem,yy0,vb0 g,vb1 g]) rfl
      ·refine ob_plain [44,49,54] rfl rfl fun aa g h=>?_
       obtain ⟨_,yy0,rfl⟩:=seen_in rfl h.1
       obtain ⟨_,yy1,rfl⟩:=seen_in rfl h.2.1
       obtain ⟨_,yy2,rfl⟩:=seen_in rfl h.2.2.1
       refine tupon_enter (f:=191) (args:=#[.agg #[.int .i64 p1,.int .i64 p2],.agg #[.int .i64 q1,.int .i64 q2],.pointer (some ⟨yb,0,none⟩)]) (by simp [go_sem,yy0,yy1,yy2]) rfl ?_
       exact (KF.out g.w (GX g)).mono fun e w' ⟨he,hB⟩=>⟨_,he,hB,rfl⟩
      ·refine ob_plain [39,40] rfl rfl fun aa g h=>?_
       obtain ⟨_,yy0,rfl⟩:=seen_in rfl h.1
       obtain ⟨_,yy1,rfl⟩:=seen_in rfl h.2.1
       exact tvS (by simp [go_sem,yy0,yy1,i2]) rfl
     rintro w9 hB9 _ rfl _ rfl _ rfl _ rfl _ rfl _ rfl _ rfl _ rfl _ rfl _ rfl _ rfl _ rfl _ rfl _ rfl _ rfl _ rfl _ rfl _ rfl
     simp only [Act.put,List.setIfInBounds_toArray,List.set_cons_succ,List.set_cons_zero,finP,List.drop_succ_cons,List.drop_zero,List.take_zero,List.filterMap_nil]
     obtain ⟨c0,c1,z0,z1,hput⟩:=row_put r1 r2 (own_keptN HRA.out hB9) hvl hlt
     have HP:=Lib.hid hput
     have hB10:=HBA.out.trans (hB9.mono (by rw [alloc_sz]; omega))
     have HB10:=Lib.hid hB10
     clear hput h0 h1' h2' oc va0 va1 vb0 vb1 hB9 hB10 GX
     go_wp2_with (fail)
     go_roundw
     case rel=>exact ⟨k+1,by go_num,by omega,Lib.hid (by rw [HSN.out,he]; exact HP.out),(HB10.out.setCell (p:=⟨w2.heap.size+1,k * 2,none⟩) (Nat.le_refl _) _).setCell (p:=⟨w2.heap.size+1,k * 2+1,none⟩) (Nat.le_refl _) _⟩
     case measure=>simp [intOf]; omega
    by_cases h6:op = 6
    ·as_aux_lemma =>
     subst h6
     obtain ⟨⟨r1,r2⟩,hr⟩:∃ r,opI 6 (p1,p2) (q1,q2) = r:=⟨_,rfl⟩
     have he:evI X (t1,t2) vals ⟨6,m,j,lo,hi'⟩ = (r1,r2):=(evI_two (by decide) (by decide) (by decide) hpm hqm).trans hr
     have hq6:opI 6 (p1,p2) (q1,q2) = rtI (p1,p2):=by unfold opI; rw [if_neg (by decide),if_neg (by decide),if_pos rfl]
     rw [hq6] at hr
     clear hq6
     have hr1:(rtI (p1,p2)).1 = r1:=congrArg Prod.fst hr
     have hr2:(rtI (p1,p2)).2 = r2:=congrArg Prod.snd hr
     have KF:=Lib.hid (fun w h=>first_rt p1 p2 q1 q2 zb w hp h)
     rw [hr1,hr2] at KF
     clear hr1 hr2 hr
     have ic:=IsC.new wr ⟨6,m,j,lo,hi'⟩
     dsimp only at ic
     have h0:=fun g:Grown (wr.alloc (.cells #[.int .i64 6,.int .i64 (m:Int),.int .i64 (j:Int),.int .i64 lo,.int .i64 hi'] 112))=>(ic.grow g.h).c0
     have h1':=fun g:Grown (wr.alloc (.cells #[.int .i64 6,.int .i64 (m:Int),.int .i64 (j:Int),.int .i64 lo,.int .i64 hi'] 112))=>(ic.grow g.h).c1
     have h2':=fun g:Grown (wr.alloc (.cells #[.int .i64 6,.int .i64 (m:Int),.int .i64 (j:Int),.int .i64 lo,.int .i64 hi'] 112))=>(ic.grow g.h).c2
     dsimp only at h0 h1' h2'
     have oc:=fun g:Grown (wr.alloc (.cells #[.int .i64 6,.int .i64 (m:Int),.int .i64 (j:Int),.int .i64 lo,.int .i64 hi'] 112))=>heapN_cellj ((g.h.block w2.heap.size (by rw [alloc_sz]; omega)).trans ((HBA.out.block w2.heap.size (by omega)).trans O5.out)) (k:=6) (u:=.func (.func 191) #[] #[.pointer (some ⟨zb,0,none⟩)]) rfl
     have va0:=fun g:Grown (wr.alloc (.cells #[.int .i64 6,.int .i64 (m:Int),.int .i64 (j:Int),.int .i64 lo,.int .i64 hi'] 112))=>(row_get (own_keptN HRA.out g.h) hvl hk hpm).1
     have va1:=fun g:Grown (wr.alloc (.cells #[.int .i64 6,.int .i64 (m:Int),.int .i64 (j:Int),.int .i64 lo,.int .i64 hi'] 112))=>(row_get (own_keptN HRA.out g.h) hvl hk hpm).2
     have vb0:=fun g:Grown (wr.alloc (.cells #[.int .i64 6,.int .i64 (m:Int),.int .i64 (j:Int),.int .i64 lo,.int .i64 hi'] 112))=>(row_get (own_keptN HRA.out g.h) hvl hk hqm).1
     have vb1:=fun g:Grown (wr.alloc (.cells #[.int .i64 6,.int .i64 (m:Int),.int .i64 (j:Int),.int .i64 lo,.int .i64 hi'] 112))=>(row_get (own_keptN HRA.out g.h) hvl hk hqm).2
     have GX:=fun g:Grown (wr.alloc (.cells #[.int .i64 6,.int .i64 (m:Int),.int .i64 (j:Int),.int .i64 lo,.int .i64 hi'] 112))=>(show Boxed g.w zb 136 (.func (.func 178) #[] #[]) from (g.h.block zb (by rw [alloc_sz]; omega)).trans ((HBA.out.block zb (by omega)).trans G35.out))
     clear ic
     go_wp2_with (fail)
     refine region_pred_n 18 (lk [(39,fun z_ _=>z_ = .slice (some ⟨w2.heap.size+1,0,none⟩) L.length L.length),(40,fun z_ _=>z_ = .int .i64 (k:Int)),(41,fun z_ _=>z_ = .pointer (some ⟨wr.heap.size,0,none⟩)),(42,fun z_ _=>z_ = .int .i64 6),(43,fun z_ _=>z_ = .pointer (some ⟨w2.heap.size,6,none⟩)),(44,fun z_ _=>z_ = .func (.func 191) #[] #[.pointer (some ⟨zb,0,none⟩)]),(45,fun z_ _=>z_ = .slice (some ⟨w2.heap.size+1,0,none⟩) L.length L.length),(46,fun z_ _=>z_ = .pointer (some ⟨wr.heap.size,1,none⟩)),(47,fun z_ _=>z_ = .int .i64 (m:Int)),(48,fun z_ _=>z_ = .pointer (some ⟨w2.heap.size+1,m * 2,none⟩)),(49,fun z_ _=>z_ = .agg #[.int .i64 p1,.int .i64 p2]),(50,fun z_ _=>z_ = .slice (some ⟨w2.heap.size+1,0,none⟩) L.length L.length),(51,fun z_ _=>z_ = .pointer (some ⟨wr.heap.size,2,none⟩)),(52,fun z_ _=>z_ = .int .i64 (j:Int)),(53,fun z_ _=>z_ = .pointer (some ⟨w2.heap.size+1,j * 2,none⟩)),(54,fun z_ _=>z_ = .agg #[.int .i64 q1,.int .i64 q2]),(55,fun z_ _=>z_ = .agg #[.int .i64 r1,.int .i64 r2]),(56,fun z_ _=>z_ = .pointer (some ⟨w2.heap.size+1,k * 2,none⟩))]) (by kernel_rfl) (by kernel_rfl) (lk_steady _ ⟨steady_eq _,steady_eq _,steady_eq _,steady_eq _,steady_eq _,steady_eq _,steady_eq _,steady_eq _,steady_eq _,steady_eq _,steady_eq _,steady_eq _,steady_eq _,steady_eq _,steady_eq _,steady_eq _,steady_eq _,steady_eq _,trivial⟩) ?_ ?_
     ·refine ⟨?_,?_,?_,?_,?_,?_,?_,?_,?_,?_,?_,?_,?_,?_,?_,?_,?_,?_,trivial⟩
      ·refine ob_plain [8] rfl rfl fun aa g h=>?_
       have yy0:=seen_out (v:=.slice (some ⟨w2.heap.size+1,0,none⟩) L.length L.length) rfl rfl h.1
       exact tvS (by simp [go_sem,yy0]) rfl
      ·refine ob_plain [9] rfl rfl fun aa g h=>?_
       have yy0:=seen_out (v:=.int .i64 (k:Int)) rfl rfl h.1
       exact tvS (by simp [go_sem,yy0]) rfl
      ·refine ob_plain [10] rfl rfl fun aa g h=>?_
       have yy0:=seen_out (v:=.pointer (some ⟨wr.heap.size,0,none⟩)) rfl rfl h.1
       exact tvS (by simp [go_sem,yy0]) rfl
      ·refine ob_plain [41] rfl rfl fun aa g h=>?_
       obtain ⟨_,yy0,rfl⟩:=seen_in rfl h.1
       exact tvS (by simp [go_sem,yy0,h0 g]) rfl
      ·refine ob_plain [7,42] rfl rfl fun aa g h=>?_
       have yy0:=seen_out (v:=.pointer (some ⟨w2.heap.size,0,none⟩)) rfl rfl h.1
       obtain ⟨_,yy1,rfl⟩:=seen_in rfl h.2.1
       exact tvS (by simp [go_sem,yy0,yy1]) rfl
      ·refine ob_plain [43] rfl rfl fun aa g h=>?_
       obtain ⟨_,yy0,rfl⟩:=seen_in rfl h.1
       exact tvS (by simp [go_sem,yy0,oc g]) rfl
      ·refine ob_plain [8] rfl rfl fun aa g h=>?_
       have yy0:=seen_out (v:=.slice (some ⟨w2.heap.size+1,0,none⟩) L.length L.length) rfl rfl h.1
       exact tvS (by simp [go_sem,yy0]) rfl
      ·refine ob_plain [10] rfl rfl fun aa g h=>?_
       have yy0:=seen_out (v:=.pointer (some ⟨wr.heap.size,0,none⟩)) rfl rfl h.1
       exact tvS (by simp [go_sem,yy0]) rfl
      ·refine ob_plain [46] rfl rfl fun aa g h=>?_
       obtain ⟨_,yy0,rfl⟩:=seen_in rfl h.1
       exact tvS (by simp [go_sem,yy0,h1' g]) rfl
      ·refine ob_plain [45,47] rfl rfl fun aa g h=>?_
       obtain ⟨_,yy0,rfl⟩:=seen_in rfl h.1
       obtain ⟨_,yy1,rfl⟩:=seen_in rfl h.2.1
       exact tvS (by simp [go_sem,yy0,yy1,i5]) rfl
      ·refine ob_plain [48] rfl rfl fun aa g h=>?_
       obtain ⟨_,yy0,rfl⟩:=seen_in rfl h.1
       exact tvS (by simp [go_sem,yy0,va0 g,va1 g]) rfl
      ·refine ob_plain [8] rfl rfl fun aa g h=>?_
       have yy0:=seen_out (v:=.slice (some ⟨w2.heap.size+1,0,none⟩) L.length L.length) rfl rfl h.1
       exact tvS (by simp [go_sem,yy0]) rfl
      ·refine ob_plain [10] rfl rfl fun aa g h=>?_
       have yy0:=seen_out (v:=.pointer (some ⟨wr.heap.size,0,none⟩)) rfl rfl h.1
       exact tvS (by simp [go_sem,yy0]) rfl
      ·refine ob_plain [51] rfl rfl fun aa g h=>?_
       obtain ⟨_,yy0,rfl⟩:=seen_in rfl h.1
       exact tvS (by simp [go_sem,yy0,h2' g]) rfl
      ·refine ob_plain [50,52] rfl rfl fun aa g h=>?_
       obtain ⟨_,yy0,rfl⟩:=seen_in rfl h.1
       obtain ⟨_,yy1,rfl⟩:=seen_in rfl h.2.1
       exact tvS (by simp [go_sem,yy0,yy1,i6]) rfl
      ·refine ob_plain [53] rfl rfl fun aa g h=>?_
       obtain ⟨_,yy0,rfl⟩:=seen_in rfl h.1
       exact tvS (by simp [go_sem,yy0,vb0 g,vb1 g]) rfl
      ·refine ob_plain [44,49,54] rfl rfl fun aa g h=>?_
       obtain ⟨_,yy0,rfl⟩:=seen_in rfl h.1
       obtain ⟨_,yy1,rfl⟩:=seen_in rfl h.2.1
       obtain ⟨_,yy2,rfl⟩:=seen_in rfl h.2.2.1
       refine tupon_enter (f:=191) (args:=#[.agg #[.int .i64 p1,.int .i64 p2],.agg #[.int .i64 q1,.int .i64 q2],.pointer (some ⟨zb,0,none⟩)]) (by simp [go_sem,yy0,yy1,yy2]) rfl ?_
       exact (KF.out g.w (GX g)).mono fun e w' ⟨he,hB⟩=>⟨_,he,hB,rfl⟩
      ·refine ob_plain [39,40] rfl rfl fun aa g h=>?_
       obtain ⟨_,yy0,rfl⟩:=seen_in rfl h.1
       obtain ⟨_,yy1,rfl⟩:=seen_in rfl h.2.1
       exact tvS (by simp [go_sem,yy0,yy1,i2]) rfl
     rintro w9 hB9 _ rfl _ rfl _ rfl _ rfl _ rfl _ rfl _ rfl _ rfl _ rfl _ rfl _ rfl _ rfl _ rfl _ rfl _ rfl _ rfl _ rfl _ rfl
     simp only [Act.put,List.setIfInBounds_toArray,List.set_cons_succ,List.set_cons_zero,finP,List.drop_succ_cons,List.drop_zero,List.take_zero,List.filterMap_nil]
     obtain ⟨c0,c1,z0,z1,hput⟩:=row_put r1 r2 (own_keptN HRA.out hB9) hvl hlt
     have HP:=Lib.hid hput
     have hB10:=HBA.out.trans (hB9.mono (by rw [alloc_sz]; omega))
     have HB10:=Lib.hid hB10
     clear hput h0 h1' h2' oc va0 va1 vb0 vb1 hB9 hB10 GX
     go_wp2_with (fail)
     go_roundw
     case rel=>exact ⟨k+1,by go_num,by omega,Lib.hid (by rw [HSN.out,he]; exact HP.out),(HB10.out.setCell (p:=⟨w2.heap.size+1,k * 2,none⟩) (Nat.le_refl _) _).setCell (p:=⟨w2.heap.size+1,k * 2+1,none⟩) (Nat.le_refl _) _⟩
     case measure=>simp [intOf]; omega
    omega
   ·-- two operands
    obtain ⟨m,rfl⟩:∃ m:Nat,a = m:=⟨a.toNat,by omega⟩
    obtain ⟨⟨p1,p2⟩,hpm⟩:∃ x,vals[m]? = some x:=⟨_,List.getElem?_eq_getElem (by omega)⟩
    have i5:(m:Int) < L.length:=by omega
    have hp:=hvv _ (List.mem_of_getElem? hpm)
    dsimp only at hp
    obtain ⟨j,rfl⟩:∃ j:Nat,b = j:=⟨b.toNat,by omega⟩
    have hjk:j < k:=by omega
    obtain ⟨⟨q1,q2⟩,hqm⟩:∃ x,vals[j]? = some x:=⟨_,List.getElem?_eq_getElem (by omega)⟩
    have i6:(j:Int) < L.length:=by omega
    have hq:=hvv _ (List.mem_of_getElem? hqm)
    dsimp only at hq
    by_cases h7:op = 7
    ·as_aux_lemma =>
     subst h7
     obtain ⟨⟨r1,r2⟩,hr⟩:∃ r,opI 7 (p1,p2) (q1,q2) = r:=⟨_,rfl⟩
     have he:evI X (t1,t2) vals ⟨7,m,j,lo,hi'⟩ = (r1,r2):=(evI_two (by decide) (by decide) (by decide) hpm hqm).trans hr
     have hr1:addLo p1 p2 q1 q2 = r1:=congrArg Prod.fst hr
     have hr2:addHi p1 p2 q1 q2 = r2:=congrArg Prod.snd hr
     have KF:=Lib.hid (fun w=>iv_add p1 p2 q1 q2 w hp hq)
     rw [hr1,hr2] at KF
     clear hr1 hr2 hr
     have ic:=IsC.new wr ⟨7,m,j,lo,hi'⟩
     dsimp only at ic
     have h0:=fun g:Grown (wr.alloc (.cells #[.int .i64 7,.int .i64 (m:Int),.int .i64 (j:Int),.int .i64 lo,.int .i64 hi'] 112))=>(ic.grow g.h).c0
     have h1':=fun g:Grown (wr.alloc (.cells #[.int .i64 7,.int .i64 (m:Int),.int .i64 (j:Int),.int .i64 lo,.int .i64 hi'] 112))=>(ic.grow g.h).c1
     have h2':=fun g:Grown (wr.alloc (.cells #[.int .i64 7,.int .i64 (m:Int),.int .i64 (j:Int),.int .i64 lo,.int .i64 hi'] 112))=>(ic.grow g.h).c2
     dsimp only at h0 h1' h2'
     have oc:=fun g:Grown (wr.alloc (.cells #[.int .i64 7,.int .i64 (m:Int),.int .i64 (j:Int),.int .i64 lo,.int .i64 hi'] 112))=>heapN_cellj ((g.h.block w2.heap.size (by rw [alloc_sz]; omega)).trans ((HBA.out.block w2.heap.size (by omega)).trans O5.out)) (k:=7) (u:=.func (.func 143) #[] #[]) rfl
     have va0:=fun g:Grown (wr.alloc (.cells #[.int .i64 7,.int .i64 (m:Int),.int .i64 (j:Int),.int .i64 lo,.int .i64 hi'] 112))=>(row_get (own_keptN HRA.out g.h) hvl hk hpm).1
     have va1:=fun g:Grown (wr.alloc (.cells #[.int .i64 7,.int .i64 (m:Int),.int .i64 (j:Int),.int .i64 lo,.int .i64 hi'] 112))=>(row_get (own_keptN HRA.out g.h) hvl hk hpm).2
     have vb0:=fun g:Grown (wr.alloc (.cells #[.int .i64 7,.int .i64 (m:Int),.int .i64 (j:Int),.int .i64 lo,.int .i64 hi'] 112))=>(row_get (own_keptN HRA.out g.h) hvl hk hqm).1
     have vb1:=fun g:Grown (wr.alloc (.cells #[.int .i64 7,.int .i64 (m:Int),.int .i64 (j:Int),.int .i64 lo,.int .i64 hi'] 112))=>(row_get (own_keptN HRA.out g.h) hvl hk hqm).2
     clear ic
     go_wp2_with (fail)
     refine region_pred_n 18 (lk [(39,fun z_ _=>z_ = .slice (some ⟨w2.heap.size+1,0,none⟩) L.length L.length),(40,fun z_ _=>z_ = .int .i64 (k:Int)),(41,fun z_ _=>z_ = .pointer (some ⟨wr.heap.size,0,none⟩)),(42,fun z_ _=>z_ = .int .i64 7),(43,fun z_ _=>z_ = .pointer (some ⟨w2.heap.size,7,none⟩)),(44,fun z_ _=>z_ = .func (.func 143) #[] #[]),(45,fun z_ _=>z_ = .slice (some ⟨w2.heap.size+1,0,none⟩) L.length L.length),(46,fun z_ _=>z_ = .pointer (some ⟨wr.heap.size,1,none⟩)),(47,fun z_ _=>z_ = .int .i64 (m:Int)),(48,fun z_ _=>z_ = .pointer (some ⟨w2.heap.size+1,m * 2,none⟩)),(49,fun z_ _=>z_ = .agg #[.int .i64 p1,.int .i64 p2]),(50,fun z_ _=>z_ = .slice (some ⟨w2.heap.size+1,0,none⟩) L.length L.length),(51,fun z_ _=>z_ = .pointer (some ⟨wr.heap.size,2,none⟩)),(52,fun z_ _=>z_ = .int .i64 (j:Int)),(53,fun z_ _=>z_ = .pointer (some ⟨w2.heap.size+1,j * 2,none⟩)),(54,fun z_ _=>z_ = .agg #[.int .i64 q1,.int .i64 q2]),(55,fun z_ _=>z_ = .agg #[.int .i64 r1,.int .i64 r2]),(56,fun z_ _=>z_ = .pointer (some ⟨w2.heap.size+1,k * 2,none⟩))]) (by kernel_rfl) (by kernel_rfl) (lk_steady _ ⟨steady_eq _,steady_eq _,steady_eq _,steady_eq _,steady_eq _,steady_eq _,steady_eq _,steady_eq _,steady_eq _,steady_eq _,steady_eq _,steady_eq _,steady_eq _,steady_eq _,steady_eq _,steady_eq _,steady_eq _,steady_eq _,trivial⟩) ?_ ?_
     ·refine ⟨?_,?_,?_,?_,?_,?_,?_,?_,?_,?_,?_,?_,?_,?_,?_,?_,?_,?_,trivial⟩
      ·refine ob_plain [8] rfl rfl fun aa g h=>?_
       have yy0:=seen_out (v:=.slice (some ⟨w2.heap.size+1,0,none⟩) L.length L.length) rfl rfl h.1
       exact tvS (by simp [go_sem,yy0]) rfl
      ·refine ob_plain [9] rfl rfl fun aa g h=>?_
       have yy0:=seen_out (v:=.int .i64 (k:Int)) rfl rfl h.1
       exact tvS (by simp [go_sem,yy0]) rfl
      ·refine ob_plain [10] rfl rfl fun aa g h=>?_
       have yy0:=seen_out (v:=.pointer (some ⟨wr.heap.size,0,none⟩)) rfl rfl h.1
       exact tvS (by simp [go_sem,yy0]) rfl
      ·refine ob_plain [41] rfl rfl fun aa g h=>?_
       obtain ⟨_,yy0,rfl⟩:=seen_in rfl h.1
       exact tvS (by simp [go_sem,yy0,h0 g]) rfl
      ·refine ob_plain [7,42] rfl rfl fun aa g h=>?_
       have yy0:=seen_out (v:=.pointer (some ⟨w2.heap.size,0,none⟩)) rfl rfl h.1
       obtain ⟨_,yy1,rfl⟩:=seen_in rfl h.2.1
       exact tvS (by simp [go_sem,yy0,yy1]) rfl
      ·refine ob_plain [43] rfl rfl fun aa g h=>?_
       obtain ⟨_,yy0,rfl⟩:=seen_in rfl h.1
       exact tvS (by simp [go_sem,yy0,oc g]) rfl
      ·refine ob_plain [8] rfl rfl fun aa g h=>?_
       have yy0:=seen_out (v:=.slice (some ⟨w2.heap.size+1,0,none⟩) L.length L.length) rfl rfl h.1
       exact tvS (by simp [go_sem,yy0]) rfl
      ·refine ob_plain [10] rfl rfl fun aa g h=>?_
       have yy0:=seen_out (v:=.pointer (some ⟨wr.heap.size,0,none⟩)) rfl rfl h.1
       exact tvS (by simp [go_sem,yy0]) rfl
      ·refine ob_plain [46] rfl rfl fun aa g h=>?_
       obtain ⟨_,yy0,rfl⟩:=seen_in rfl h.1
       exact tvS (by simp [go_sem,yy0,h1' g]) rfl
      ·refine ob_plain [45,47] rfl rfl fun aa g h=>?_
       obtain ⟨_,yy0,rfl⟩:=seen_in rfl h.1
       obtain ⟨_,yy1,rfl⟩:=seen_in rfl h.2.1
       exact tvS (by simp [go_sem,yy0,yy1,i5]) rfl
      ·refine ob_plain [48] rfl rfl fun aa g h=>?_
       obtain ⟨_,yy0,rfl⟩:=seen_in rfl h.1
       exact tvS (by simp [go_sem,yy0,va0 g,va1 g]) rfl
      ·refine ob_plain [8] rfl rfl fun aa g h=>?_
       have yy0:=seen_out (v:=.slice (some ⟨w2.heap.size+1,0,none⟩) L.length L.length) rfl rfl h.1
       exact tvS (by simp [go_sem,yy0]) rfl
      ·refine ob_plain [10] rfl rfl fun aa g h=>?_
       have yy0:=seen_out (v:=.pointer (some ⟨wr.heap.size,0,none⟩)) rfl rfl h.1
       exact tvS (by simp [go_sem,yy0]) rfl
      ·refine ob_plain [51] rfl rfl fun aa g h=>?_
       obtain ⟨_,yy0,rfl⟩:=seen_in rfl h.1
       exact tvS (by simp [go_sem,yy0,h2' g]) rfl
      ·refine ob_plain [50,52] rfl rfl fun aa g h=>?_
       obtain ⟨_,yy0,rfl⟩:=seen_in rfl h.1
       obtain ⟨_,yy1,rfl⟩:=seen_in rfl h.2.1
       exact tvS (by simp [go_sem,yy0,yy1,i6]) rfl
      ·refine ob_plain [53] rfl rfl fun aa g h=>?_
       obtain ⟨_,yy0,rfl⟩:=seen_in rfl h.1
       exact tvS (by simp [go_sem,yy0,vb0 g,vb1 g]) rfl
      ·refine ob_plain [44,49,54] rfl rfl fun aa g h=>?_
       obtain ⟨_,yy0,rfl⟩:=seen_in rfl h.1
       obtain ⟨_,yy1,rfl⟩:=seen_in rfl h.2.1
       obtain ⟨_,yy2,rfl⟩:=seen_in rfl h.2.2.1
       refine tupon_enter (f:=143) (args:=#[.agg #[.int .i64 p1,.int .i64 p2],.agg #[.int .i64 q1,.int .i64 q2]]) (by simp [go_sem,yy0,yy1,yy2]) rfl ?_
       exact (KF.out g.w).mono fun e w' ⟨he,hB⟩=>⟨_,he,hB,rfl⟩
      ·refine ob_plain [39,40] rfl rfl fun aa g h=>?_
       obtain ⟨_,yy0,rfl⟩:=seen_in rfl h.1
       obtain ⟨_,yy1,rfl⟩:=seen_in rfl h.2.1
       exact tvS (by simp [go_sem,yy0,yy1,i2]) rfl
     rintro w9 hB9 _ rfl _ rfl _ rfl _ rfl _ rfl _ rfl _ rfl _ rfl _ rfl _ rfl _ rfl _ rfl _ rfl _ rfl _ rfl _ rfl _ rfl _ rfl
     simp only [Act.put,List.setIfInBounds_toArray,List.set_cons_succ,List.set_cons_zero,finP,List.drop_succ_cons,List.drop_zero,List.take_zero,List.filterMap_nil]
     obtain ⟨c0,c1,z0,z1,hput⟩:=row_put r1 r2 (own_keptN HRA.out hB9) hvl hlt
     have HP:=Lib.hid hput
     have hB10:=HBA.out.trans (hB9.mono (by rw [alloc_sz]; omega))
     have HB10:=Lib.hid hB10
     clear hput h0 h1' h2' oc va0 va1 vb0 vb1 hB9 hB10
     go_wp2_with (fail)
     go_roundw
     case rel=>exact ⟨k+1,by go_num,by omega,Lib.hid (by rw [HSN.out,he]; exact HP.out),(HB10.out.setCell (p:=⟨w2.heap.size+1,k * 2,none⟩) (Nat.le_refl _) _).setCell (p:=⟨w2.heap.size+1,k * 2+1,none⟩) (Nat.le_refl _) _⟩
     case measure=>simp [intOf]; omega
    by_cases h8:op = 8
    ·as_aux_lemma =>
     subst h8
     obtain ⟨⟨r1,r2⟩,hr⟩:∃ r,opI 8 (p1,p2) (q1,q2) = r:=⟨_,rfl⟩
     have he:evI X (t1,t2) vals ⟨8,m,j,lo,hi'⟩ = (r1,r2):=(evI_two (by decide) (by decide) (by decide) hpm hqm).trans hr
     have hr1:addLo p1 p2 (-q2) (-q1) = r1:=congrArg Prod.fst hr
     have hr2:addHi p1 p2 (-q2) (-q1) = r2:=congrArg Prod.snd hr
     have KF:=Lib.hid (fun w=>iv_sub p1 p2 q1 q2 w hp hq)
     rw [hr1,hr2] at KF
     clear hr1 hr2 hr
     have ic:=IsC.new wr ⟨8,m,j,lo,hi'⟩
     dsimp only at ic
     have h0:=fun g:Grown (wr.alloc (.cells #[.int .i64 8,.int .i64 (m:Int),.int .i64 (j:Int),.int .i64 lo,.int .i64 hi'] 112))=>(ic.grow g.h).c0
     have h1':=fun g:Grown (wr.alloc (.cells #[.int .i64 8,.int .i64 (m:Int),.int .i64 (j:Int),.int .i64 lo,.int .i64 hi'] 112))=>(ic.grow g.h).c1
     have h2':=fun g:Grown (wr.alloc (.cells #[.int .i64 8,.int .i64 (m:Int),.int .i64 (j:Int),.int .i64 lo,.int .i64 hi'] 112))=>(ic.grow g.h).c2
     dsimp only at h0 h1' h2'
     have oc:=fun g:Grown (wr.alloc (.cells #[.int .i64 8,.int .i64 (m:Int),.int .i64 (j:Int),.int .i64 lo,.int .i64 hi'] 112))=>heapN_cellj ((g.h.block w2.heap.size (by rw [alloc_sz]; omega)).trans ((HBA.out.block w2.heap.size (by omega)).trans O5.out)) (k:=8) (u:=.func (.func 151) #[] #[]) rfl
     have va0:=fun g:Grown (wr.alloc (.cells #[.int .i64 8,.int .i64 (m:Int),.int .i64 (j:Int),.int .i64 lo,.int .i64 hi'] 112))=>(row_get (own_keptN HRA.out g.h) hvl hk hpm).1
     have va1:=fun g:Grown (wr.alloc (.cells #[.int .i64 8,.int .i64 (m:Int),.int .i64 (j:Int),.int .i64 lo,.int .i64 hi'] 112))=>(row_get (own_keptN HRA.out g.h) hvl hk hpm).2
     have vb0:=fun g:Grown (wr.alloc (.cells #[.int .i64 8,.int .i64 (m:Int),.int .i64 (j:Int),.int .i64 lo,.int .i64 hi'] 112))=>(row_get (own_keptN HRA.out g.h) hvl hk hqm).1
     have vb1:=fun g:Grown (wr.alloc (.cells #[.int .i64 8,.int .i64 (m:Int),.int .i64 (j:Int),.int .i64 lo,.int .i64 hi'] 112))=>(row_get (own_keptN HRA.out g.h) hvl hk hqm).2
     clear ic
     go_wp2_with (fail)
     refine region_pred_n 18 (lk [(39,fun z_ _=>z_ = .slice (some ⟨w2.heap.size+1,0,none⟩) L.length L.length),(40,fun z_ _=>z_ = .int .i64 (k:Int)),(41,fun z_ _=>z_ = .pointer (some ⟨wr.heap.size,0,none⟩)),(42,fun z_ _=>z_ = .int .i64 8),(43,fun z_ _=>z_ = .pointer (some ⟨w2.heap.size,8,none⟩)),(44,fun z_ _=>z_ = .func (.func 151) #[] #[]),(45,fun z_ _=>z_ = .slice (some ⟨w2.heap.size+1,0,none⟩) L.length L.length),(46,fun z_ _=>z_ = .pointer (some ⟨wr.heap.size,1,none⟩)),(47,fun z_ _=>z_ = .int .i64 (m:Int)),(48,fun z_ _=>z_ = .pointer (some ⟨w2.heap.size+1,m * 2,none⟩)),(49,fun z_ _=>z_ = .agg #[.int .i64 p1,.int .i64 p2]),(50,fun z_ _=>z_ = .slice (some ⟨w2.heap.size+1,0,none⟩) L.length L.length),(51,fun z_ _=>z_ = .pointer (some ⟨wr.heap.size,2,none⟩)),(52,fun z_ _=>z_ = .int .i64 (j:Int)),(53,fun z_ _=>z_ = .pointer (some ⟨w2.heap.size+1,j * 2,none⟩)),(54,fun z_ _=>z_ = .agg #[.int .i64 q1,.int .i64 q2]),(55,fun z_ _=>z_ = .agg #[.int .i64 r1,.int .i64 r2]),(56,fun z_ _=>z_ = .pointer (some ⟨w2.heap.size+1,k * 2,none⟩))]) (by kernel_rfl) (by kernel_rfl) (lk_steady _ ⟨steady_eq _,steady_eq _,steady_eq _,steady_eq _,steady_eq _,steady_eq _,steady_eq _,steady_eq _,steady_eq _,steady_eq _,steady_eq _,steady_eq _,steady_eq _,steady_eq _,steady_eq _,steady_eq _,steady_eq _,steady_eq _,trivial⟩) ?_ ?_
     ·refine ⟨?_,?_,?_,?_,?_,?_,?_,?_,?_,?_,?_,?_,?_,?_,?_,?_,?_,?_,trivial⟩
      ·refine ob_plain [8] rfl rfl fun aa g h=>?_
       have yy0:=seen_out (v:=.slice (some ⟨w2.heap.size+1,0,none⟩) L.length L.length) rfl rfl h.1
       exact tvS (by simp [go_sem,yy0]) rfl
      ·refine ob_plain [9] rfl rfl fun aa g h=>?_
       have yy0:=seen_out (v:=.int .i64 (k:Int)) rfl rfl h.1
       exact tvS (by simp [go_sem,yy0]) rfl
      ·refine ob_plain [10] rfl rfl fun aa g h=>?_
       have yy0:=seen_out (v:=.pointer (some ⟨wr.heap.size,0,none⟩)) rfl rfl h.1
       exact tvS (by simp [go_sem,yy0]) rfl
      ·refine ob_plain [41] rfl rfl fun aa g h=>?_
       obtain ⟨_,yy0,rfl⟩:=seen_in rfl h.1
       exact tvS (by simp [go_sem,yy0,h0 g]) rfl
      ·refine ob_plain [7,42] rfl rfl fun aa g h=>?_
       have yy0:=seen_out (v:=.pointer (some ⟨w2.heap.size,0,none⟩)) rfl rfl h.1
       obtain ⟨_,yy1,rfl⟩:=seen_in rfl h.2.1
       exact tvS (by simp [go_sem,yy0,yy1]) rfl
      ·refine ob_plain [43] rfl rfl fun aa g h=>?_
       obtain ⟨_,yy0,rfl⟩:=seen_in rfl h.1
       exact tvS (by simp [go_sem,yy0,oc g]) rfl
      ·refine ob_plain [8] rfl rfl fun aa g h=>?_
       have yy0:=seen_out (v:=.slice (some ⟨w2.heap.size+1,0,none⟩) L.length L.length) rfl rfl h.1
       exact tvS (by simp [go_sem,yy0]) rfl
      ·refine ob_plain [10] rfl rfl fun aa g h=>?_
       have yy0:=seen_out (v:=.pointer (some ⟨wr.heap.size,0,none⟩)) rfl rfl h.1
       exact tvS (by simp [go_sem,yy0]) rfl
      ·refine ob_plain [46] rfl rfl fun aa g h=>?_
       obtain ⟨_,yy0,rfl⟩:=seen_in rfl h.1
       exact tvS (by simp [go_sem,yy0,h1' g]) rfl
      ·refine ob_plain [45,47] rfl rfl fun aa g h=>?_
       obtain ⟨_,yy0,rfl⟩:=seen_in rfl h.1
       obtain ⟨_,yy1,rfl⟩:=seen_in rfl h.2.1
       exact tvS (by simp [go_sem,yy0,yy1,i5]) rfl
      ·refine ob_plain [48] rfl rfl fun aa g h=>?_
       obtain ⟨_,yy0,rfl⟩:=seen_in rfl h.1
       exact tvS (by simp [go_sem,yy0,va0 g,va1 g]) rfl
      ·refine ob_plain [8] rfl rfl fun aa g h=>?_
       have yy0:=seen_out (v:=.slice (some ⟨w2.heap.size+1,0,none⟩) L.length L.length) rfl rfl h.1
       exact tvS (by simp [go_sem,yy0]) rfl
      ·refine ob_plain [10] rfl rfl fun aa g h=>?_
       have yy0:=seen_out (v:=.pointer (some ⟨wr.heap.size,0,none⟩)) rfl rfl h.1
       exact tvS (by simp [go_sem,yy0]) rfl
      ·refine ob_plain [51] rfl rfl fun aa g h=>?_
       obtain ⟨_,yy0,rfl⟩:=seen_in rfl h.1
       exact tvS (by simp [go_sem,yy0,h2' g]) rfl
      ·refine ob_plain [50,52] rfl rfl fun aa g h=>?_
       obtain ⟨_,yy0,rfl⟩:=seen_in rfl h.1
       obtain ⟨_,yy1,rfl⟩:=seen_in rfl h.2.1
       exact tvS (by simp [go_sem,yy0,yy1,i6]) rfl
      ·refine ob_plain [53] rfl rfl fun aa g h=>?_
       obtain ⟨_,yy0,rfl⟩:=seen_in rfl h.1
       exact tvS (by simp [go_sem,yy0,vb0 g,vb1 g]) rfl
      ·refine ob_plain [44,49,54] rfl rfl fun aa g h=>?_
       obtain ⟨_,yy0,rfl⟩:=seen_in rfl h.1
       obtain ⟨_,yy1,rfl⟩:=seen_in rfl h.2.1
       obtain ⟨_,yy2,rfl⟩:=seen_in rfl h.2.2.1
       refine tupon_enter (f:=151) (args:=#[.agg #[.int .i64 p1,.int .i64 p2],.agg #[.int .i64 q1,.int .i64 q2]]) (by simp [go_sem,yy0,yy1,yy2]) rfl ?_
       exact (KF.out g.w).mono fun e w' ⟨he,hB⟩=>⟨_,he,hB,rfl⟩
      ·refine ob_plain [39,40] rfl rfl fun aa g h=>?_
       obtain ⟨_,yy0,rfl⟩:=seen_in rfl h.1
       obtain ⟨_,yy1,rfl⟩:=seen_in rfl h.2.1
       exact tvS (by simp [go_sem,yy0,yy1,i2]) rfl
     rintro w9 hB9 _ rfl _ rfl _ rfl _ rfl _ rfl _ rfl _ rfl _ rfl _ rfl _ rfl _ rfl _ rfl _ rfl _ rfl _ rfl _ rfl _ rfl _ rfl
     simp only [Act.put,List.setIfInBounds_toArray,List.set_cons_succ,List.set_cons_zero,finP,List.drop_succ_cons,List.drop_zero,List.take_zero,List.filterMap_nil]
     obtain ⟨c0,c1,z0,z1,hput⟩:=row_put r1 r2 (own_keptN HRA.out hB9) hvl hlt
     have HP:=Lib.hid hput
     have hB10:=HBA.out.trans (hB9.mono (by rw [alloc_sz]; omega))
     have HB10:=Lib.hid hB10
     clear hput h0 h1' h2' oc va0 va1 vb0 vb1 hB9 hB10
     go_wp2_with (fail)
     go_roundw
     case rel=>exact ⟨k+1,by go_num,by omega,Lib.hid (by rw [HSN.out,he]; exact HP.out),(HB10.out.setCell (p:=⟨w2.heap.size+1,k * 2,none⟩) (Nat.le_refl _) _).setCell (p:=⟨w2.heap.size+1,k * 2+1,none⟩) (Nat.le_refl _) _⟩
     case measure=>simp [intOf]; omega
    by_cases h9:op = 9
    ·as_aux_lemma =>
     subst h9
     obtain ⟨⟨r1,r2⟩,hr⟩:∃ r,opI 9 (p1,p2) (q1,q2) = r:=⟨_,rfl⟩
     have he:evI X (t1,t2) vals ⟨9,m,j,lo,hi'⟩ = (r1,r2):=(evI_two (by decide) (by decide) (by decide) hpm hqm).trans hr
     have hr1:mulLo p1 p2 q1 q2 = r1:=congrArg Prod.fst hr
     have hr2:mulHi p1 p2 q1 q2 = r2:=congrArg Prod.snd hr
     have KF:=Lib.hid (fun w=>iv_mul p1 p2 q1 q2 w hp hq)
     rw [hr1,hr2] at KF
     clear hr1 hr2 hr
     have ic:=IsC.new wr ⟨9,m,j,lo,hi'⟩
     dsimp only at ic
     have h0:=fun g:Grown (wr.alloc (.cells #[.int .i64 9,.int .i64 (m:Int),.int .i64 (j:Int),.int .i64 lo,.int .i64 hi'] 112))=>(ic.grow g.h).c0
     have h1':=fun g:Grown (wr.alloc (.cells #[.int .i64 9,.int .i64 (m:Int),.int .i64 (j:Int),.int .i64 lo,.int .i64 hi'] 112))=>(ic.grow g.h).c1
     have h2':=fun g:Grown (wr.alloc (.cells #[.int .i64 9,.int .i64 (m:Int),.int .i64 (j:Int),.int .i64 lo,.int .i64 hi'] 112))=>(ic.grow g.h).c2
     dsimp only at h0 h1' h2'
     have oc:=fun g:Grown (wr.alloc (.cells #[.int .i64 9,.int .i64 (m:Int),.int .i64 (j:Int),.int .i64 lo,.int .i64 hi'] 112))=>heapN_cellj ((g.h.block w2.heap.size (by rw [alloc_sz]; omega)).trans ((HBA.out.block w2.heap.size (by omega)).trans O5.out)) (k:=9) (u:=.func (.func 144) #[] #[]) rfl
     have va0:=fun g:Grown (wr.alloc (.cells #[.int .i64 9,.int .i64 (m:Int),.int .i64 (j:Int),.int .i64 lo,.int .i64 hi'] 112))=>(row_get (own_keptN HRA.out g.h) hvl hk hpm).1
     have va1:=fun g:Grown (wr.alloc (.cells #[.int .i64 9,.int .i64 (m:Int),.int .i64 (j:Int),.int .i64 lo,.int .i64 hi'] 112))=>(row_get (own_keptN HRA.out g.h) hvl hk hpm).2
     have vb0:=fun g:Grown (wr.alloc (.cells #[.int .i64 9,.int .i64 (m:Int),.int .i64 (j:Int),.int .i64 lo,.int .i64 hi'] 112))=>(row_get (own_keptN HRA.out g.h) hvl hk hqm).1
     have vb1:=fun g:Grown (wr.alloc (.cells #[.int .i64 9,.int .i64 (m:Int),.int .i64 (j:Int),.int .i64 lo,.int .i64 hi'] 112))=>(row_get (own_keptN HRA.out g.h) hvl hk hqm).2
     clear ic
     go_wp2_with (fail)
     refine region_pred_n 18 (lk [(39,fun z_ _=>z_ = .slice (some ⟨w2.heap.size+1,0,none⟩) L.length L.length),(40,fun z_ _=>z_ = .int .i64 (k:Int)),(41,fun z_ _=>z_ = .pointer (some ⟨wr.heap.size,0,none⟩)),(42,fun z_ _=>z_ = .int .i64 9),(43,fun z_ _=>z_ = .pointer (some ⟨w2.heap.size,9,none⟩)),(44,fun z_ _=>z_ = .func (.func 144) #[] #[]),(45,fun z_ _=>z_ = .slice (some ⟨w2.heap.size+1,0,none⟩) L.length L.length),(46,fun z_ _=>z_ = .pointer (some ⟨wr.heap.size,1,none⟩)),(47,fun z_ _=>z_ = .int .i64 (m:Int)),(48,fun z_ _=>z_ = .pointer (some ⟨w2.heap.size+1,m * 2,none⟩)),(49,fun z_ _=>z_ = .agg #[.int .i64 p1,.int .i64 p2]),(50,fun z_ _=>z_ = .slice (some ⟨w2.heap.size+1,0,none⟩) L.length L.length),(51,fun z_ _=>z_ = .pointer (some ⟨wr.heap.size,2,none⟩)),(52,fun z_ _=>z_ = .int .i64 (j:Int)),(53,fun z_ _=>z_ = .pointer (some ⟨w2.heap.size+1,j * 2,none⟩)),(54,fun z_ _=>z_ = .agg #[.int .i64 q1,.int .i64 q2]),(55,fun z_ _=>z_ = .agg #[.int .i64 r1,.int .i64 r2]),(56,fun z_ _=>z_ = .pointer (some ⟨w2.heap.size+1,k * 2,none⟩))]) (by kernel_rfl) (by kernel_rfl) (lk_steady _ ⟨steady_eq _,steady_eq _,steady_eq _,steady_eq _,steady_eq _,steady_eq _,steady_eq _,steady_eq _,steady_eq _,steady_eq _,steady_eq _,steady_eq _,steady_eq _,steady_eq _,steady_eq _,steady_eq _,steady_eq _,steady_eq _,trivial⟩) ?_ ?_
     ·refine ⟨?_,?_,?_,?_,?_,?_,?_,?_,?_,?_,?_,?_,?_,?_,?_,?_,?_,?_,trivial⟩
      ·refine ob_plain [8] rfl rfl fun aa g h=>?_
       have yy0:=seen_out (v:=.slice (some ⟨w2.heap.size+1,0,none⟩) L.length L.length) rfl rfl h.1
       exact tvS (by simp [go_sem,yy0]) rfl
      ·refine ob_plain [9] rfl rfl fun aa g h=>?_
       have yy0:=seen_out (v:=.int .i64 (k:Int)) rfl rfl h.1
       exact tvS (by simp [go_sem,yy0]) rfl
      ·refine ob_plain [10] rfl rfl fun aa g h=>?_
       have yy0:=seen_out (v:=.pointer (some ⟨wr.heap.size,0,none⟩)) rfl rfl h.1
       exact tvS (by simp [go_sem,yy0]) rfl
      ·refine ob_plain [41] rfl rfl fun aa g h=>?_
       obtain ⟨_,yy0,rfl⟩:=seen_in rfl h.1
       exact tvS (by simp [go_sem,yy0,h0 g]) rfl
      ·refine ob_plain [7,42] rfl rfl fun aa g h=>?_
       have yy0:=seen_out (v:=.pointer (some ⟨w2.heap.size,0,none⟩)) rfl rfl h.1
       obtain ⟨_,yy1,rfl⟩:=seen_in rfl h.2.1
       exact tvS (by simp [go_sem,yy0,yy1]) rfl
      ·refine ob_plain [43] rfl rfl fun aa g h=>?_
       obtain ⟨_,yy0,rfl⟩:=seen_in rfl h.1
       exact tvS (by simp [go_sem,yy0,oc g]) rfl
      ·refine ob_plain [8] rfl rfl fun aa g h=>?_
       have yy0:=seen_out (v:=.slice (some ⟨w2.heap.size+1,0,none⟩) L.length L.length) rfl rfl h.1
       exact tvS (by simp [go_sem,yy0]) rfl
      ·refine ob_plain [10] rfl rfl fun aa g h=>?_
       have yy0:=seen_out (v:=.pointer (some ⟨wr.heap.size,0,none⟩)) rfl rfl h.1
       exact tvS (by simp [go_sem,yy0]) rfl
      ·refine ob_plain [46] rfl rfl fun aa g h=>?_
       obtain ⟨_,yy0,rfl⟩:=seen_in rfl h.1
       exact tvS (by simp [go_sem,yy0,h1' g]) rfl
      ·refine ob_plain [45,47] rfl rfl fun aa g h=>?_
       obtain ⟨_,yy0,rfl⟩:=seen_in rfl h.1
       obtain ⟨_,yy1,rfl⟩:=seen_in rfl h.2.1
       exact tvS (by simp [go_sem,yy0,yy1,i5]) rfl
      ·refine ob_plain [48] rfl rfl fun aa g h=>?_
       obtain ⟨_,yy0,rfl⟩:=seen_in rfl h.1
       exact tvS (by simp [go_sem,yy0,va0 g,va1 g]) rfl
      ·refine ob_plain [8] rfl rfl fun aa g h=>?_
       have yy0:=seen_out (v:=.slice (some ⟨w2.heap.size+1,0,none⟩) L.length L.length) rfl rfl h.1
       exact tvS (by simp [go_sem,yy0]) rfl
      ·refine ob_plain [10] rfl rfl fun aa g h=>?_
       have yy0:=seen_out (v:=.pointer (some ⟨wr.heap.size,0,none⟩)) rfl rfl h.1
       exact tvS (by simp [go_sem,yy0]) rfl
      ·refine ob_plain [51] rfl rfl fun aa g h=>?_
       obtain ⟨_,yy0,rfl⟩:=seen_in rfl h.1
       exact tvS (by simp [go_sem,yy0,h2' g]) rfl
      ·refine ob_plain [50,52] rfl rfl fun aa g h=>?_
       obtain ⟨_,yy0,rfl⟩:=seen_in rfl h.1
       obtain ⟨_,yy1,rfl⟩:=seen_in rfl h.2.1
       exact tvS (by simp [go_sem,yy0,yy1,i6]) rfl
      ·refine ob_plain [53] rfl rfl fun aa g h=>?_
       obtain ⟨_,yy0,rfl⟩:=seen_in rfl h.1
       exact tvS (by simp [go_sem,yy0,vb0 g,vb1 g]) rfl
      ·refine ob_plain [44,49,54] rfl rfl fun aa g h=>?_
       obtain ⟨_,yy0,rfl⟩:=seen_in rfl h.1
       obtain ⟨_,yy1,rfl⟩:=seen_in rfl h.2.1
       obtain ⟨_,yy2,rfl⟩:=seen_in rfl h.2.2.1
       refine tupon_enter (f:=144) (args:=#[.agg #[.int .i64 p1,.int .i64 p2],.agg #[.int .i64 q1,.int .i64 q2]]) (by simp [go_sem,yy0,yy1,yy2]) rfl ?_
       exact (KF.out g.w).mono fun e w' ⟨he,hB⟩=>⟨_,he,hB,rfl⟩
      ·refine ob_plain [39,40] rfl rfl fun aa g h=>?_
       obtain ⟨_,yy0,rfl⟩:=seen_in rfl h.1
       obtain ⟨_,yy1,rfl⟩:=seen_in rfl h.2.1
       exact tvS (by simp [go_sem,yy0,yy1,i2]) rfl
     rintro w9 hB9 _ rfl _ rfl _ rfl _ rfl _ rfl _ rfl _ rfl _ rfl _ rfl _ rfl _ rfl _ rfl _ rfl _ rfl _ rfl _ rfl _ rfl _ rfl
     simp only [Act.put,List.setIfInBounds_toArray,List.set_cons_succ,List.set_cons_zero,finP,List.drop_succ_cons,List.drop_zero,List.take_zero,List.filterMap_nil]
     obtain ⟨c0,c1,z0,z1,hput⟩:=row_put r1 r2 (own_keptN HRA.out hB9) hvl hlt
     have HP:=Lib.hid hput
     have hB10:=HBA.out.trans (hB9.mono (by rw [alloc_sz]; omega))
     have HB10:=Lib.hid hB10
     clear hput h0 h1' h2' oc va0 va1 vb0 vb1 hB9 hB10
     go_wp2_with (fail)
     go_roundw
     case rel=>exact ⟨k+1,by go_num,by omega,Lib.hid (by rw [HSN.out,he]; exact HP.out),(HB10.out.setCell (p:=⟨w2.heap.size+1,k * 2,none⟩) (Nat.le_refl _) _).setCell (p:=⟨w2.heap.size+1,k * 2+1,none⟩) (Nat.le_refl _) _⟩
     case measure=>simp [intOf]; omega
    by_cases h10:op = 10
    ·as_aux_lemma =>
     subst h10
     obtain ⟨⟨r1,r2⟩,hr⟩:∃ r,opI 10 (p1,p2) (q1,q2) = r:=⟨_,rfl⟩
     have he:evI X (t1,t2) vals ⟨10,m,j,lo,hi'⟩ = (r1,r2):=(evI_two (by decide) (by decide) (by decide) hpm hqm).trans hr
     have hr1:divLo p1 p2 q1 q2 = r1:=congrArg Prod.fst hr
     have hr2:divHi p1 p2 q1 q2 = r2:=congrArg Prod.snd hr
     have KF:=Lib.hid (fun w=>iv_div p1 p2 q1 q2 w hp hq)
     rw [hr1,hr2] at KF
     clear hr1 hr2 hr
     have ic:=IsC.new wr ⟨10,m,j,lo,hi'⟩
     dsimp only at ic
     have h0:=fun g:Grown (wr.alloc (.cells #[.int .i64 10,.int .i64 (m:Int),.int .i64 (j:Int),.int .i64 lo,.int .i64 hi'] 112))=>(ic.grow g.h).c0
     have h1':=fun g:Grown (wr.alloc (.cells #[.int .i64 10,.int .i64 (m:Int),.int .i64 (j:Int),.int .i64 lo,.int .i64 hi'] 112))=>(ic.grow g.h).c1
     have h2':=fun g:Grown (wr.alloc (.cells #[.int .i64 10,.int .i64 (m:Int),.int .i64 (j:Int),.int .i64 lo,.int .i64 hi'] 112))=>(ic.grow g.h).c2
     dsimp only at h0 h1' h2'
     have oc:=fun g:Grown (wr.alloc (.cells #[.int .i64 10,.int .i64 (m:Int),.int .i64 (j:Int),.int .i64 lo,.int .i64 hi'] 112))=>heapN_cellj ((g.h.block w2.heap.size (by rw [alloc_sz]; omega)).trans ((HBA.out.block w2.heap.size (by omega)).trans O5.out)) (k:=10) (u:=.func (.func 179) #[] #[]) rfl
     have va0:=fun g:Grown (wr.alloc (.cells #[.int .i64 10,.int .i64 (m:Int),.int .i64 (j:Int),.int .i64 lo,.int .i64 hi'] 112))=>(row_get (own_keptN HRA.out g.h) hvl hk hpm).1
     have va1:=fun g:Grown (wr.alloc (.cells #[.int .i64 10,.int .i64 (m:Int),.int .i64 (j:Int),.int .i64 lo,.int .i64 hi'] 112))=>(row_get (own_keptN HRA.out g.h) hvl hk hpm).2
     have vb0:=fun g:Grown (wr.alloc (.cells #[.int .i64 10,.int .i64 (m:Int),.int .i64 (j:Int),.int .i64 lo,.int .i64 hi'] 112))=>(row_get (own_keptN HRA.out g.h) hvl hk hqm).1
     have vb1:=fun g:Grown (wr.alloc (.cells #[.int .i64 10,.int .i64 (m:Int),.int .i64 (j:Int),.int .i64 lo,.int .i64 hi'] 112))=>(row_get (own_keptN HRA.out g.h) hvl hk hqm).2
     clear ic
     go_wp2_with (fail)
     refine region_pred_n 18 (lk [(39,fun z_ _=>z_ = .slice (some ⟨w2.heap.size+1,0,none⟩) L.length L.length),(40,fun z_ _=>z_ = .int .i64 (k:Int)),(41,fun z_ _=>z_ = .pointer (some ⟨wr.heap.size,0,none⟩)),(42,fun z_ _=>z_ = .int .i64 10),(43,fun z_ _=>z_ = .pointer (some ⟨w2.heap.size,10,none⟩)),(44,fun z_ _=>z_ = .func (.func 179) #[] #[]),(45,fun z_ _=>z_ = .slice (some ⟨w2.heap.size+1,0,none⟩) L.length L.length),(46,fun z_ _=>z_ = .pointer (some ⟨wr.heap.size,1,none⟩)),(47,fun z_ _=>z_ = .int .i64 (m:Int)),(48,fun z_ _=>z_ = .pointer (some ⟨w2.heap.size+1,m * 2,none⟩)),(49,fun z_ _=>z_ = .agg #[.int .i64 p1,.int .i64 p2]),(50,fun z_ _=>z_ = .slice (some ⟨w2.heap.size+1,0,none⟩) L.length L.length),(51,fun z_ _=>z_ = .pointer (some ⟨wr.heap.size,2,none⟩)),(52,fun z_ _=>z_ = .int .i64 (j:Int)),(53,fun z_ _=>z_ = .pointer (some ⟨w2.heap.size+1,j * 2,none⟩)),(54,fun z_ _=>z_ = .agg #[.int .i64 q1,.int .i64 q2]),(55,fun z_ _=>z_ = .agg #[.int .i64 r1,.int .i64 r2]),(56,fun z_ _=>z_ = .pointer (some ⟨w2.heap.size+1,k * 2,none⟩))]) (by kernel_rfl) (by kernel_rfl) (lk_steady _ ⟨steady_eq _,steady_eq _,steady_eq _,steady_eq _,steady_eq _,steady_eq _,steady_eq _,steady_eq _,steady_eq _,steady_eq _,steady_eq _,steady_eq _,steady_eq _,steady_eq _,steady_eq _,steady_eq _,steady_eq _,steady_eq _,trivial⟩) ?_ ?_
     ·refine ⟨?_,?_,?_,?_,?_,?_,?_,?_,?_,?_,?_,?_,?_,?_,?_,?_,?_,?_,trivial⟩
      ·refine ob_plain [8] rfl rfl fun aa g h=>?_
       have yy0:=seen_out (v:=.slice (some ⟨w2.heap.size+1,0,none⟩) L.length L.length) rfl rfl h.1
       exact tvS (by simp [go_sem,yy0]) rfl
      ·refine ob_plain [9] rfl rfl fun aa g h=>?_
       have yy0:=seen_out (v:=.int .i64 (k:Int)) rfl rfl h.1
       exact tvS (by simp [go_sem,yy0]) rfl
      ·refine ob_plain [10] rfl rfl fun aa g h=>?_
       have yy0:=seen_out (v:=.pointer (some ⟨wr.heap.size,0,none⟩)) rfl rfl h.1
       exact tvS (by simp [go_sem,yy0]) rfl
      ·refine ob_plain [41] rfl rfl fun aa g h=>?_
       obtain ⟨_,yy0,rfl⟩:=seen_in rfl h.1
       exact tvS (by simp [go_sem,yy0,h0 g]) rfl
      ·refine ob_plain [7,42] rfl rfl fun aa g h=>?_
       have yy0:=seen_out (v:=.pointer (some ⟨w2.heap.size,0,none⟩)) rfl rfl h.1
       obtain ⟨_,yy1,rfl⟩:=seen_in rfl h.2.1
       exact tvS (by simp [go_sem,yy0,yy1]) rfl
      ·refine ob_plain [43] rfl rfl fun aa g h=>?_
       obtain ⟨_,yy0,rfl⟩:=seen_in rfl h.1
       exact tvS (by simp [go_sem,yy0,oc g]) rfl
      ·refine ob_plain [8] rfl rfl fun aa g h=>?_
       have yy0:=seen_out (v:=.slice (some ⟨w2.heap.size+1,0,none⟩) L.length L.length) rfl rfl h.1
       exact tvS (by simp [go_sem,yy0]) rfl
      ·refine ob_plain [10] rfl rfl fun aa g h=>?_
       have yy0:=seen_out (v:=.pointer (some ⟨wr.heap.size,0,none⟩)) rfl rfl h.1
       exact tvS (by simp [go_sem,yy0]) rfl
      ·refine ob_plain [46] rfl rfl fun aa g h=>?_
       obtain ⟨_,yy0,rfl⟩:=seen_in rfl h.1
       exact tvS (by simp [go_sem,yy0,h1' g]) rfl
      ·refine ob_plain [45,47] rfl rfl fun aa g h=>?_
       obtain ⟨_,yy0,rfl⟩:=seen_in rfl h.1
       obtain ⟨_,yy1,rfl⟩:=seen_in rfl h.2.1
       exact tvS (by simp [go_sem,yy0,yy1,i5]) rfl
      ·refine ob_plain [48] rfl rfl fun aa g h=>?_
       obtain ⟨_,yy0,rfl⟩:=seen_in rfl h.1
       exact tvS (by simp [go_sem,yy0,va0 g,va1 g]) rfl
      ·refine ob_plain [8] rfl rfl fun aa g h=>?_
       have yy0:=seen_out (v:=.slice (some ⟨w2.heap.size+1,0,none⟩) L.length L.length) rfl rfl h.1
       exact tvS (by simp [go_sem,yy0]) rfl
      ·refine ob_plain [10] rfl rfl fun aa g h=>?_
       have yy0:=seen_out (v:=.pointer (some ⟨wr.heap.size,0,none⟩)) rfl rfl h.1
       exact tvS (by simp [go_sem,yy0]) rfl
      ·refine ob_plain [51] rfl rfl fun aa g h=>?_
       obtain ⟨_,yy0,rfl⟩:=seen_in rfl h.1
       exact tvS (by simp [go_sem,yy0,h2' g]) rfl
      ·refine ob_plain [50,52] rfl rfl fun aa g h=>?_
       obtain ⟨_,yy0,rfl⟩:=seen_in rfl h.1
       obtain ⟨_,yy1,rfl⟩:=seen_in rfl h.2.1
       exact tvS (by simp [go_sem,yy0,yy1,i6]) rfl
      ·refine ob_plain [53] rfl rfl fun aa g h=>?_
       obtain ⟨_,yy0,rfl⟩:=seen_in rfl h.1
       exact tvS (by simp [go_sem,yy0,vb0 g,vb1 g]) rfl
      ·refine ob_plain [44,49,54] rfl rfl fun aa g h=>?_
       obtain ⟨_,yy0,rfl⟩:=seen_in rfl h.1
       obtain ⟨_,yy1,rfl⟩:=seen_in rfl h.2.1
       obtain ⟨_,yy2,rfl⟩:=seen_in rfl h.2.2.1
       refine tupon_enter (f:=179) (args:=#[.agg #[.int .i64 p1,.int .i64 p2],.agg #[.int .i64 q1,.int .i64 q2]]) (by simp [go_sem,yy0,yy1,yy2]) rfl ?_
       exact (KF.out g.w).mono fun e w' ⟨he,hB⟩=>⟨_,he,hB,rfl⟩
      ·refine ob_plain [39,40] rfl rfl fun aa g h=>?_
       obtain ⟨_,yy0,rfl⟩:=seen_in rfl h.1
       obtain ⟨_,yy1,rfl⟩:=seen_in rfl h.2.1
       exact tvS (by simp [go_sem,yy0,yy1,i2]) rfl
     rintro w9 hB9 _ rfl _ rfl _ rfl _ rfl _ rfl _ rfl _ rfl _ rfl _ rfl _ rfl _ rfl _ rfl _ rfl _ rfl _ rfl _ rfl _ rfl _ rfl
     simp only [Act.put,List.setIfInBounds_toArray,List.set_cons_succ,List.set_cons_zero,finP,List.drop_succ_cons,List.drop_zero,List.take_zero,List.filterMap_nil]
     obtain ⟨c0,c1,z0,z1,hput⟩:=row_put r1 r2 (own_keptN HRA.out hB9) hvl hlt
     have HP:=Lib.hid hput
     have hB10:=HBA.out.trans (hB9.mono (by rw [alloc_sz]; omega))
     have HB10:=Lib.hid hB10
     clear hput h0 h1' h2' oc va0 va1 vb0 vb1 hB9 hB10
     go_wp2_with (fail)
     go_roundw
     case rel=>exact ⟨k+1,by go_num,by omega,Lib.hid (by rw [HSN.out,he]; exact HP.out),(HB10.out.setCell (p:=⟨w2.heap.size+1,k * 2,none⟩) (Nat.le_refl _) _).setCell (p:=⟨w2.heap.size+1,k * 2+1,none⟩) (Nat.le_refl _) _⟩
     case measure=>simp [intOf]; omega
    omega
  ·obtain rfl:k = L.length:=by omega
   obtain ⟨wv,hwv⟩:∃ wv,wv = wr:=⟨_,rfl⟩
   subst hwv
   have i2:¬ (L.length:Int) < L.length:=by omega
   have x0:=heapN_cellj hXr (k:=0) (u:=.int .i64 X.length) rfl
   have x2:=heapN_cellj hXr (k:=2) (u:=.slice po out.length co) rfl
   rw [Nat.sub_self,List.take_length] at HR
   have hvl:(evL X (t1,t2) L).length = L.length:=evL_len _ _ _
   obtain ⟨vals,hvals⟩:∃ vals,evL X (t1,t2) L = vals:=⟨_,rfl⟩
   rw [hvals] at HR hvl
   have HVS:=Lib.hid hvals
   obtain ⟨w6,hw6⟩:∃ w6,wv.alloc (.cells (madeCells (Value.cells (.agg #[.int .i64 0,.int .i64 0])) (X.length * 2)) 59) = w6:=⟨_,rfl⟩
   have qmk:(Instr.makeSlice 25 (.int .i64 0) (.int .i64 (X.length:Int))).run Tryz.prog wv = .ok (.slice (some ⟨wv.heap.size,0,none⟩) 0 X.length) w6:=by
    have:=run_make (P:=Tryz.prog) wv 25 59 i0 _ Tryz.underlying25 hi hz0 .i64 .i64 0 X.length (by omega) (by omega) (by rw [hz2]; omega) (by omega)
    rw [hz1] at this
    rw [← hw6]
    simpa using this
   have hb6:Below wv.heap.size wv w6:=by rw [← hw6]; exact (Below.refl _ _).alloc (Nat.le_refl _) _
   have hr6:w6.ownsRow wv.heap.size 59 2 (.slice (some ⟨wv.heap.size,0,none⟩) 0 X.length) 0 []:=by
    rw [← hw6]
    exact World.ownsRow_made wv _ X.length (Nat.le_refl _) (by unfold maxLen; omega) (size_madeCells _ _)
   have x26:=heapN_cellj ((hb6.block _ (Array.getElem?_eq_some_iff.1 hXr).1).trans hXr) (k:=2) (u:=.slice po out.length co) rfl
   have HB6:=Lib.hid hb6
   have HR6:=Lib.hid hr6
   have HBr:=Lib.hid hB
   have HBW:=Lib.hid hBw
   clear hw6 hb6 hr6 hB hBw hXr hvals x2
   go_wp2_with (fail)
   go_loopw [11,87] (fun v i wr=>∃ j:Nat,i = .int .i64 j∧j ≤ out.length∧wr.ownsRow wv.heap.size 59 2 v j (cr encB (outV vals (out.take j)))∧Below wv.heap.size wv wr) (fun v i _=>out.length - (intOf i).toNat)
   case atStart=>exact ⟨0,rfl,Nat.zero_le _,HR6.out,HB6.out⟩
   case round =>
    clear HR6 HB6 x0 x26 qmk
    obtain ⟨j,rfl,hj,hrow,hB⟩:=hrel
    have hRW:=own_keptN HR.out hB
    rw [List.replicate_zero,List.append_nil] at hRW
    obtain ⟨pv,cv,rfl⟩:=own_slice hrow
    have HBj:=Lib.hid hB
    have HRj:=Lib.hid hrow
    have hsW:=hB.size
    by_cases hlo:j < out.length
    ·have i3:(j:Int) < out.length:=by omega
     have hj6:j < 6:=by have:=NO.out; omega
     obtain ⟨y,hy⟩:∃ y,out[j]? = some y:=⟨_,List.getElem?_eq_getElem hlo⟩
     have hyb:=HOUT.out y (List.mem_of_getElem? hy)
     obtain ⟨m,rfl⟩:∃ m:Nat,y = m:=⟨y.toNat,by omega⟩
     obtain ⟨⟨p,q⟩,hm⟩:∃ x,vals[m]? = some x:=⟨_,List.getElem?_eq_getElem (by omega)⟩
     have i4:(m:Int) < L.length:=by omega
     obtain ⟨bo,oo,rfl,hbo,rdo⟩:=px_rd HO.out hy
     have r0:=rdo ⟨wr,HBW.out.trans (hB.mono HBW.out.size)⟩
     dsimp only at r0
     have hsn:outV vals (out.take (j+1)) = outV vals (out.take j) ++ [(p,q)]:=by
      unfold outV
      rw [List.take_add_one,hy]
      simp [List.getD_eq_getElem?_getD,hm]
     have s0:=(hRW.cellAt (m * 2) (by omega)).trans (cr_get encB_len m _ hm 0 _ rfl)
     have s1:=(hRW.cellAt (m * 2+1) (by omega)).trans (cr_get encB_len m _ hm 1 _ rfl)
     simp only [Nat.add_zero] at s0
     have HSN:=Lib.hid hsn
     clear hsn rdo hy hm hB hrow hRW
     go_wp2_with (at_builtin; refine wpList_append_own _ rfl (.tmp 91) (.tmp 96) 25 rfl wv.heap.size 59 i0 (.agg #[.int .i64 0,.int .i64 0]) 2 16 Tryz.underlying25 hi hz0 hz1 hz2 rfl (by decide) (.slice pv j cv) j _ rfl (HRj.out.alloc _) ⟨wr.heap.size,0,none⟩ 1 1 (encB (p,q)) rfl rfl (new_b _ (p,q)) (one_b _) (by unfold maxLen; omega) (by omega) (by rw [alloc_sz]; omega) ?_)
     intro v' w8 hown' hgrow _
     have hB8:Below wv.heap.size wv w8:=Below.grown (HBj.out.alloc (by omega) _) hgrow (by rw [alloc_sz]; omega) (fun i hi=>(HRj.out.lt i hi).1)
     obtain ⟨p8,c8,rfl⟩:=own_slice hown'
     have HR8:=Lib.hid hown'
     have HB8:=Lib.hid hB8
     clear hown' hgrow hB8
     go_wp2_with (fail)
     go_roundw
     case rel =>
      refine ⟨j+1,by go_num,by omega,?_,HB8.out⟩
      rw [HSN.out,cr_snoc]
      exact HR8.out
     case measure=>simp [intOf]; omega
    ·obtain rfl:j = out.length:=by omega
     have i3:¬ (out.length:Int) < out.length:=by omega
     go_wp2_with (fail)
     go_ret
     refine ⟨_,rfl,?_,HBW.out.trans (HBj.out.mono HBW.out.size)⟩
     rw [HVS.out]
     have h:=HRj.out
     rw [List.take_length] at h
     have hl:(outV vals out).length = out.length:=List.length_map _
     have h2:=Rx.own encB_len (l:=outV vals out) (by rw [hl]; exact h) (by rw [hl]; have:=NO.out; unfold maxLen; omega)
     exact h2
end Go.Proofs.YtekjflfkbgklhaaGreat
namespace Go.Proofs.YtekjflfkbgklhaaGreat
open Go.ChangeShapes Go.WideShapes Go.ChangeAt Go.RowKit
set_option linter.unusedVariables false
set_option linter.unusedSimpArgs false
set_option maxRecDepth 100000
attribute [local irreducible] Calls
end Go.Proofs.YtekjflfkbgklhaaGreat
