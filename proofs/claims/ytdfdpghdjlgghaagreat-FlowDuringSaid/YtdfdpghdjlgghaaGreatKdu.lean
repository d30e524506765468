/-
 VF Bis
-/
import Derived.Test.YtdfdpghdjlgghaaGreatKdc
import Derived.Test.YtdfdpghdjlgghaaGreatKdq
import Derived.Test.YtdfdpghdjlgghaaGreatKds
import Derived.Laws.Tables
namespace Go.Proofs.YtdfdpghdjlgghaaGreat
open Go.ChangeShapes Go.WideShapes Go.ChangeAt Go.RowKit Go.Shelf
set_option linter.unusedVariables false
set_option linter.unusedSimpArgs false
set_option maxRecDepth 100000
attribute [local go_sem] Oper.semAt_some
attribute [local irreducible] Calls
def FB (B:Nat) (v:Value):Prop:=∀ b,v.ownBlock = some b→B ≤ b
theorem FB.mono {B B':Nat} {v:Value} (h:FB B v) (hb:B' ≤ B):FB B' v:=fun b e=>Nat.le_trans hb (h b e)
def VxF (B:Nat) (W:World) (v:Value) (l:List (Int × Int)):Prop:=Vx W v l∧FB B v
theorem VxF.grow {B:Nat} {W W':World} {v:Value} {l:List (Int × Int)} (h:VxF B W v l) (hB:Below W.heap.size W W'):VxF B W' v l:=⟨h.1.grow hB,h.2⟩
theorem VxF.mono {B B':Nat} {W:World} {v:Value} {l:List (Int × Int)} (h:VxF B W v l) (hb:B' ≤ B):VxF B' W v l:=⟨h.1,h.2.mono hb⟩
theorem VxF.cut {B:Nat} {W:World} {v:Value} {l:List (Int × Int)} (h:VxF B W v l):∃ p c,v = .slice p l.length c:=h.1.cut
theorem vxf_put {B:Nat} {W:World} {v:Value} {l:List (Int × Int)} {k:Nat} {o o':Obj} (h:VxF B W v l) (hk:W.heap[k]? = some o) (hn:o.isCells = false):VxF B (W.putObj k o') v l:=⟨vx_put h.1 hk hn,h.2⟩
theorem vxf_setb {W:World} {v u:Value} {t:TypeId} {l:List (Int × Int)} {B0 B:Nat} (h:VxF B0 W v l) (hb:Boxed W B t u) (hu:∀ k n,u ≠ .int k n) (y:Value):VxF B0 (W.setCell ⟨B,0,none⟩ y) v l:=⟨vx_setb h.1 hb hu y,h.2⟩
theorem VxF.row {B X:Nat} {W:World} {v:Value} {l:List (Int × Int)} (h:VxF B W v l) (hX:X < B) (cs:Array Value):VxF B (W.setRow X cs) v l:=by
 refine ⟨?_,h.2⟩
 obtain ⟨h1,p,c,rfl,h2⟩:=h.1
 refine ⟨h1,p,c,rfl,fun i x hx=>?_⟩
 obtain ⟨b,o,rfl,h3,h4⟩:=h2 i x hx
 have hb:B ≤ b:=h.2 b rfl
 exact ⟨b,o,rfl,by rw [setRow_size]; exact h3,fun j z hz=>(cell_setRow_other W X cs _ (by dsimp only; omega)).trans (h4 j z hz)⟩
theorem image_vxF (N T H:Int) (vl vo vx vb:Value) (L:List Is) (O:List Int) (X B:List (Int × Int)) (w:World) (hl:Ix w vl L) (ho:Px w vo O) (hx:Vx w vx X) (hb:Vx w vb B) (htv:tvB N L O = true) (hN1:NmL L) (hXN:(X.length:Int) = N) (hBN:(B.length:Int) = N) (hvx:∀ p ∈ X,VI p.1 p.2) (hvb:∀ p ∈ B,VI p.1 p.2) (ht1:-1048576 ≤ T) (ht2:T ≤ 1048576) (h0:0 ≤ H) (h1:H ≤ 1000000) :
  Calls Tryz.prog 136 #[.agg #[.int .i64 N,vl,vo],vx,vb,.agg #[.int .i64 T,.int .i64 H]] w fun e w'=>∃ u,e = .returned u∧Vx w' u (imgT L O T H X B)∧FB w.heap.size u∧Below w.heap.size w w':=by
 have hlen:(imgT L O T H X B).length = X.length:=imgT_len htv hXN
 obtain ⟨_,hn6,_,_,_,_⟩:=tv_cases htv
 refine (image_ok N T H vl vo vx vb L O X B _ w hl ho hx hb htv hN1 hXN hBN hvx hvb ht1 ht2 h0 h1 rfl).mono fun e w' ⟨p,c,he,hown,hB⟩=>⟨_,he,?_,fun b e=>(hown.lt b e).1,hB⟩
 have h:=hown
 rw [← hlen] at h
 have h2:=Rx.own encB_len h (by rw [hlen]; unfold maxLen; omega)
 rwa [hlen] at h2
set_option maxHeartbeats 16000000 in
theorem att_seqF (n:Nat) (hn:2 ≤ n) (N T H:Int) (vl vo:Value) (px:Option Addr) (cx:Nat) (L:List Is) (O:List Int) (X:List (Int × Int)) (b1 b2 b3:Nat) (w:World) (hX1:Blk w b1 (.cells #[.slice px X.length cx] 23)) (hC1:Blk w b2 (.cells #[.int .i64 N,vl,vo] 35)) (hS1:Blk w b3 (.cells #[.int .i64 T,.int .i64 H] 116))
  (hl:Ix w vl L) (ho:Px w vo O) (hx:Vx w (.slice px X.length cx) X) (htv:tvB N L O = true) (hN1:NmL L) (hXN:(X.length:Int) = N) (hvx:∀ p ∈ X,VI p.1 p.2) (ht1:-1048576 ≤ T) (ht2:T ≤ 1048576) (h0:0 ≤ H) (h1:H ≤ 1000000) :
  SeqN Tryz.prog n 135 #[.pointer (some ⟨b1,0,none⟩),.pointer (some ⟨b2,0,none⟩),.pointer (some ⟨b3,0,none⟩)] 8
   (fun i xs W=>∃ v1 v2,xs = #[v1,v2]∧Vx W v1 (infL (hsq (imgT L O T H X) X i))∧VxF w.heap.size W v2 (imgT L O T H X (infL (hsq (imgT L O T H X) X i)))) w:=by
 intro l J Jx W hW hlw hJl hJB hJxB hY hJ0
 obtain ⟨hn1,hn6,h400,hon,hvl,hout⟩:=tv_cases htv
 have hX6:X.length ≤ 6:=by omega
 have himg:∀ B:List (Int × Int),B.length = X.length→(∀ p ∈ B,VI p.1 p.2)→(imgT L O T H X B).length = X.length∧∀ p ∈ imgT L O T H X B,VI p.1 p.2:=fun B hB hv=>⟨imgT_len htv hXN,imgT_vi htv hvx hv ht1 ht2 h0 h1⟩
 have HS:=Lib.hid (hsq_ok hvx himg)
 have KI:=Lib.hid (fun (vb:Value) (B:List (Int × Int)) (w:World) a b c d (hBl:B.length = X.length) hvb=>image_vxF N T H vl vo (.slice px X.length cx) vb L O X B w a b c d htv hN1 hXN (by rw [hBl]; exact hXN) hvx hvb ht1 ht2 h0 h1)
 have IMG:=Lib.hid himg
 have KH:=Lib.hid (fun (va vb:Value) (la lb:List (Int × Int)) (w:World) a b (hla:la.length = X.length) (hlb:lb.length = X.length) c d=>hull_vx va vb la lb w a b (by rw [hla,hlb]) c d (by omega))
 have KF:=Lib.hid (fun (v:Value) (B:List (Int × Int)) (w:World) a (hB:B.length = X.length) b=>inf_vx v B w a (by omega) b)
 have HXV:=Lib.hid hvx
 have HX:=Lib.hid hx
 have HLL:=Lib.hid hl
 have HO:=Lib.hid ho
 have HX1:=Lib.hid hX1
 have HC1:=Lib.hid hC1
 have HS1:=Lib.hid hS1
 have HW:=Lib.hid hW
 have HY:=Lib.hid hY
 have HJB:=Lib.hid hJB
 have HJL:=Lib.hid hJl
 have HJXB:=Lib.hid hJxB
 have HJ0:=Lib.hid hJ0
 obtain ⟨img,hig⟩:∃ img,imgT L O T H X = img:=⟨_,rfl⟩
 have HIG:=Lib.hid hig
 clear hX1 hC1 hS1 hl ho hx hvx htv hXN ht1 ht2 h0 h1 himg hn1 hn6 h400 hon hvl hout hW hY hJB hJl hJxB hJ0 hig
 refine callsIn_of_wp Tryz.func135 rfl trivial ?_ rfl
 simp only [Tryz.ntmps135,List.size_toArray,List.length_cons,List.length_nil,Nat.reduceAdd,Nat.reduceSub,Array.replicate_succ,Array.replicate_zero,List.push_toArray,List.append_toArray,List.nil_append,List.cons_append]
 gi_wp2
 have x0:=fun g:Grown W=>heapN_cellj (HX1.out.grow (HW.out.trans (g.h.mono HW.out.size))) (k:=0) rfl
 have c0:=fun g:Grown W=>heapN_cellj (HC1.out.grow (HW.out.trans (g.h.mono HW.out.size))) (k:=0) rfl
 have c1:=fun g:Grown W=>heapN_cellj (HC1.out.grow (HW.out.trans (g.h.mono HW.out.size))) (k:=1) rfl
 have c2:=fun g:Grown W=>heapN_cellj (HC1.out.grow (HW.out.trans (g.h.mono HW.out.size))) (k:=2) rfl
 have s0:=fun g:Grown W=>heapN_cellj (HS1.out.grow (HW.out.trans (g.h.mono HW.out.size))) (k:=0) rfl
 have s1:=fun g:Grown W=>heapN_cellj (HS1.out.grow (HW.out.trans (g.h.mono HW.out.size))) (k:=1) rfl
 have up:=fun (g:Grown W)=>HW.out.trans (g.h.mono HW.out.size)
 have UP:=Lib.hid up
 clear up
 refine region_pred_in (F:=Fence.wide) 7 (lk [(8,fun z_ _=>z_ = .slice px X.length cx),(9,fun z_ _=>z_ = .agg #[.int .i64 N,vl,vo]),(10,fun z_ _=>z_ = .slice px X.length cx),(11,fun z_ _=>z_ = .slice px X.length cx),(12,fun z_ _=>z_ = .agg #[.int .i64 T,.int .i64 H]),(13,fun z_ w'=>Vx w' z_ (imgT L O T H X X)),(14,fun z_ w'=>Vx w' z_ (hulL X (imgT L O T H X X)))]) wide_fn rfl wide_call (by kernel_rfl) (by kernel_rfl) (lk_steady _ ⟨steady_eq _,steady_eq _,steady_eq _,steady_eq _,steady_eq _,fun u w1 w2 hb h=>h.grow hb,fun u w1 w2 hb h=>h.grow hb,trivial⟩) ?_ ?_
 ·refine ⟨?_,?_,?_,?_,?_,?_,?_,trivial⟩
  ·refine ob_plain [1] rfl rfl fun aa g h=>?_
   have yy0:=seen_out (v:=.pointer (some ⟨b1,0,none⟩)) rfl rfl h.1
   exact tvS (by simp [go_sem,yy0,x0 g]) rfl
  ·refine ob_plain [2] rfl rfl fun aa g h=>?_
   have yy0:=seen_out (v:=.pointer (some ⟨b2,0,none⟩)) rfl rfl h.1
   exact tvS (by simp [go_sem,yy0,c0 g,c1 g,c2 g]) rfl
  ·refine ob_plain [1] rfl rfl fun aa g h=>?_
   have yy0:=seen_out (v:=.pointer (some ⟨b1,0,none⟩)) rfl rfl h.1
   exact tvS (by simp [go_sem,yy0,x0 g]) rfl
  ·refine ob_plain [1] rfl rfl fun aa g h=>?_
   have yy0:=seen_out (v:=.pointer (some ⟨b1,0,none⟩)) rfl rfl h.1
   exact tvS (by simp [go_sem,yy0,x0 g]) rfl
  ·refine ob_plain [3] rfl rfl fun aa g h=>?_
   have yy0:=seen_out (v:=.pointer (some ⟨b3,0,none⟩)) rfl rfl h.1
   exact tvS (by simp [go_sem,yy0,s0 g,s1 g]) rfl
  ·refine ob_plain [9,10,11,12] rfl rfl fun aa g h=>?_
   obtain ⟨_,yy0,rfl⟩:=seen_in rfl h.1
   obtain ⟨_,yy1,rfl⟩:=seen_in rfl h.2.1
   obtain ⟨_,yy2,rfl⟩:=seen_in rfl h.2.2.1
   obtain ⟨_,yy3,rfl⟩:=seen_in rfl h.2.2.2.1
   refine tupon_enter (f:=136) (args:=#[.agg #[.int .i64 N,vl,vo],.slice px X.length cx,.slice px X.length cx,.agg #[.int .i64 T,.int .i64 H]]) (by simp [go_sem,yy0,yy1,yy2,yy3]) rfl ?_
   exact (KI.out _ X g.w (HLL.out.grow (UP.out g)) (HO.out.grow (UP.out g)) (HX.out.grow (UP.out g)) (HX.out.grow (UP.out g)) rfl HXV.out).mono fun e w' ⟨u9,he,hv,_,hB⟩=>⟨_,he,hB,hv⟩
  ·refine ob_plain [8,13] rfl rfl fun aa g h=>?_
   obtain ⟨_,yy0,rfl⟩:=seen_in rfl h.1
   obtain ⟨z13,yy1,hv13⟩:=seen_in rfl h.2.1
   refine tupon_enter (f:=72) (args:=#[.slice px X.length cx,z13]) (by simp [go_sem,yy0,yy1]) rfl ?_
   exact (KH.out _ _ X _ g.w (HX.out.grow (UP.out g)) hv13 rfl (IMG.out X rfl HXV.out).1 HXV.out (IMG.out X rfl HXV.out).2).mono fun e w' ⟨u9,he,hv,hB⟩=>⟨_,he,hB,hv⟩
 rintro w5 hB5 _ rfl _ rfl _ rfl _ rfl _ rfl z13 hv13 z14 hv14
 simp only [Act.put,List.setIfInBounds_toArray,List.set_cons_succ,List.set_cons_zero,finP,List.drop_succ_cons,List.drop_zero,List.take_zero,List.filterMap_nil]
 have HV:=Lib.hid hv14
 rw [HIG.out] at HV
 have HW5:=Lib.hid (show Below w.heap.size w w5 from UP.out ⟨w5,hB5⟩)
 have HJ5:=Lib.hid (HJB.out 0 _ _ HJ0.out hB5)
 clear hB5 hv13 hv14 x0 c0 c1 c2 s0 s1 HJ0 HW UP
 gi_wp2
 gi_loopw [5,15] (fun v i wr=>∃ k:Nat,k ≤ 8∧i = .int .i64 k∧Hid (Vx wr v (hsq img X k))∧Hid (J k wr)∧Hid (Below w.heap.size w wr)) (fun v i _=>8 - (intOf i).toNat)
 case atStart=>exact ⟨0,Nat.zero_le _,rfl,HV,HJ5,HW5⟩
 case round =>
  clear HV HJ5 HW5
  obtain ⟨k,hk,rfl,HV,HJ,HB⟩:=hrel
  by_cases hlt:k < 8
  ·have i2:(k:Int) < 8:=by omega
   obtain ⟨hlk,hvk⟩:=HS.out k
   rw [HIG.out] at hlk hvk
   have hli:=inf_len (hsq img X k)
   rw [hlk] at hli
   have hvi:=inf_vi hvk
   have him:=IMG.out _ hli hvi
   rw [HIG.out] at him
   have KF1:=Lib.hid (fun w a=>KF.out u5 _ w a hlk hvk)
   have KI1:=Lib.hid (fun v w a b c d=>KI.out v _ w a b c d hli hvi)
   rw [HIG.out] at KI1
   have KH1:=Lib.hid (fun va vb w a b=>KH.out va vb _ _ w a b hli him.1 hvi him.2)
   have YY:=Lib.hid (fun xs W1=>HY.out k xs W1 hlt)
   rw [HIG.out] at YY
   clear hlk hvk hli hvi him KF KI KH HY
   gi_wp2_with (fail)
   refine ⟨trivial,fun _=>by omega,(callsIn_wide.2 (KF1.out _ HV.out)).mono ?_⟩
   rintro e w6 ⟨v1,rfl,hv1,hB6⟩
   have HV1:=Lib.hid hv1
   have HJ6:=Lib.hid (HJB.out k _ _ HJ.out hB6)
   have HB6:=Lib.hid (HB.out.trans (hB6.mono HB.out.size))
   clear hv1 hB6 HV HJ HB
   have x0:=heapN_cellj (HX1.out.grow HB6.out) (k:=0) rfl
   have c0:=heapN_cellj (HC1.out.grow HB6.out) (k:=0) rfl
   have c1:=heapN_cellj (HC1.out.grow HB6.out) (k:=1) rfl
   have c2:=heapN_cellj (HC1.out.grow HB6.out) (k:=2) rfl
   have s0:=heapN_cellj (HS1.out.grow HB6.out) (k:=0) rfl
   have s1:=heapN_cellj (HS1.out.grow HB6.out) (k:=1) rfl
   gi_wp2_with (fail)
   refine ⟨trivial,fun _=>by omega,(callsIn_wide.2 (KI1.out v1 _ (HLL.out.grow HB6.out) (HO.out.grow HB6.out) (HX.out.grow HB6.out) HV1.out)).mono ?_⟩
   rintro e w7 ⟨v2,rfl,hv2,hf2,hB7⟩
   have HV2:=Lib.hid hv2
   have HF2:=Lib.hid (hf2.mono HB6.out.size)
   have HV1:=Lib.hid (HV1.out.grow hB7)
   have HJ7:=Lib.hid (HJB.out k _ _ HJ6.out hB7)
   have HB7:=Lib.hid (HB6.out.trans (hB7.mono HB6.out.size))
   clear hv2 hf2 hB7 HJ6 HB6 x0 c0 c1 c2 s0 s1
   obtain ⟨fn,tmps,assign,body,hy',hR⟩:=YY.out #[v1,v2] w7 HJ7.out ⟨v1,v2,rfl,HV1.out,HV2.out,HF2.out⟩
   have HR:=Lib.hid hR
   clear hR
   gi_wp2
   refine ⟨fun _=>by omega,HR.out.mono ?_⟩
   rintro e w8 (⟨rfl,hJ8,hg8⟩ | ⟨rfl,hJ8⟩)
   ·have hlo:=HJL.out _ _ HJ7.out
    obtain ⟨r,hlr⟩:=hlo
    have HV1:=Lib.hid (vx_row HV1.out hg8 ⟨_,hlr,rfl⟩)
    have HV2:=Lib.hid (vx_row HV2.out hg8 ⟨_,hlr,rfl⟩)
    have HJ8:=Lib.hid hJ8
    have HB8:=Lib.hid (gb_old hg8 hlw HB7.out HB7.out.size)
    clear hJ8 hg8 hlr HB7 HJ7 HR hy'
    gi_wp2_with (fail)
    refine ⟨trivial,fun _=>by omega,(callsIn_wide.2 (KH1.out _ _ _ HV1.out HV2.out)).mono ?_⟩
    rintro e w9 ⟨v3,rfl,hv3,hB9⟩
    have HV3:=Lib.hid hv3
    have HJ9:=Lib.hid (HJB.out _ _ _ HJ8.out hB9)
    have HB9:=Lib.hid (HB8.out.trans (hB9.mono HB8.out.size))
    clear hv3 hB9 HJ8 HB8
    gi_wp2
    go_roundw
    case rel=>exact ⟨k+1,by omega,by go_num,HV3,HJ9,HB9⟩
    case measure=>simp [intOf]; omega
   ·gi_wp2
    refine bodyPost_ret (results_none rfl _ _ _) rfl ?_
    exact ⟨⟨_,rfl⟩,.inr ⟨_,hJ8⟩⟩
  ·obtain rfl:k = 8:=by omega
   have i2:¬ ((8:Nat):Int) < 8:=by decide
   gi_wp2
   go_end0
   exact ⟨⟨_,rfl⟩,.inl HJ.out⟩
set_option maxHeartbeats 16000000 in
theorem encl_inF (n:Nat) (hn:4 ≤ n) (N T H:Int) (vl vo vx:Value) (L:List Is) (O:List Int) (X:List (Int × Int)) (w:World) (hl:Ix w vl L) (ho:Px w vo O) (hx:Vx w vx X) (htv:tvB N L O = true) (hN1:NmL L) (hXN:(X.length:Int) = N) (hvx:∀ p ∈ X,VI p.1 p.2) (ht1:-1048576 ≤ T) (ht2:T ≤ 1048576) (h0:0 ≤ H) (h1:H ≤ 1000000) (r:Option (List (Int × Int))) (hr:encR (imgT L O T H X) X = r) :
  CallsIn Fence.wide n Tryz.prog 92 #[.agg #[.int .i64 N,vl,vo],vx,.agg #[.int .i64 T,.int .i64 H]] w fun e w'=>∃ v,e = .returned (.tuple #[v,.bool r.isSome])∧VxF w.heap.size w' v (r.getD [])∧Below w.heap.size w w':=by
 obtain ⟨px,cx,rfl⟩:=hx.cut
 obtain ⟨hn1,hn6,h400,hon,hvl,hout⟩:=tv_cases htv
 have himg:∀ B:List (Int × Int),B.length = X.length→(∀ p ∈ B,VI p.1 p.2)→(imgT L O T H X B).length = X.length∧∀ p ∈ imgT L O T H X B,VI p.1 p.2:=fun B hB hv=>⟨imgT_len htv hXN,imgT_vi htv hvx hv ht1 ht2 h0 h1⟩
 have HS:=Lib.hid (hsq_ok hvx himg)
 have IMG:=Lib.hid himg
 have KB:=Lib.hid (fun (v:Value) (B:List (Int × Int)) (r:Bool) (w:World) a (hB:B.length = X.length) b c=>bnd_ok v B r w a b (by omega) (by omega) c)
 have KS:=Lib.hid (fun (va vb:Value) (A B:List (Int × Int)) (w:World) (a:Vx w va A) (b:Vx w vb B) (hA:A.length = X.length) (hB:B.length = X.length)=>box_subset va vb A B w (vx_bx a) (vx_bx b) (by omega))
 have KA:=Lib.hid (fun w=>attempts_ok N T H vl vo px X.length cx w)
 have hba:Below w.heap.size w ((((w.alloc (.cells #[.int .i64 N,vl,vo] 35)).alloc (.cells #[.int .i64 T,.int .i64 H] 116)).alloc (.cells #[.slice none 0 0] 23)).alloc (.cells #[.bool false] 4)):=allocs_below [.cells #[.int .i64 N,vl,vo] 35,.cells #[.int .i64 T,.int .i64 H] 116,.cells #[.slice none 0 0] 23,.cells #[.bool false] 4] w
 have HC:=Lib.hid (show Blk ((((w.alloc (.cells #[.int .i64 N,vl,vo] 35)).alloc (.cells #[.int .i64 T,.int .i64 H] 116)).alloc (.cells #[.slice none 0 0] 23)).alloc (.cells #[.bool false] 4)) w.heap.size (.cells #[.int .i64 N,vl,vo] 35) from allocs_at [.cells #[.int .i64 N,vl,vo] 35,.cells #[.int .i64 T,.int .i64 H] 116,.cells #[.slice none 0 0] 23,.cells #[.bool false] 4] w 0 _ rfl)
 have HSt:=Lib.hid (show Blk ((((w.alloc (.cells #[.int .i64 N,vl,vo] 35)).alloc (.cells #[.int .i64 T,.int .i64 H] 116)).alloc (.cells #[.slice none 0 0] 23)).alloc (.cells #[.bool false] 4)) (w.heap.size+1) (.cells #[.int .i64 T,.int .i64 H] 116) from allocs_at [.cells #[.int .i64 N,vl,vo] 35,.cells #[.int .i64 T,.int .i64 H] 116,.cells #[.slice none 0 0] 23,.cells #[.bool false] 4] w 1 _ rfl)
 have HZN:=Lib.hid (show Blk ((((w.alloc (.cells #[.int .i64 N,vl,vo] 35)).alloc (.cells #[.int .i64 T,.int .i64 H] 116)).alloc (.cells #[.slice none 0 0] 23)).alloc (.cells #[.bool false] 4)) (w.heap.size+2) (.cells #[.slice none 0 0] 23) from allocs_at [.cells #[.int .i64 N,vl,vo] 35,.cells #[.int .i64 T,.int .i64 H] 116,.cells #[.slice none 0 0] 23,.cells #[.bool false] 4] w 2 _ rfl)
 have HZB:=Lib.hid (show Blk ((((w.alloc (.cells #[.int .i64 N,vl,vo] 35)).alloc (.cells #[.int .i64 T,.int .i64 H] 116)).alloc (.cells #[.slice none 0 0] 23)).alloc (.cells #[.bool false] 4)) (w.heap.size+3) (.cells #[.bool false] 4) from allocs_at [.cells #[.int .i64 N,vl,vo] 35,.cells #[.int .i64 T,.int .i64 H] 116,.cells #[.slice none 0 0] 23,.cells #[.bool false] 4] w 3 _ rfl)
 have HX:=Lib.hid (hx.grow hba)
 have HW:=Lib.hid hba
 have hsz4:((((w.alloc (.cells #[.int .i64 N,vl,vo] 35)).alloc (.cells #[.int .i64 T,.int .i64 H] 116)).alloc (.cells #[.slice none 0 0] 23)).alloc (.cells #[.bool false] 4)).heap.size = w.heap.size+4:=by simp only [World.size_alloc]
 have c0:=heapN_cellj HC.out (k:=0) rfl
 have c1:=heapN_cellj HC.out (k:=1) rfl
 have c2:=heapN_cellj HC.out (k:=2) rfl
 have s0:=heapN_cellj HSt.out (k:=0) rfl
 have s1:=heapN_cellj HSt.out (k:=1) rfl
 have AS:=Lib.hid (fun (b1 b2 b3:Nat) (w':World) (a:Blk w' b1 (.cells #[.slice px X.length cx] 23)) (b:Blk w' b2 (.cells #[.int .i64 N,vl,vo] 35)) (c:Blk w' b3 (.cells #[.int .i64 T,.int .i64 H] 116)) (hb:Below w.heap.size w w')=>att_seqF (n - 1) (by omega) N T H vl vo px cx L O X b1 b2 b3 w' a b c (hl.grow hb) (ho.grow hb) (hx.grow hb) htv hN1 hXN hvx ht1 ht2 h0 h1)
 obtain ⟨img,hig⟩:∃ img,imgT L O T H X = img:=⟨_,rfl⟩
 rw [hig] at HS IMG AS hr
 have HR:=Lib.hid hr
 have HSZ:=Lib.hid hsz4
 clear hsz4 hl ho hx hvx htv hXN ht1 ht2 h0 h1 himg hn1 hn6 h400 hon hvl hout hba hig hr HC HSt
 refine callsIn_of_wp_marks Tryz.func92 rfl trivial ?_ rfl
 simp only [Tryz.ntmps92,List.size_toArray,List.length_cons,List.length_nil,Nat.reduceAdd,Nat.reduceSub,Array.replicate_succ,Array.replicate_zero,List.push_toArray,List.append_toArray,List.nil_append,List.cons_append]
 gi_wp2_with (fail)
 refine wpIn_wide.2 (wp_scope_straight ((wpIn_wide (n:=n)).1 ?_))
 gi_wp2_with (fail)
 refine wpIn_label ?_
 gi_wp2_with (fail)
 generalize hW4:World.alloc (World.alloc (World.alloc (World.alloc w _) _) _) _ = W4 at *
 clear hW4
 refine ⟨trivial,fun _=>by omega,(callsIn_wide.2 (KA.out _)).mono ?_⟩
 rintro e w5 ⟨rfl,rfl⟩
 obtain ⟨W5,hW5⟩:∃ W5,(((W4.alloc (.cells #[.int .i64 N,vl,vo] 35)).alloc (.cells #[.slice px X.length cx] 23)).alloc (.cells #[.int .i64 T,.int .i64 H] 116)) = W5:=⟨_,rfl⟩
 have hb5:Below W4.heap.size W4 W5:=by rw [← hW5]; exact allocs_below [.cells #[.int .i64 N,vl,vo] 35,.cells #[.slice px X.length cx] 23,.cells #[.int .i64 T,.int .i64 H] 116] W4
 have B2:=Lib.hid (show Blk W5 W4.heap.size (.cells #[.int .i64 N,vl,vo] 35) from by rw [← hW5]; exact allocs_at [.cells #[.int .i64 N,vl,vo] 35,.cells #[.slice px X.length cx] 23,.cells #[.int .i64 T,.int .i64 H] 116] W4 0 _ rfl)
 have B1:=Lib.hid (show Blk W5 (W4.heap.size+1) (.cells #[.slice px X.length cx] 23) from by rw [← hW5]; exact allocs_at [.cells #[.int .i64 N,vl,vo] 35,.cells #[.slice px X.length cx] 23,.cells #[.int .i64 T,.int .i64 H] 116] W4 1 _ rfl)
 have B3:=Lib.hid (show Blk W5 (W4.heap.size+2) (.cells #[.int .i64 T,.int .i64 H] 116) from by rw [← hW5]; exact allocs_at [.cells #[.int .i64 N,vl,vo] 35,.cells #[.slice px X.length cx] 23,.cells #[.int .i64 T,.int .i64 H] 116] W4 2 _ rfl)
 rw [hW5]
 have HB5:=Lib.hid (below_then HW.out hb5)
 have Z5:=Lib.hid (show Boxed W5 (w.heap.size+1+1) 23 (.slice none 0 0) from HZN.out.grow hb5)
 have Y5:=Lib.hid (show Boxed W5 (w.heap.size+1+1+1) 4 (.bool false) from HZB.out.grow hb5)
 have hs5:w.heap.size+4 ≤ W5.heap.size:=by have:=hb5.size; have:=HSZ.out; omega
 have HS5:=Lib.hid hs5
 clear hW5 hb5 hs5 HZN HZB HW HX KA c0 c1 c2 s0 s1
 gi_wp2_with (fail)
 refine rf_nat n (by omega) (gf:=135) (lb:=#[.pointer (some ⟨W4.heap.size+1,0,none⟩),.pointer (some ⟨W4.heap.size,0,none⟩),.pointer (some ⟨W4.heap.size+2,0,none⟩)]) rfl (enters_of Tryz.func135 (by kernel_rfl) rfl) 8 _ ?hYs
  (fun k=>encG img (8 - k) (hsq img X k) = encR img X)
  (fun c i W=>Below w.heap.size w W∧((c = .ret∧∃ v d,encR img X = some d∧VxF w.heap.size W v d∧Boxed W (w.heap.size+1+1) 23 v∧Boxed W (w.heap.size+1+1+1) 4 (.bool true)) ∨ (c = .exit 0∧encR img X = none∧Boxed W (w.heap.size+1+1) 23 (.slice none 0 0)∧Boxed W (w.heap.size+1+1+1) 4 (.bool false))))
  (AS.out _ _ _ W5 B1.out B2.out B3.out HB5.out) ?hIx ?hIxB
  (fun i xs a' W=>∃ v1 v2,xs = #[v1,v2]∧Vx W v1 (infL (hsq img X i))∧VxF w.heap.size W v2 (img (infL (hsq img X i)))∧a' = { tmps:=#[.agg #[.int .i64 N,vl,vo],.slice px X.length cx,.agg #[.int .i64 T,.int .i64 H],.pointer (some ⟨w.heap.size,0,none⟩),undef,.pointer (some ⟨w.heap.size+1,0,none⟩),.pointer (some ⟨w.heap.size+1+1,0,none⟩),.pointer (some ⟨w.heap.size+1+1+1,0,none⟩),v1,v2,.agg #[.int .i64 N,vl,vo],.slice px X.length cx,.agg #[.int .i64 T,.int .i64 H],.func (.func 135) #[] #[.pointer (some ⟨W4.heap.size+1,0,none⟩),.pointer (some ⟨W4.heap.size,0,none⟩),.pointer (some ⟨W4.heap.size+2,0,none⟩)],v1,v2,undef,undef,undef,undef,undef,undef,undef,undef,undef,undef,undef,undef,undef,undef],defers:=[] }) ?hAx rfl ?hassign ?hbody ?hdone ?hstop
 case hYs=>rintro i xs W ⟨v1,v2,rfl,_⟩; rfl
 case hIx =>
  rintro c i A k o o' ⟨hB,h⟩ hk ho hn
  have h5:=HS5.out
  refine ⟨hB.grown (grownBy_putObj' A k o') hB.size (fun j e=>by cases e; omega),?_⟩
  have kp:∀ (b:Nat) (t:TypeId) (v:Value),b < W5.heap.size→Boxed A b t v→Boxed (A.putObj k o') b t v:=fun b t v hb h=>(World.putObj_heap_other (by omega)).trans h
  rcases h with ⟨rfl,v,d,e1,e2,e3,e4⟩ | ⟨rfl,e1,e3,e4⟩
  ·exact .inl ⟨rfl,v,d,e1,vxf_put e2 ho hn,kp _ _ _ (by omega) e3,kp _ _ _ (by omega) e4⟩
  ·exact .inr ⟨rfl,e1,kp _ _ _ (by omega) e3,kp _ _ _ (by omega) e4⟩
 case hIxB =>
  rintro c i A B ⟨hB,h⟩ hAB
  refine ⟨below_then hB hAB,?_⟩
  rcases h with ⟨rfl,v,d,e1,e2,e3,e4⟩ | ⟨rfl,e1,e3,e4⟩
  ·exact .inl ⟨rfl,v,d,e1,e2.grow hAB,(hAB.block _ e3.lt).trans e3,(hAB.block _ e4.lt).trans e4⟩
  ·exact .inr ⟨rfl,e1,(hAB.block _ e3.lt).trans e3,(hAB.block _ e4.lt).trans e4⟩
 case hAx =>
  rintro i xs a' A k o o' ⟨v1,v2,rfl,e1,e2,e3⟩ hk ho hn
  exact ⟨v1,v2,rfl,vx_put e1 ho hn,vxf_put e2 ho hn,e3⟩
 case hassign =>
  rintro l i xs W K ⟨v1,v2,rfl,e1,e2⟩ hK
  gi_wp2
  exact hK _ _ (Below.refl _ _) ⟨v1,v2,rfl,e1,e2.mono (by have:=HS5.out; omega),rfl⟩
 case hbody =>
  rintro l i xs a' W hl ⟨r0,hr0⟩ hp hi hB ⟨v1,v2,rfl,e1,e2,rfl⟩
  obtain ⟨hlk,hvk⟩:=HS.out i
  have hli:=inf_len (hsq img X i)
  rw [hlk] at hli
  have hvi:=inf_vi hvk
  obtain ⟨hil,hiv⟩:=IMG.out _ hli hvi
  have hst:=encG_at img X i (8 - i) (by omega) hp (by omega)
  obtain ⟨cnd,hcnd⟩:∃ c,infL (hsq img X i) = c:=⟨_,rfl⟩
  rw [hcnd] at hli hvi hil hiv hst e1 e2
  obtain ⟨im,him⟩:∃ c,img cnd = c:=⟨_,rfl⟩
  rw [him] at hil hiv hst e2
  obtain ⟨p2,c2,rfl⟩:=e2.cut
  obtain ⟨n1,hn1⟩:∃ b,bndB cnd = b:=⟨_,rfl⟩
  obtain ⟨n2,hn2⟩:∃ b,bndB im = b:=⟨_,rfl⟩
  obtain ⟨s,hs⟩:∃ b,subB im cnd = b:=⟨_,rfl⟩
  rw [hn1,hn2,hs] at hst
  have KB1:=Lib.hid (fun w a=>KB.out v1 cnd n1 w a hli hvi hn1)
  have KB2:=Lib.hid (fun w a=>KB.out (.slice p2 im.length c2) im n2 w a hil hiv hn2)
  have KS1:=Lib.hid (fun w a b=>KS.out (.slice p2 im.length c2) v1 im cnd w a b hil hli)
  rw [show (im.zip cnd).all sub1 = s from hs] at KS1
  have ST:=Lib.hid hst
  have E1:=Lib.hid e1
  have E2:=Lib.hid e2
  have HBW:=Lib.hid (HB5.out.trans (hB.mono HB5.out.size))
  have ZW:=Lib.hid (show Boxed W (w.heap.size+1+1) 23 (.slice none 0 0) from (hB.block _ Z5.out.lt).trans Z5.out)
  have YW:=Lib.hid (show Boxed W (w.heap.size+1+1+1) 4 (.bool false) from (hB.block _ Y5.out.lt).trans Y5.out)
  clear hlk hvk hli hvi hil hiv hst hcnd him hn1 hn2 hs e1 e2 hp hB KB KS HS IMG AS hr0 Z5 Y5 HB5
  gi_wp2_with (fail)
  refine ⟨trivial,fun h=>(by cases h),(CallsIn.inRound l (callsIn_wide.2 (KB1.out _ E1.out))).mono ?_⟩
  rintro e w6 ⟨rfl,hB6⟩
  have E1:=Lib.hid (E1.out.grow hB6)
  have E2:=Lib.hid (E2.out.grow hB6)
  have HB6:=Lib.hid hB6
  clear hB6
  cases n1 with
  | false =>
   gi_wp2_with (fail)
   refine ⟨trivial,?_⟩
   gi_wp2_with (fail)
   exact ⟨keep_below HB6.out,below_then HBW.out HB6.out,.inr ⟨rfl,ST.out.1 rfl,(HB6.out.block _ ZW.out.lt).trans ZW.out,(HB6.out.block _ YW.out.lt).trans YW.out⟩⟩
  | true =>
   gi_wp2_with (fail)
   refine ⟨trivial,fun h=>(by cases h),(CallsIn.inRound l (callsIn_wide.2 (KB2.out _ E2.out.1))).mono ?_⟩
   rintro e w7 ⟨rfl,hB7⟩
   have E1:=Lib.hid (E1.out.grow hB7)
   have E2:=Lib.hid (E2.out.grow hB7)
   have HB7:=Lib.hid (below_then HB6.out hB7)
   clear hB7 HB6
   cases n2 with
   | false =>
    gi_wp2_with (fail)
    exact ⟨keep_below HB7.out,below_then HBW.out HB7.out,.inr ⟨rfl,ST.out.1 rfl,(HB7.out.block _ ZW.out.lt).trans ZW.out,(HB7.out.block _ YW.out.lt).trans YW.out⟩⟩
   | true =>
    gi_wp2_with (fail)
    refine ⟨trivial,fun h=>(by cases h),(CallsIn.inRound l (callsIn_wide.2 (KS1.out _ E2.out.1 E1.out))).mono ?_⟩
    rintro e w8 ⟨rfl,hB8⟩
    have E2:=Lib.hid (E2.out.grow hB8)
    have HB8:=Lib.hid (below_then HB7.out hB8)
    clear hB8 HB7 E1
    cases s with
    | false =>
     gi_wp2_with (fail)
     exact ⟨HB8.out,by show encG img (8 - (i+1)) (hsq img X (i+1)) = _; rw [show 8 - (i+1) = 8 - i - 1 from by omega]; exact ST.out.2.2 (by trivial) (by trivial)⟩
    | true =>
     have z4:Boxed w8 (w.heap.size+1+1) 23 (.slice none 0 0):=(HB8.out.block _ ZW.out.lt).trans ZW.out
     have y4:Boxed w8 (w.heap.size+1+1+1) 4 (.bool false):=(HB8.out.block _ YW.out.lt).trans YW.out
     have Z4:=Lib.hid z4
     have Y4:=Lib.hid y4
     have q1:=z4.cell
     have q2:=z4.frozen
     have q3:=(y4.other (B':=w.heap.size+1+1) (by omega) (.slice p2 im.length c2)).cell
     have q4:=(y4.other (B':=w.heap.size+1+1) (by omega) (.slice p2 im.length c2)).frozen
     clear z4 y4
     gi_wp2_with (fail)
     have ko:=(KeepsOthers.setCell w8 ⟨w.heap.size+1+1,0,none⟩ (.slice p2 im.length c2)).trans (KeepsOthers.setCell _ ⟨w.heap.size+1+1+1,0,none⟩ (.bool true))
     refine ⟨⟨Nat.le_trans HB8.out.size ko.size,fun k o hk h1 h2=>ko.same k o ((keep_below HB8.out).2 k o hk h1 h2) h2⟩,?_,.inl ⟨rfl,.slice p2 im.length c2,im,ST.out.2.1 (by trivial) (by trivial),?_,?_,?_⟩⟩
     ·exact ((below_then HBW.out HB8.out).setCell (p:=⟨w.heap.size+1+1,0,none⟩) (by show w.heap.size ≤ w.heap.size+1+1; omega) _).setCell (p:=⟨w.heap.size+1+1+1,0,none⟩) (by show w.heap.size ≤ w.heap.size+1+1+1; omega) _
     ·exact vxf_setb (vxf_setb E2.out Z4.out (fun k n e=>by cases e) _) (Y4.out.other (B':=w.heap.size+1+1) (by omega) _) (fun k n e=>by cases e) _
     ·exact (Z4.out.set _).other (B':=w.heap.size+1+1+1) (by omega) _
     ·exact (Y4.out.other (B':=w.heap.size+1+1) (by omega) _).set _
 case hdone =>
  rintro W hp hB hK
  have hnone:encR img X = none:=hp.symm
  have HBW:=Lib.hid (HB5.out.trans (hB.mono HB5.out.size))
  have z4:Boxed W (w.heap.size+1+1) 23 (.slice none 0 0):=(hB.block _ Z5.out.lt).trans Z5.out
  have y4:Boxed W (w.heap.size+1+1+1) 4 (.bool false):=(hB.block _ Y5.out.lt).trans Y5.out
  have q1:=z4.cell
  have q2:=z4.frozen
  have q3:=(y4.other (B':=w.heap.size+1+1) (by omega) (.slice none 0 0)).cell
  have q4:=(y4.other (B':=w.heap.size+1+1) (by omega) (.slice none 0 0)).frozen
  have Z4:=Lib.hid z4
  have Y4:=Lib.hid y4
  have HNONE:=Lib.hid hnone
  clear z4 y4 hnone hB
  gi_wp2
  have hK':=((KeepsOthers.setCell W ⟨w.heap.size+1+1,0,none⟩ (.slice none 0 0)).trans (KeepsOthers.setCell _ ⟨w.heap.size+1+1+1,0,none⟩ (.bool false))).same W5.heap.size _ hK rfl
  have h4:=(Z4.out.set (.slice none 0 0)).other (B':=w.heap.size+1+1+1) (by omega) (.bool false)
  have h5:=(Y4.out.other (B':=w.heap.size+1+1) (by omega) (.slice none 0 0)).set (.bool false)
  have hBs:=(HBW.out.setCell (p:=⟨w.heap.size+1+1,0,none⟩) (by show w.heap.size ≤ w.heap.size+1+1; omega) (.slice none 0 0)).setCell (p:=⟨w.heap.size+1+1+1,0,none⟩) (by show w.heap.size ≤ w.heap.size+1+1+1; omega) (.bool false)
  have hvn:∀ W:World,Vx W (.slice none 0 0) []:=fun W=>Rx.nil W none 0
  unfold Exit.noGoto
  have hc4:=cell_kept h4.cell (grownBy_putObj' _ W5.heap.size (.deferred none)) (fun r e=>by cases e; exact ⟨_,hK',rfl⟩)
  have hc5:=cell_kept h5.cell (grownBy_putObj' _ W5.heap.size (.deferred none)) (fun r e=>by cases e; exact ⟨_,hK',rfl⟩)
  refine ⟨by simp,.inl ⟨_,_,rfl,run_takeDeferred hK',?_⟩⟩
  refine ⟨.tuple #[.slice none 0 0,.bool false],by simp [results,Tryz.f92,go_sem,hc4,hc5],.slice none 0 0,by rw [← HR.out,HNONE.out]; rfl,?_,?_⟩
  ·rw [← HR.out,HNONE.out]
   exact ⟨hvn _,fun b e=>by cases e⟩
  ·exact hBs.grown (grownBy_putObj' _ W5.heap.size (.deferred none)) hBs.size (fun j e=>by cases e; have:=HS5.out; omega)
 case hstop =>
  rintro c i W ⟨hB,h⟩ hK
  rcases h with ⟨rfl,v,d,e1,e2,e3,e4⟩ | ⟨rfl,e1,e3,e4⟩
  ·obtain ⟨p2,c2,rfl⟩:=e2.cut
   have HSOME:=Lib.hid e1
   clear e1
   gi_wp2
   unfold Exit.noGoto
   have hc4:=cell_kept e3.cell (grownBy_putObj' _ W5.heap.size (.deferred none)) (fun r e=>by cases e; exact ⟨_,hK,rfl⟩)
   have hc5:=cell_kept e4.cell (grownBy_putObj' _ W5.heap.size (.deferred none)) (fun r e=>by cases e; exact ⟨_,hK,rfl⟩)
   refine ⟨by simp,.inl ⟨_,_,rfl,run_takeDeferred hK,?_⟩⟩
   refine ⟨.tuple #[.slice p2 d.length c2,.bool true],by simp [results,Tryz.f92,go_sem,hc4,hc5],.slice p2 d.length c2,by rw [← HR.out,HSOME.out]; rfl,?_,?_⟩
   ·rw [← HR.out,HSOME.out]
    exact vxf_put e2 hK rfl
   ·exact hB.grown (grownBy_putObj' _ W5.heap.size (.deferred none)) hB.size (fun j e=>by cases e; have:=HS5.out; omega)
  ·have q1:=e3.cell
   have q2:=e3.frozen
   have q3:=(e4.other (B':=w.heap.size+1+1) (by omega) (.slice none 0 0)).cell
   have q4:=(e4.other (B':=w.heap.size+1+1) (by omega) (.slice none 0 0)).frozen
   have Z4:=Lib.hid e3
   have Y4:=Lib.hid e4
   have HBW:=Lib.hid hB
   have HNONE:=Lib.hid e1
   clear e1 e3 e4 hB
   gi_wp2
   have hK':=((KeepsOthers.setCell W ⟨w.heap.size+1+1,0,none⟩ (.slice none 0 0)).trans (KeepsOthers.setCell _ ⟨w.heap.size+1+1+1,0,none⟩ (.bool false))).same W5.heap.size _ hK rfl
   have h4:=(Z4.out.set (.slice none 0 0)).other (B':=w.heap.size+1+1+1) (by omega) (.bool false)
   have h5:=(Y4.out.other (B':=w.heap.size+1+1) (by omega) (.slice none 0 0)).set (.bool false)
   have hBs:=(HBW.out.setCell (p:=⟨w.heap.size+1+1,0,none⟩) (by show w.heap.size ≤ w.heap.size+1+1; omega) (.slice none 0 0)).setCell (p:=⟨w.heap.size+1+1+1,0,none⟩) (by show w.heap.size ≤ w.heap.size+1+1+1; omega) (.bool false)
   have hvn:∀ W:World,Vx W (.slice none 0 0) []:=fun W=>Rx.nil W none 0
   unfold Exit.noGoto
   have hc4:=cell_kept h4.cell (grownBy_putObj' _ W5.heap.size (.deferred none)) (fun r e=>by cases e; exact ⟨_,hK',rfl⟩)
   have hc5:=cell_kept h5.cell (grownBy_putObj' _ W5.heap.size (.deferred none)) (fun r e=>by cases e; exact ⟨_,hK',rfl⟩)
   refine ⟨by simp,.inl ⟨_,_,rfl,run_takeDeferred hK',?_⟩⟩
   refine ⟨.tuple #[.slice none 0 0,.bool false],by simp [results,Tryz.f92,go_sem,hc4,hc5],.slice none 0 0,by rw [← HR.out,HNONE.out]; rfl,?_,?_⟩
   ·rw [← HR.out,HNONE.out]
    exact ⟨hvn _,fun b e=>by cases e⟩
   ·exact hBs.grown (grownBy_putObj' _ W5.heap.size (.deferred none)) hBs.size (fun j e=>by cases e; have:=HS5.out; omega)
theorem encl_okF (N T H:Int) (vl vo vx:Value) (L:List Is) (O:List Int) (X:List (Int × Int)) (w:World) (hl:Ix w vl L) (ho:Px w vo O) (hx:Vx w vx X) (htv:tvB N L O = true) (hN1:NmL L) (hXN:(X.length:Int) = N) (hvx:∀ p ∈ X,VI p.1 p.2) (ht1:-1048576 ≤ T) (ht2:T ≤ 1048576) (h0:0 ≤ H) (h1:H ≤ 1000000) (r:Option (List (Int × Int))) (hr:encR (imgT L O T H X) X = r) :
  Calls Tryz.prog 92 #[.agg #[.int .i64 N,vl,vo],vx,.agg #[.int .i64 T,.int .i64 H]] w fun e w'=>∃ v,e = .returned (.tuple #[v,.bool r.isSome])∧VxF w.heap.size w' v (r.getD [])∧Below w.heap.size w w' :=
 (callsIn_wide (n:=5)).1 (encl_inF 5 (by decide) N T H vl vo vx L O X w hl ho hx htv hN1 hXN hvx ht1 ht2 h0 h1 r hr)
end Go.Proofs.YtdfdpghdjlgghaaGreat
namespace Go.Proofs.YtdfdpghdjlgghaaGreat
open Go.ChangeShapes Go.WideShapes Go.ChangeAt Go.RowKit
set_option linter.unusedVariables false
set_option linter.unusedSimpArgs false
set_option maxRecDepth 100000
theorem cz_one:∀ (l:List (Int × Int)),∀ u ∈ cz l,u.oneCell' = true
 | [],u,h=>by simp [cz] at h
 | p :: l,u,h=>by
  simp only [cz,List.mem_cons] at h
  rcases h with rfl | rfl | h
  ·rfl
  ·rfl
  ·exact cz_one l u h
theorem add_off (b o j:Nat):(⟨b,o,none⟩:Addr).add j = ⟨b,o+j,none⟩:=by
 by_cases h:j = 0
 ·subst h; simp [Addr.add]
 ·simp [Addr.add,h]
theorem cz_cells {w:World} {l:List (Int × Int)} {b o:Nat} (h:∀ k x,l[k]? = some x→∃ b' o',(some ⟨b,o,none⟩:Option Addr) = some ⟨b',o',none⟩∧b' < w.heap.size∧w.cell? ⟨b',o' + k * 2,none⟩ = some (.int .i64 x.1)∧w.cell? ⟨b',o' + k * 2+1,none⟩ = some (.int .i64 x.2)) :
  ∀ j u,(cz l)[j]? = some u→w.cell? ((⟨b,o,none⟩:Addr).add j) = some u:=by
 intro j u hj
 have hjl:j < l.length * 2:=by rw [← cz_len]; exact (List.getElem?_eq_some_iff.1 hj).1
 have hk:j / 2 < l.length:=by omega
 obtain ⟨b',o',e,h1,h2,h3⟩:=h (j / 2) l[j / 2] (List.getElem?_eq_getElem hk)
 obtain ⟨g1,g2⟩:=cz_get l (j / 2) l[j / 2] (List.getElem?_eq_getElem hk)
 simp only [Option.some.injEq,Addr.mk.injEq,and_true] at e
 obtain ⟨rfl,rfl⟩:=e
 rcases Nat.mod_two_eq_zero_or_one j with hm | hm
 ·have hj2:j / 2 * 2 = j:=by omega
  rw [hj2] at g1 h2
  rw [g1] at hj
  rw [← hj]
  rw [add_off]
  exact h2
 ·have hj2:j / 2 * 2+1 = j:=by omega
  rw [hj2] at g2
  rw [g2] at hj
  rw [← hj]
  have:o+j / 2 * 2+1 = o+j:=by omega
  rw [this] at h3
  rw [add_off]
  exact h3

attribute [local irreducible] Calls
set_option maxHeartbeats 2000000 in
theorem clone_iv (v:Value) (l:List (Int × Int)) (w:World) (hv:Bx w v l) (hne:0 < l.length) (hsm:l.length ≤ 1000) :
  Calls Tryz.prog 66 #[v] w fun e W'=>∃ g cap,e = .returned (.slice (some ⟨g,0,none⟩) l.length cap)∧W'.ownsRow w.heap.size 66 2 (.slice (some ⟨g,0,none⟩) l.length cap) l.length (cz l)∧Below w.heap.size w W':=by
 obtain ⟨hl,p,c,rfl,hp⟩:=hv
 obtain ⟨b,o,x,y,rfl,k1,hb,k2,k3⟩:=Bx.at (c:=0) (n:=0) hp hne (Below.refl _ _)
 clear k1 k2 k3 hl
 obtain ⟨i0,hi,hz0,hz1,hz2⟩:=info_parts info_iv
 have hcs:∀ j u,(cz l)[j]? = some u→w.cell? ((⟨b,o,none⟩:Addr).add j) = some u:=cz_cells hp
 have hone:∀ u ∈ cz l,u.oneCell' = true:=cz_one l
 have hlen:(cz l).length = l.length * 2:=cz_len l
 clear hp
 generalize cz l = cs at *
 have HL:=Lib.hid hlen
 have HC:=Lib.hid hcs
 have HO:=Lib.hid hone
 clear hlen hcs hone
 have hown:(w.alloc (.cells #[] 66)).ownsRow w.heap.size 66 2 (.slice (some ⟨w.heap.size,0,none⟩) 0 0) 0 []:=World.ownsRow_made (e:=66) (size:=2) w #[] 0 (Nat.le_refl _) (by decide) rfl
 have hcmp:(binOp BinOp.eql 23 (.slice (some ⟨b,o,none⟩) l.length c) (.slice none 0 0)).run Tryz.prog w = .ok (.bool false) w:=by first | rfl | simp [binOp,go_sem]
 go_enter Tryz.func66,Tryz.ntmps66
 go_wp2_with (at_builtin; refine wpList_append_own _ rfl (.tmp 5) (.tmp 6) 23 rfl w.heap.size 66 i0 (.agg #[.int .i64 0,.int .i64 0]) 2 16 Tryz.underlying23 hi hz0 hz1 hz2 rfl (by decide) (.slice (some ⟨w.heap.size,0,none⟩) 0 0) 0 _ rfl hown ⟨b,o,none⟩ l.length c cs rfl HL.out ?_ HO.out (by unfold maxLen; omega) (by omega) (by simp) ?_)
 ·intro j u hj
  have hw:=HC.out j u hj
  rw [add_off] at hw ⊢
  exact (((Below.refl w.heap.size w).alloc (Nat.le_refl _) _).cell (p:=⟨b,o+j,none⟩) hb).trans hw
 intro v' w1 hown' hgrow _
 obtain ⟨g',cap',rfl⟩:∃ g cap,v' = .slice (some ⟨g,0,none⟩) l.length cap:=by
  rcases hown'.2 with ⟨_,h0⟩ | ⟨g,cap,_,h,_⟩
  ·omega
  ·exact ⟨g,cap,h⟩
 have hB:Below w.heap.size w w1:=Below.grown ((Below.refl _ _).alloc (Nat.le_refl _) _) hgrow (by simp) (fun k hk=>(hown.lt k hk).1)
 go_wp2_with (fail)
 go_ret
 exact ⟨_,_,rfl,by simpa using hown',hB⟩
end Go.Proofs.YtdfdpghdjlgghaaGreat
namespace Go.Proofs.YtdfdpghdjlgghaaGreat
open Go.ChangeShapes Go.WideShapes Go.ChangeAt Go.RowKit
set_option linter.unusedVariables false
set_option linter.unusedSimpArgs false
set_option maxRecDepth 100000
attribute [local irreducible] Calls
end Go.Proofs.YtdfdpghdjlgghaaGreat
