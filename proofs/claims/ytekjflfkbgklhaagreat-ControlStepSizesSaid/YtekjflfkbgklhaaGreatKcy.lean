/-
 Sd
-/
import Derived.Test.YtekjflfkbgklhaaGreatKcx
namespace Go.Proofs.YtekjflfkbgklhaaGreat
open Go.ChangeShapes Go.WideShapes Go.ChangeAt Go.RowKit
set_option linter.unusedVariables false
set_option linter.unusedSimpArgs false
set_option maxRecDepth 100000
attribute [local irreducible] Calls
set_option maxHeartbeats 16000000 in
theorem quot_ok (va vb vq:Value) (A B Q:List (Int × Int)) (w:World) (hA:Vx w va A) (hB:Vx w vb B) (hQ:Vx w vq Q) (vA:AV A) (vB:AV B) (vQ:AV Q) (ha:Q.length < A.length) (hb:Q.length < B.length) (hsm:A.length ≤ 1000) :
  Calls Tryz.prog 168 #[va,vb,vq] w fun e w'=>e = .returned (.agg #[.int .i64 (qtI A B Q).1,.int .i64 (qtI A B Q).2])∧Below w.heap.size w w':=by
 obtain ⟨pa,ca,rfl⟩:=hA.cut
 obtain ⟨pb,cb,rfl⟩:=hB.cut
 obtain ⟨pq,cq,rfl⟩:=hQ.cut
 have hE:Below w.heap.size w (w.alloc (.cells #[.int .i64 0,.int .i64 0] 59)):=allocs_below [.cells #[.int .i64 0,.int .i64 0] 59] w
 have HR:=Lib.hid (show Blk (w.alloc (.cells #[.int .i64 0,.int .i64 0] 59)) (w.heap.size) (.cells #[.int .i64 0,.int .i64 0] 59) from allocs_at [.cells #[.int .i64 0,.int .i64 0] 59] w 0 _ rfl)
 have HW:=Lib.hid hE
 have HA:=Lib.hid (hA.grow hE)
 have HB:=Lib.hid (hB.grow hE)
 have HQ:=Lib.hid (hQ.grow hE)
 have hqt:qtI A B Q = opI 10 (opI 8 (gI A Q.length) (cvI B Q Q.length 1 Q.length)) (gI B 0):=rfl
 have v1:=gI_vi vA Q.length
 have v2:=cvI_vi vB vQ Q.length 1 Q.length
 have v3:=gI_vi vB 0
 have KC:=Lib.hid (fun w h1 h2=>conv_ok (.slice pb B.length cb) (.slice pq Q.length cq) B Q Q.length 1 Q.length Q.length w h1 h2 vB vQ (fun n hn=>by omega) (by omega) (by omega) (by omega) (by omega))
 obtain ⟨ba,oa,rfl,hba,rda⟩:=vx_rd HA.out (g_of ha)
 obtain ⟨bb,ob,rfl,hbb,rdb⟩:=vx_rd HB.out (g_of (show 0 < B.length by omega))
 obtain ⟨s8,hs8⟩:∃ s,cvI B Q Q.length 1 Q.length = s:=⟨_,rfl⟩
 obtain ⟨xa,hxa⟩:∃ s,gI A Q.length = s:=⟨_,rfl⟩
 obtain ⟨xb,hxb⟩:∃ s,gI B 0 = s:=⟨_,rfl⟩
 rw [hs8,hxa,hxb] at hqt
 rw [hs8] at KC v2
 rw [hxa] at rda v1
 rw [hxb] at rdb v3
 clear hs8 hxa hxb
 obtain ⟨s0,s1⟩:=s8
 obtain ⟨a0,a1⟩:=xa
 obtain ⟨b0,b1⟩:=xb
 obtain ⟨m,hm⟩:∃ m,opI 8 (a0,a1) (s0,s1) = m:=⟨_,rfl⟩
 have v4:=opI_vi 8 v1 v2
 rw [hm] at hqt v4
 obtain ⟨m0,m1⟩:=m
 have KS:=Lib.hid (fun w=>iv_sub a0 a1 s0 s1 w v1 v2)
 obtain ⟨e0,e1⟩:=Prod.mk.inj ((op_sub a0 a1 s0 s1).symm.trans hm)
 rw [e0,e1] at KS
 have KD:=Lib.hid (fun w=>iv_div m0 m1 b0 b1 w v4 v3)
 obtain ⟨z,hz⟩:∃ z,qtI A B Q = z:=⟨_,rfl⟩
 rw [hz] at hqt ⊢
 obtain ⟨r0,r1⟩:=z
 obtain ⟨e2,e3⟩:=Prod.mk.inj (hqt.trans (op_div m0 m1 b0 b1))
 rw [← e2,← e3] at KD
 have i2:(Q.length:Int) < A.length:=by omega
 have i3:¬ B = []:=by intro e; rw [e] at hb; simp at hb
 clear hE hA hB hQ vA vB vQ hqt hm v1 v2 v3 v4 e0 e1 e2 e3 hz ha hb
 go_enter Tryz.func168,Tryz.ntmps168
 go_wp2_with (fail)
 refine (dom_ok _).mono ?_
 rintro e w1 ⟨rfl,hB1⟩
 have HB1:=Lib.hid (HB.out.grow hB1)
 have HQ1:=Lib.hid (HQ.out.grow hB1)
 have HW1:=Lib.hid hB1
 clear hB1
 go_wp2_with (fail)
 refine (KC.out _ HB1.out HQ1.out).mono ?_
 rintro e w2 ⟨rfl,hB2⟩
 have HW2:=Lib.hid (below_then HW1.out hB2)
 clear hB2
 go_wp2_with (fail)
 have hE3:Below w2.heap.size w2 (w2.alloc (.cells #[.int .i64 s0,.int .i64 s1] 59)):=(Below.refl _ _).alloc (Nat.le_refl _) _
 have HX:=Lib.hid (show Blk (w2.alloc (.cells #[.int .i64 s0,.int .i64 s1] 59)) w2.heap.size (.cells #[.int .i64 s0,.int .i64 s1] 59) from World.alloc_heap_new w2 _)
 have HW3:=Lib.hid (below_then HW2.out hE3)
 clear hE3
 generalize hW0:World.alloc w2 _ = W0 at *
 clear hW0
 have x0:=fun g:Grown W0=>heapN_cellj (HX.out.grow g.h) (k:=0) rfl
 have x1:=fun g:Grown W0=>heapN_cellj (HX.out.grow g.h) (k:=1) rfl
 have f0:=fun g:Grown W0=>(rda ⟨g.w,below_then HW3.out g.h⟩).1
 have f1:=fun g:Grown W0=>(rda ⟨g.w,below_then HW3.out g.h⟩).2
 have l0:=fun g:Grown W0=>(rdb ⟨g.w,below_then HW3.out g.h⟩).1
 have l1:=fun g:Grown W0=>(rdb ⟨g.w,below_then HW3.out g.h⟩).2
 simp only [Nat.zero_mul,Nat.add_zero] at f0 f1 l0 l1
 refine region_pred_l (lk [(17,fun z_ _=>z_ = .slice (some ⟨ba,oa,none⟩) A.length ca),(18,fun z_ _=>z_ = .int .i64 (Q.length:Int)),(19,fun z_ _=>z_ = .pointer (some ⟨ba,oa+Q.length * 2,none⟩)),(20,fun z_ _=>z_ = .agg #[.int .i64 a0,.int .i64 a1]),(21,fun z_ _=>z_ = .agg #[.int .i64 s0,.int .i64 s1]),(22,fun z_ _=>z_ = .agg #[.int .i64 m0,.int .i64 m1]),(23,fun z_ _=>z_ = .slice (some ⟨bb,ob,none⟩) B.length cb),(24,fun z_ _=>z_ = .pointer (some ⟨bb,ob,none⟩)),(25,fun z_ _=>z_ = .agg #[.int .i64 b0,.int .i64 b1]),(26,fun z_ _=>z_ = .agg #[.int .i64 r0,.int .i64 r1])]) 10 _ rfl (by kernel_rfl) (by kernel_rfl) (by kernel_rfl) (lk_steady _ ⟨steady_eq _,steady_eq _,steady_eq _,steady_eq _,steady_eq _,steady_eq _,steady_eq _,steady_eq _,steady_eq _,steady_eq _,trivial⟩) ?_ ?_
 ·refine ⟨?_,?_,?_,?_,?_,?_,?_,?_,?_,?_,?_,trivial⟩
  ·refine fun _=>ob_plain [0] rfl rfl fun _ g h=>?_
   have yy0:=seen_out (v:=.slice (some ⟨ba,oa,none⟩) A.length ca) rfl rfl h.1
   exact tvS (by simp [go_sem,yy0]) rfl
  ·refine fun _=>ob_plain [7] rfl rfl fun _ g h=>?_
   have yy0:=seen_out (v:=.int .i64 (Q.length:Int)) rfl rfl h.1
   exact tvS (by simp [go_sem,yy0]) rfl
  ·refine fun _=>ob_plain [17,18] rfl rfl fun _ g h=>?_
   obtain ⟨_,yy0,rfl⟩:=seen_in rfl h.1
   obtain ⟨_,yy1,rfl⟩:=seen_in rfl h.2.1
   exact tvS (by simp [go_sem,yy0,yy1,i2]) rfl
  ·refine fun _=>ob_plain [19] rfl rfl fun _ g h=>?_
   obtain ⟨_,yy0,rfl⟩:=seen_in rfl h.1
   exact tvS (by simp [go_sem,yy0,f0 g,f1 g]) rfl
  ·refine fun _=>ob_plain [8] rfl rfl fun _ g h=>?_
   have yy0:=seen_out (v:=.pointer (some ⟨w2.heap.size,0,none⟩)) rfl rfl h.1
   exact tvS (by simp [go_sem,yy0,x0 g,x1 g]) rfl
  ·refine fun _=>ob_plain [20,21] rfl rfl fun _ g h=>?_
   obtain ⟨_,yy0,rfl⟩:=seen_in rfl h.1
   obtain ⟨_,yy1,rfl⟩:=seen_in rfl h.2.1
   refine tupon_enter (f:=151) (args:=#[.agg #[.int .i64 a0,.int .i64 a1],.agg #[.int .i64 s0,.int .i64 s1]]) (by simp [go_sem,yy0,yy1]) rfl ?_
   exact (KS.out g.w).mono fun e w' ⟨he,hB⟩=>⟨_,he,hB,rfl⟩
  ·refine fun _=>ob_plain [1] rfl rfl fun _ g h=>?_
   have yy0:=seen_out (v:=.slice (some ⟨bb,ob,none⟩) B.length cb) rfl rfl h.1
   exact tvS (by simp [go_sem,yy0]) rfl
  ·refine fun _=>ob_plain [23] rfl rfl fun _ g h=>?_
   obtain ⟨_,yy0,rfl⟩:=seen_in rfl h.1
   exact tvS (by simp [go_sem,yy0,i3]) rfl
  ·refine fun _=>ob_plain [24] rfl rfl fun _ g h=>?_
   obtain ⟨_,yy0,rfl⟩:=seen_in rfl h.1
   exact tvS (by simp [go_sem,yy0,l0 g,l1 g]) rfl
  ·refine fun _=>ob_plain [22,25] rfl rfl fun _ g h=>?_
   obtain ⟨_,yy0,rfl⟩:=seen_in rfl h.1
   obtain ⟨_,yy1,rfl⟩:=seen_in rfl h.2.1
   refine tupon_enter (f:=179) (args:=#[.agg #[.int .i64 m0,.int .i64 m1],.agg #[.int .i64 b0,.int .i64 b1]]) (by simp [go_sem,yy0,yy1]) rfl ?_
   exact (KD.out g.w).mono fun e w' ⟨he,hB⟩=>⟨_,he,hB,rfl⟩
  ·exact fun h=>absurd rfl h
 rintro w5 hB _ rfl _ rfl _ rfl _ rfl _ rfl _ rfl _ rfl _ rfl _ rfl _ rfl
 simp only [Act.put,List.setIfInBounds_toArray,List.set_cons_succ,List.set_cons_zero,List.filterMap_nil]
 clear f0 f1 l0 l1
 have hx:=HR.out.grow (below_then HW3.out hB)
 have HB9:=below_then HW.out (below_then HW3.out hB)
 have q0:=heapN_cellj hx (k:=0) rfl
 have q1:=heapN_cellj hx (k:=1) rfl
 have y0:w5.frozen? ⟨w.heap.size,0,none⟩ = false:=by simp [World.frozen?,show w5.heap[w.heap.size]? = _ from hx]
 have y1:w5.frozen? ⟨w.heap.size,1,none⟩ = false:=by simp [World.frozen?,show w5.heap[w.heap.size]? = _ from hx]
 refine ⟨_,by simp [go_sem,q0,y0,q1,y1]; rfl,?_⟩
 have HW9:=Lib.hid ((HB9.setCell (p:=⟨w.heap.size,0,none⟩) (by dsimp only; omega) (.int .i64 r0)).setCell (p:=⟨w.heap.size,1,none⟩) (by dsimp only; omega) (.int .i64 r1))
 have hs9:=cellsT_setN (o:=1) (u:=.int .i64 r1) (cellsT_setN (o:=0) (u:=.int .i64 r0) hx)
 have x0:=heapN_cellj hs9 (k:=0) (u:=.int .i64 r0) rfl
 have x1:=heapN_cellj hs9 (k:=1) (u:=.int .i64 r1) rfl
 clear hs9 hx q0 q1 y0 y1
 go_wp2_with (fail)
 exact bodyPost_ret (v:=.agg #[.int .i64 r0,.int .i64 r1]) (by simp [results,Tryz.results168,go_sem,x0,x1]) rfl ⟨rfl,HW9.out⟩
set_option maxHeartbeats 16000000 in
theorem sroot_ok (va vr:Value) (A R:List (Int × Int)) (w:World) (hA:Vx w va A) (hR:Vx w vr R) (vA:AV A) (vR:AV R) (ha:R.length < A.length) (hsm:A.length ≤ 1000) :
  Calls Tryz.prog 170 #[va,vr] w fun e w'=>e = .returned (.agg #[.int .i64 (rnI A R).1,.int .i64 (rnI A R).2])∧Below w.heap.size w w':=by
 obtain ⟨pa,ca,rfl⟩:=hA.cut
 obtain ⟨pr,cr',rfl⟩:=hR.cut
 have hE:Below w.heap.size w (w.alloc (.cells #[.int .i64 0,.int .i64 0] 59)):=allocs_below [.cells #[.int .i64 0,.int .i64 0] 59] w
 have HR:=Lib.hid (show Blk (w.alloc (.cells #[.int .i64 0,.int .i64 0] 59)) (w.heap.size) (.cells #[.int .i64 0,.int .i64 0] 59) from allocs_at [.cells #[.int .i64 0,.int .i64 0] 59] w 0 _ rfl)
 have HW:=Lib.hid hE
 have HA:=Lib.hid (hA.grow hE)
 have HQ:=Lib.hid (hR.grow hE)
 unfold rnI
 have i3:¬ A = []:=by intro e; rw [e] at ha; simp at ha
 by_cases h0:R.length = 0
 ·rw [if_pos h0]
  obtain ⟨ba,oa,rfl,hba,rda⟩:=vx_rd HA.out (g_of (show 0 < A.length by omega))
  have v1:=gI_vi vA 0
  generalize gI A 0 = xa at *
  obtain ⟨a0,a1⟩:=xa
  have KF:=Lib.hid (fun w=>first_root a0 a1 w v1)
  obtain ⟨z,hz⟩:∃ z,rtI (a0,a1) = z:=⟨_,rfl⟩
  rw [hz] at KF ⊢
  obtain ⟨r0,r1⟩:=z
  obtain ⟨f0,f1⟩:=rda ⟨_,Below.refl _ _⟩
  simp only [Nat.zero_mul,Nat.add_zero] at f0 f1
  clear hz v1 rda hE hA hR
  go_enter Tryz.func170,Tryz.ntmps170
  go_wp2_with (fail)
  refine (KF.out _).mono ?_
  rintro e w1 ⟨rfl,hB⟩
  have hx:=HR.out.grow hB
  have HB:=below_then HW.out hB
  clear f0 f1
  have q0:=heapN_cellj hx (k:=0) rfl
  have q1:=heapN_cellj hx (k:=1) rfl
  have y0:w1.frozen? ⟨w.heap.size,0,none⟩ = false:=by simp [World.frozen?,show w1.heap[w.heap.size]? = _ from hx]
  have y1:w1.frozen? ⟨w.heap.size,1,none⟩ = false:=by simp [World.frozen?,show w1.heap[w.heap.size]? = _ from hx]
  have HW9:=Lib.hid (((HB).setCell (p:=⟨w.heap.size,0,none⟩) (by dsimp only; omega) (.int .i64 (r0))).setCell (p:=⟨w.heap.size,1,none⟩) (by dsimp only; omega) (.int .i64 (r1)))
  have hs9:=cellsT_setN (o:=1) (u:=.int .i64 (r1)) (cellsT_setN (o:=0) (u:=.int .i64 (r0)) hx)
  have x0:=heapN_cellj hs9 (k:=0) (u:=.int .i64 (r0)) rfl
  have x1:=heapN_cellj hs9 (k:=1) (u:=.int .i64 (r1)) rfl
  clear hs9 hx
  go_wp2_with (fail)
  exact bodyPost_ret (v:=.agg #[.int .i64 (r0),.int .i64 (r1)]) (by simp [results,Tryz.results170,go_sem,x0,x1]) rfl ⟨rfl,HW9.out⟩
 ·rw [if_neg h0]
  have hqt:opI 10 (opI 8 (gI A R.length) (cvI R R R.length 1 (R.length - 1))) (mrN 2 1 (gI R 0)) = opI 10 (opI 8 (gI A R.length) (cvI R R R.length 1 (R.length - 1))) (mrN 2 1 (gI R 0)):=rfl
  have v1:=gI_vi vA R.length
  have v2:=cvI_vi vR vR R.length 1 (R.length - 1)
  have v3:=gI_vi vR 0
  have v5:=mrN_vi 2 (d:=1) (by decide) (gI R 0)
  obtain ⟨lm,hlm⟩:∃ lm:Nat,R.length - 1 = lm:=⟨_,rfl⟩
  rw [hlm] at hqt v2 ⊢
  have KC:=Lib.hid (fun w h1 h2=>conv_ok (.slice pr R.length cr') (.slice pr R.length cr') R R R.length 1 lm (lm:Int) w h1 h2 vR vR (fun n hn=>by omega) (by omega) (by omega) (by omega) (by omega))
  obtain ⟨ba,oa,rfl,hba,rda⟩:=vx_rd HA.out (g_of ha)
  obtain ⟨bb,ob,rfl,hbb,rdb⟩:=vx_rd HQ.out (g_of (show 0 < R.length by omega))
  have hw1:IntKind.i64.wrap ((R.length:Int) - 1) = (lm:Int):=by rw [wrapN _ (by omega) (by omega)]; omega
  have h0':¬ R = []:=by intro e; rw [e] at h0; simp at h0
  obtain ⟨s8,hs8⟩:∃ s,cvI R R R.length 1 lm = s:=⟨_,rfl⟩
  obtain ⟨xa,hxa⟩:∃ s,gI A R.length = s:=⟨_,rfl⟩
  obtain ⟨xb,hxb⟩:∃ s,gI R 0 = s:=⟨_,rfl⟩
  rw [hs8,hxa,hxb] at hqt ⊢
  rw [hs8] at KC v2
  rw [hxa] at rda v1
  rw [hxb] at rdb v3 v5
  clear hs8 hxa hxb
  obtain ⟨s0,s1⟩:=s8
  obtain ⟨a0,a1⟩:=xa
  obtain ⟨b0,b1⟩:=xb
  obtain ⟨m,hm⟩:∃ m,opI 8 (a0,a1) (s0,s1) = m:=⟨_,rfl⟩
  have v4:=opI_vi 8 v1 v2
  rw [hm] at hqt v4 ⊢
  obtain ⟨m0,m1⟩:=m
  have KS:=Lib.hid (fun w=>iv_sub a0 a1 s0 s1 w v1 v2)
  obtain ⟨e0,e1⟩:=Prod.mk.inj ((op_sub a0 a1 s0 s1).symm.trans hm)
  rw [e0,e1] at KS
  have KM:=Lib.hid (fun w=>iv_mulratio b0 b1 2 1 w v3 (by decide) (by decide) (by decide) (by decide))
  obtain ⟨n,hn⟩:∃ n,mrN 2 1 (b0,b1) = n:=⟨_,rfl⟩
  rw [hn] at hqt v5 ⊢
  obtain ⟨n0,n1⟩:=n
  unfold mrN at hn
  obtain ⟨e4,e5⟩:=Prod.mk.inj hn
  dsimp only at e4 e5
  rw [e4,e5] at KM
  have KD:=Lib.hid (fun w=>iv_div m0 m1 n0 n1 w v4 v5)
  obtain ⟨z,hz⟩:∃ z,opI 10 (m0,m1) (n0,n1) = z:=⟨_,rfl⟩
  rw [hz] at hqt ⊢
  obtain ⟨r0,r1⟩:=z
  obtain ⟨e2,e3⟩:=Prod.mk.inj (hz.symm.trans (op_div m0 m1 n0 n1))
  rw [← e2,← e3] at KD
  have i2:(R.length:Int) < A.length:=by omega
  have i4:¬ (R.length:Int) = 0:=by omega
  clear hE hA hR vA vR hqt hm hn v1 v2 v3 v4 v5 e0 e1 e2 e3 e4 e5 hz ha h0 hlm
  go_enter Tryz.func170,Tryz.ntmps170
  go_wp2_with (fail)
  refine (dom_ok _).mono ?_
  rintro e w1 ⟨rfl,hB1⟩
  have HQ1:=Lib.hid (HQ.out.grow hB1)
  have HW1:=Lib.hid hB1
  clear hB1
  go_wp2_with (fail)
  refine (KC.out _ HQ1.out HQ1.out).mono ?_
  rintro e w2 ⟨rfl,hB2⟩
  have HW2:=Lib.hid (below_then HW1.out hB2)
  clear hB2 hw1
  go_wp2_with (fail)
  have hE3:Below w2.heap.size w2 (w2.alloc (.cells #[.int .i64 s0,.int .i64 s1] 59)):=(Below.refl _ _).alloc (Nat.le_refl _) _
  have HX:=Lib.hid (show Blk (w2.alloc (.cells #[.int .i64 s0,.int .i64 s1] 59)) w2.heap.size (.cells #[.int .i64 s0,.int .i64 s1] 59) from World.alloc_heap_new w2 _)
  have HW3:=Lib.hid (below_then HW2.out hE3)
  clear hE3
  generalize hW0:World.alloc w2 _ = W0 at *
  clear hW0
  have x0:=fun g:Grown W0=>heapN_cellj (HX.out.grow g.h) (k:=0) rfl
  have x1:=fun g:Grown W0=>heapN_cellj (HX.out.grow g.h) (k:=1) rfl
  have f0:=fun g:Grown W0=>(rda ⟨g.w,below_then HW3.out g.h⟩).1
  have f1:=fun g:Grown W0=>(rda ⟨g.w,below_then HW3.out g.h⟩).2
  have l0:=fun g:Grown W0=>(rdb ⟨g.w,below_then HW3.out g.h⟩).1
  have l1:=fun g:Grown W0=>(rdb ⟨g.w,below_then HW3.out g.h⟩).2
  simp only [Nat.zero_mul,Nat.add_zero] at f0 f1 l0 l1
  refine region_pred_l (lk [(22,fun z_ _=>z_ = .slice (some ⟨ba,oa,none⟩) A.length ca),(23,fun z_ _=>z_ = .int .i64 (R.length:Int)),(24,fun z_ _=>z_ = .pointer (some ⟨ba,oa+R.length * 2,none⟩)),(25,fun z_ _=>z_ = .agg #[.int .i64 a0,.int .i64 a1]),(26,fun z_ _=>z_ = .agg #[.int .i64 s0,.int .i64 s1]),(27,fun z_ _=>z_ = .agg #[.int .i64 m0,.int .i64 m1]),(28,fun z_ _=>z_ = .slice (some ⟨bb,ob,none⟩) R.length cr'),(29,fun z_ _=>z_ = .pointer (some ⟨bb,ob,none⟩)),(30,fun z_ _=>z_ = .agg #[.int .i64 b0,.int .i64 b1]),(31,fun z_ _=>z_ = .agg #[.int .i64 n0,.int .i64 n1]),(32,fun z_ _=>z_ = .agg #[.int .i64 r0,.int .i64 r1])]) 11 _ rfl (by kernel_rfl) (by kernel_rfl) (by kernel_rfl) (lk_steady _ ⟨steady_eq _,steady_eq _,steady_eq _,steady_eq _,steady_eq _,steady_eq _,steady_eq _,steady_eq _,steady_eq _,steady_eq _,steady_eq _,trivial⟩) ?_ ?_
  ·refine ⟨?_,?_,?_,?_,?_,?_,?_,?_,?_,?_,?_,?_,trivial⟩
   ·refine fun _=>ob_plain [0] rfl rfl fun _ g h=>?_
    have yy0:=seen_out (v:=.slice (some ⟨ba,oa,none⟩) A.length ca) rfl rfl h.1
    exact tvS (by simp [go_sem,yy0]) rfl
   ·refine fun _=>ob_plain [5] rfl rfl fun _ g h=>?_
    have yy0:=seen_out (v:=.int .i64 (R.length:Int)) rfl rfl h.1
    exact tvS (by simp [go_sem,yy0]) rfl
   ·refine fun _=>ob_plain [22,23] rfl rfl fun _ g h=>?_
    obtain ⟨_,yy0,rfl⟩:=seen_in rfl h.1
    obtain ⟨_,yy1,rfl⟩:=seen_in rfl h.2.1
    exact tvS (by simp [go_sem,yy0,yy1,i2]) rfl
   ·refine fun _=>ob_plain [24] rfl rfl fun _ g h=>?_
    obtain ⟨_,yy0,rfl⟩:=seen_in rfl h.1
    exact tvS (by simp [go_sem,yy0,f0 g,f1 g]) rfl
   ·refine fun _=>ob_plain [6] rfl rfl fun _ g h=>?_
    have yy0:=seen_out (v:=.pointer (some ⟨w2.heap.size,0,none⟩)) rfl rfl h.1
    exact tvS (by simp [go_sem,yy0,x0 g,x1 g]) rfl
   ·refine fun _=>ob_plain [25,26] rfl rfl fun _ g h=>?_
    obtain ⟨_,yy0,rfl⟩:=seen_in rfl h.1
    obtain ⟨_,yy1,rfl⟩:=seen_in rfl h.2.1
    refine tupon_enter (f:=151) (args:=#[.agg #[.int .i64 a0,.int .i64 a1],.agg #[.int .i64 s0,.int .i64 s1]]) (by simp [go_sem,yy0,yy1]) rfl ?_
    exact (KS.out g.w).mono fun e w' ⟨he,hB⟩=>⟨_,he,hB,rfl⟩
   ·refine fun _=>ob_plain [1] rfl rfl fun _ g h=>?_
    have yy0:=seen_out (v:=.slice (some ⟨bb,ob,none⟩) R.length cr') rfl rfl h.1
    exact tvS (by simp [go_sem,yy0]) rfl
   ·refine fun _=>ob_plain [28] rfl rfl fun _ g h=>?_
    obtain ⟨_,yy0,rfl⟩:=seen_in rfl h.1
    exact tvS (by simp [go_sem,yy0,h0']) rfl
   ·refine fun _=>ob_plain [29] rfl rfl fun _ g h=>?_
    obtain ⟨_,yy0,rfl⟩:=seen_in rfl h.1
    exact tvS (by simp [go_sem,yy0,l0 g,l1 g]) rfl
   ·refine fun _=>ob_plain [30] rfl rfl fun _ g h=>?_
    obtain ⟨_,yy0,rfl⟩:=seen_in rfl h.1
    refine tupon_enter (f:=153) (args:=#[.agg #[.int .i64 b0,.int .i64 b1],.int .i64 2,.int .i64 1]) (by simp [go_sem,yy0]) rfl ?_
    exact (KM.out g.w).mono fun e w' ⟨he,hB⟩=>⟨_,he,hB,rfl⟩
   ·refine fun _=>ob_plain [27,31] rfl rfl fun _ g h=>?_
    obtain ⟨_,yy0,rfl⟩:=seen_in rfl h.1
    obtain ⟨_,yy1,rfl⟩:=seen_in rfl h.2.1
    refine tupon_enter (f:=179) (args:=#[.agg #[.int .i64 m0,.int .i64 m1],.agg #[.int .i64 n0,.int .i64 n1]]) (by simp [go_sem,yy0,yy1]) rfl ?_
    exact (KD.out g.w).mono fun e w' ⟨he,hB⟩=>⟨_,he,hB,rfl⟩
   ·exact fun h=>absurd rfl h
  rintro w5 hB _ rfl _ rfl _ rfl _ rfl _ rfl _ rfl _ rfl _ rfl _ rfl _ rfl _ rfl
  simp only [Act.put,List.setIfInBounds_toArray,List.set_cons_succ,List.set_cons_zero,List.filterMap_nil]
  clear f0 f1 l0 l1
  have hx:=HR.out.grow (below_then HW3.out hB)
  have HB9:=below_then HW.out (below_then HW3.out hB)
  have q0:=heapN_cellj hx (k:=0) rfl
  have q1:=heapN_cellj hx (k:=1) rfl
  have y0:w5.frozen? ⟨w.heap.size,0,none⟩ = false:=by simp [World.frozen?,show w5.heap[w.heap.size]? = _ from hx]
  have y1:w5.frozen? ⟨w.heap.size,1,none⟩ = false:=by simp [World.frozen?,show w5.heap[w.heap.size]? = _ from hx]
  refine ⟨_,by simp [go_sem,q0,y0,q1,y1]; rfl,?_⟩
  have HW9:=Lib.hid ((HB9.setCell (p:=⟨w.heap.size,0,none⟩) (by dsimp only; omega) (.int .i64 r0)).setCell (p:=⟨w.heap.size,1,none⟩) (by dsimp only; omega) (.int .i64 r1))
  have hs9:=cellsT_setN (o:=1) (u:=.int .i64 r1) (cellsT_setN (o:=0) (u:=.int .i64 r0) hx)
  have x0:=heapN_cellj hs9 (k:=0) (u:=.int .i64 r0) rfl
  have x1:=heapN_cellj hs9 (k:=1) (u:=.int .i64 r1) rfl
  clear hs9 hx q0 q1 y0 y1
  go_wp2_with (fail)
  exact bodyPost_ret (v:=.agg #[.int .i64 r0,.int .i64 r1]) (by simp [results,Tryz.results170,go_sem,x0,x1]) rfl ⟨rfl,HW9.out⟩
end Go.Proofs.YtekjflfkbgklhaaGreat
