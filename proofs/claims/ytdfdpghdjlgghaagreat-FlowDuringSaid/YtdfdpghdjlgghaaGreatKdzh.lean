/-
 Ce PredM
-/
import Derived.Test.YtdfdpghdjlgghaaGreatKdd
import Derived.Test.YtdfdpghdjlgghaaGreatKdzg
import Derived.Deep.RegionHeld3
namespace Go.Proofs.YtdfdpghdjlgghaaGreat
open Go.ChangeShapes Go.WideShapes Go.ChangeAt Go.RowKit
set_option linter.unusedVariables false
set_option linter.unusedSimpArgs false
set_option maxRecDepth 100000
attribute [local irreducible] Calls
theorem wrapJ (n:Int) (h1:-4611686018427387904 ≤ n) (h2:n ≤ 4611686018427387904):IntKind.i64.wrap n = n:=wrapN n (by omega) (by omega)
theorem ipt_num {T:Int} (w:World) (h1:-2147483648 < T) (h2:T < 2147483648):Calls Tryz.prog 96 #[.int .i64 T] w fun e w'=>e = .returned (.agg #[.int .i64 T,.int .i64 T])∧Below w.heap.size w w':=by
 have h:=iv_point T w
 unfold mkLo mkHi at h
 have hn:Num T∧Num T:=⟨⟨h1,h2⟩,h1,h2⟩
 rw [if_pos hn,if_pos hn] at h
 exact h
theorem new_ok {T H:Int} (ht1:-1048576 ≤ T) (ht2:T ≤ 1048576) (h0:0 ≤ H) (h1:H ≤ 1000000) (w:World):Calls Tryz.prog 83 #[.int .i64 T,.int .i64 (T+H)] w fun e w'=>e = .returned (.agg #[.int .i64 T,.int .i64 (T+H)])∧Below w.heap.size w w':=by
 have h:=iv_new T (T+H) w (by omega)
 unfold mkLo mkHi at h
 have hn:Num T∧Num (T+H):=⟨⟨by omega,by omega⟩,by omega,by omega⟩
 rw [if_pos hn,if_pos hn] at h
 exact h
set_option maxHeartbeats 16000000 in
theorem Remainder_ok (N T H:Int) (vl vo vb:Value) (L:List Is) (O:List Int) (B:List (Int × Int)) (K:Nat) (w:World) (hl:Ix w vl L) (ho:Px w vo O) (hb:Vx w vb B) (htv:tvB N L O = true) (hN1:NmL L) (hBN:(B.length:Int) = N) (hvb:AV B) (ht1:-1048576 ≤ T) (ht2:T ≤ 1048576) (h0:0 ≤ H) (h1:H ≤ 1000000) (hK:K+1 ≤ 8) :
  Calls Tryz.prog 119 #[.agg #[.int .i64 N,vl,vo],vb,.agg #[.int .i64 T,.int .i64 H],.int .i64 K] w fun e w'=>∃ p c,e = .returned (.slice p B.length c)∧w'.ownsRow w.heap.size 66 2 (.slice p B.length c) B.length (cr encB (remI (serI L O B (T,T+H) (K+1))))∧Below w.heap.size w w':=by
 obtain ⟨hn1,hn6,h400,hon,hvl,hout⟩:=tv_cases htv
 obtain ⟨pl,cl,rfl⟩:=hl.cut
 obtain ⟨po,co,rfl⟩:=ho.cut
 obtain ⟨pb,cb,rfl⟩:=hb.cut
 have hav:=ser_av (t:=(T,T+H)) htv hBN hvb (time_vi ht1 ht2 h0 h1) (K+1)
 have hrw:=ser_rows (t:=(T,T+H)) htv hBN (K+1)
 have hsl:(serI L O B (T,T+H) (K+1)).length = B.length:=ser_len _
 obtain ⟨K1,hK1⟩:∃ K1,K+1 = K1:=⟨_,rfl⟩
 have hw1:IntKind.i64.wrap ((K:Int)+1) = (K1:Int):=by rw [← hK1]; unfold IntKind.wrap; simp [IntKind.bits,IntKind.signed,IntKind.min,IntKind.max]; omega
 have hTH:IntKind.i64.wrap (T+H) = T+H:=wrapJ _ (by omega) (by omega)
 have KC:=Lib.hid (fun w a b c=>Coefficients_ok N T (T+H) (.slice pl L.length cl) (.slice po O.length co) (.slice pb B.length cb) L O B K1 w a b c htv hN1 hBN hvb (time_vi ht1 ht2 h0 h1) (by omega))
 have KN:=Lib.hid (fun w=>new_ok ht1 ht2 h0 h1 w)
 rw [hK1] at hav hrw hsl ⊢
 have KM:=Lib.hid (fun vs w hs=>map1_ok vs (serI L O B (T,T+H) K1) w hs (by omega) (fun r hr=>by have:=hrw r hr; omega))
 have HSL:=Lib.hid hsl
 have HRW:=Lib.hid hrw
 have HK8:=Lib.hid (show K1 ≤ 8 by omega)
 have hE:Below w.heap.size w ((w.alloc (.cells #[.int .i64 N,.slice pl L.length cl,.slice po O.length co] 35)).alloc (.cells #[.int .i64 T,.int .i64 H] 116)):=allocs_below [.cells #[.int .i64 N,.slice pl L.length cl,.slice po O.length co] 35,.cells #[.int .i64 T,.int .i64 H] 116] w
 have HC:=Lib.hid (show Blk ((w.alloc (.cells #[.int .i64 N,.slice pl L.length cl,.slice po O.length co] 35)).alloc (.cells #[.int .i64 T,.int .i64 H] 116)) (w.heap.size) (.cells #[.int .i64 N,.slice pl L.length cl,.slice po O.length co] 35) from allocs_at [.cells #[.int .i64 N,.slice pl L.length cl,.slice po O.length co] 35,.cells #[.int .i64 T,.int .i64 H] 116] w 0 _ rfl)
 have HT:=Lib.hid (show Blk ((w.alloc (.cells #[.int .i64 N,.slice pl L.length cl,.slice po O.length co] 35)).alloc (.cells #[.int .i64 T,.int .i64 H] 116)) (w.heap.size+1) (.cells #[.int .i64 T,.int .i64 H] 116) from allocs_at [.cells #[.int .i64 N,.slice pl L.length cl,.slice po O.length co] 35,.cells #[.int .i64 T,.int .i64 H] 116] w 1 _ rfl)
 have HW:=Lib.hid hE
 have HL:=Lib.hid (hl.grow hE)
 have HO:=Lib.hid (ho.grow hE)
 have HX:=Lib.hid (hb.grow hE)
 have HB6:=Lib.hid (show B.length ≤ 6 by omega)
 clear hE hl ho hb htv hBN hvb ht1 ht2 h0 h1 hK hn1 hn6 h400 hon hvl hout hav hrw hsl hK1
 go_enter Tryz.func119,Tryz.ntmps119
 go_wp2_with (fail)
 generalize hW0:World.alloc (World.alloc w _) _ = W0 at *
 clear hW0
 have x0:=fun g:Grown W0=>heapN_cellj (HC.out.grow g.h) (k:=0) rfl
 have x1:=fun g:Grown W0=>heapN_cellj (HC.out.grow g.h) (k:=1) rfl
 have x2:=fun g:Grown W0=>heapN_cellj (HC.out.grow g.h) (k:=2) rfl
 have y0:=fun g:Grown W0=>heapN_cellj (HT.out.grow g.h) (k:=0) rfl
 have y1:=fun g:Grown W0=>heapN_cellj (HT.out.grow g.h) (k:=1) rfl
 refine region_pred (lk [(10,fun z_ _=>z_ = .agg #[.int .i64 N,.slice pl L.length cl,.slice po O.length co]),(11,fun z_ _=>z_ = .slice pb B.length cb),(12,fun z_ _=>z_ = .pointer (some ⟨w.heap.size+1,0,none⟩)),(13,fun z_ _=>z_ = .int .i64 T),(14,fun z_ _=>z_ = .pointer (some ⟨w.heap.size+1,0,none⟩)),(15,fun z_ _=>z_ = .int .i64 T),(16,fun z_ _=>z_ = .pointer (some ⟨w.heap.size+1,1,none⟩)),(17,fun z_ _=>z_ = .int .i64 H),(18,fun z_ _=>z_ = .int .i64 (T+H)),(19,fun z_ _=>z_ = .agg #[.int .i64 T,.int .i64 (T+H)]),(20,fun z_ _=>z_ = .int .i64 (K:Int)),(21,fun z_ _=>z_ = .int .i64 (K1:Int)),(22,fun z_ w'=>∃ sus,OwT encB 2 66 23 W0.heap.size w' z_ (serI L O B (T,T+H) K1) sus),(9,fun z_ w'=>∃ sus,OwT encB 2 66 23 W0.heap.size w' z_ (serI L O B (T,T+H) K1) sus)]) (by kernel_rfl) (by kernel_rfl) (lk_steady _ ⟨steady_eq _,steady_eq _,steady_eq _,steady_eq _,steady_eq _,steady_eq _,steady_eq _,steady_eq _,steady_eq _,steady_eq _,steady_eq _,steady_eq _,fun u w1 w2 hb ⟨s_,h_⟩=>⟨s_,h_.grow hb⟩,fun u w1 w2 hb ⟨s_,h_⟩=>⟨s_,h_.grow hb⟩,trivial⟩) ?_ ?_
 ·refine ⟨?_,?_,?_,?_,?_,?_,?_,?_,?_,?_,?_,?_,?_,?_,trivial⟩
  ·refine ob_plain [4] rfl rfl fun aa g h=>?_
   have yy0:=seen_out (v:=.pointer (some ⟨w.heap.size,0,none⟩)) rfl rfl h.1
   exact tvS (by simp [go_sem,yy0,x0 g,x1 g,x2 g]) rfl
  ·refine ob_plain [1] rfl rfl fun aa g h=>?_
   have yy0:=seen_out (v:=.slice pb B.length cb) rfl rfl h.1
   exact tvS (by simp [go_sem,yy0]) rfl
  ·refine ob_plain [6] rfl rfl fun aa g h=>?_
   have yy0:=seen_out (v:=.pointer (some ⟨w.heap.size+1,0,none⟩)) rfl rfl h.1
   exact tvS (by simp [go_sem,yy0]) rfl
  ·refine ob_plain [12] rfl rfl fun aa g h=>?_
   obtain ⟨_,yy0,rfl⟩:=seen_in rfl h.1
   exact tvS (by simp [go_sem,yy0,y0 g]) rfl
  ·refine ob_plain [6] rfl rfl fun aa g h=>?_
   have yy0:=seen_out (v:=.pointer (some ⟨w.heap.size+1,0,none⟩)) rfl rfl h.1
   exact tvS (by simp [go_sem,yy0]) rfl
  ·refine ob_plain [14] rfl rfl fun aa g h=>?_
   obtain ⟨_,yy0,rfl⟩:=seen_in rfl h.1
   exact tvS (by simp [go_sem,yy0,y0 g]) rfl
  ·refine ob_plain [6] rfl rfl fun aa g h=>?_
   have yy0:=seen_out (v:=.pointer (some ⟨w.heap.size+1,0,none⟩)) rfl rfl h.1
   exact tvS (by simp [go_sem,yy0]) rfl
  ·refine ob_plain [16] rfl rfl fun aa g h=>?_
   obtain ⟨_,yy0,rfl⟩:=seen_in rfl h.1
   exact tvS (by simp [go_sem,yy0,y1 g]) rfl
  ·refine ob_plain [15,17] rfl rfl fun aa g h=>?_
   obtain ⟨_,yy0,rfl⟩:=seen_in rfl h.1
   obtain ⟨_,yy1,rfl⟩:=seen_in rfl h.2.1
   exact tvS (by simp [go_sem,yy0,yy1,hTH]) rfl
  ·refine ob_plain [13,18] rfl rfl fun aa g h=>?_
   obtain ⟨_,yy0,rfl⟩:=seen_in rfl h.1
   obtain ⟨_,yy1,rfl⟩:=seen_in rfl h.2.1
   refine tupon_enter (f:=83) (args:=#[.int .i64 T,.int .i64 (T+H)]) (by simp [go_sem,yy0,yy1]) rfl ?_
   exact (KN.out g.w).mono fun e w' ⟨he,hB⟩=>⟨_,he,hB,rfl⟩
  ·refine ob_plain [3] rfl rfl fun aa g h=>?_
   have yy0:=seen_out (v:=.int .i64 (K:Int)) rfl rfl h.1
   exact tvS (by simp [go_sem,yy0]) rfl
  ·refine ob_plain [20] rfl rfl fun aa g h=>?_
   obtain ⟨_,yy0,rfl⟩:=seen_in rfl h.1
   exact tvS (by simp [go_sem,yy0,hw1]) rfl
  ·refine ob_plain [10,11,19,21] rfl rfl fun aa g h=>?_
   obtain ⟨_,yy0,rfl⟩:=seen_in rfl h.1
   obtain ⟨_,yy1,rfl⟩:=seen_in rfl h.2.1
   obtain ⟨_,yy2,rfl⟩:=seen_in rfl h.2.2.1
   obtain ⟨_,yy3,rfl⟩:=seen_in rfl h.2.2.2.1
   refine tupon_enter (f:=118) (args:=#[.agg #[.int .i64 N,.slice pl L.length cl,.slice po O.length co],.slice pb B.length cb,.agg #[.int .i64 T,.int .i64 (T+H)],.int .i64 (K1:Int)]) (by simp [go_sem,yy0,yy1,yy2,yy3]) rfl ?_
   exact (KC.out g.w (HL.out.grow g.h) (HO.out.grow g.h) (HX.out.grow g.h)).mono fun e w' ⟨sv,sus,he,hO,hB⟩=>⟨_,he,hB,⟨sus,hO.base g.h.size⟩⟩
  ·refine ob_plain [22] rfl rfl fun aa g h=>?_
   obtain ⟨v22,yy0,⟨sus,hO⟩⟩:=seen_in rfl h.1
   exact tupon_value (v:=v22) (by simp [go_sem,yy0]) (Below.refl _ _) ⟨sus,hO⟩
 rintro w5 hB _ rfl _ rfl _ rfl _ rfl _ rfl _ rfl _ rfl _ rfl _ rfl _ rfl _ rfl _ rfl v22 ⟨sus,hO⟩ v9 ⟨sus9,hO9⟩
 simp only [Act.put,List.setIfInBounds_toArray,List.set_cons_succ,List.set_cons_zero,List.filterMap_nil,finP]
 clear x0 x1 x2 y0 y1 hTH hw1
 have hlx:Lx Vx w5 v9 (serI L O B (T,T+H) K1):=hO9.lx encB_len (by unfold maxLen; have:=HSL.out; have:=HB6.out; omega) (fun r hr=>by unfold maxLen; have:=HRW.out r hr; have:=HK8.out; omega)
 obtain ⟨_,p9,c9,rfl,_⟩:=id hlx
 have KM1:=Lib.hid (KM.out _ w5 hlx)
 have HB5:=Lib.hid (below_then HW.out hB)
 have HSZ:=Lib.hid (show w.heap.size ≤ w5.heap.size from HB5.out.size)
 clear hO hO9 hB hlx KM KC KN HC HT HL HO HX
 go_wp2_with (fail)
 refine KM1.out.mono ?_
 rintro e w8 ⟨p8,c8,rfl,ho8,hB8⟩
 rw [HSL.out] at ho8 ⊢
 have HO8:=Lib.hid (own_base ho8 HSZ.out)
 have HB8:=Lib.hid (below_then HB5.out hB8)
 clear ho8 hB8 KM1
 go_wp2_with (fail)
 go_ret
 exact ⟨_,_,rfl,HO8.out,HB8.out⟩
theorem restriction_ok (p:Option Addr) (n c:Nat) (w:World):Calls Tryz.prog 120 #[.slice p n c] w fun e w'=>e = .returned (.func (.func 145) #[] #[.pointer (some ⟨w.heap.size,0,none⟩)])∧w' = w.alloc (.cells #[.slice p n c] 23):=by
 go_enter Tryz.func120,Tryz.ntmps120
 go_wp2_with (fail)
 go_ret
 exact ⟨rfl,rfl⟩
set_option maxHeartbeats 16000000 in
theorem EnclosureAt_ok (N T H p0 p1:Int) (vl vo vx vb:Value) (L:List Is) (O:List Int) (X B:List (Int × Int)) (K:Nat) (w:World) (hl:Ix w vl L) (ho:Px w vo O) (hx:Vx w vx X) (hb:Vx w vb B) (htv:tvB N L O = true) (hN1:NmL L) (hXN:(X.length:Int) = N) (hBN:(B.length:Int) = N) (hvx:AV X) (hvb:AV B) (ht1:-1048576 ≤ T) (ht2:T ≤ 1048576) (h0:0 ≤ H) (h1:H ≤ 1000000) (hK:K+1 ≤ 8) (hvp:VI p0 p1) :
  Calls Tryz.prog 94 #[.agg #[.int .i64 N,vl,vo],vx,vb,.agg #[.int .i64 T,.int .i64 H,.int .i64 p0,.int .i64 p1,.int .i64 K]] w fun e w'=>∃ p c,e = .returned (.slice p X.length c)∧w'.ownsRow w.heap.size 66 2 (.slice p X.length c) X.length (cr encB (encA L O X B T H (p0,p1) K))∧Below w.heap.size w w':=by
 obtain ⟨hn1,hn6,h400,hon,hvl,hout⟩:=tv_cases htv
 have hBX:B.length = X.length:=by omega
 obtain ⟨pl,cl,rfl⟩:=hl.cut
 obtain ⟨po,co,rfl⟩:=ho.cut
 obtain ⟨px,cx,rfl⟩:=hx.cut
 obtain ⟨pb,cb,rfl⟩:=hb.cut
 have hvt:VI T T:=.inr ⟨⟨by omega,by omega⟩,⟨by omega,by omega⟩,Int.le_refl _⟩
 have hvt2:VI T (T+H):=time_vi ht1 ht2 h0 h1
 have hrw:=ser_rows (t:=(T,T)) htv hXN K
 have hsl:(serI L O X (T,T) K).length = X.length:=ser_len _
 have hrl:(remI (serI L O B (T,T+H) (K+1))).length = X.length:=by rw [remI_len,ser_len,hBX]
 have hsv:=serR_av (K:=K) htv hXN hBN hvx hvb hvt hvt2
 have hsr:∀ r ∈ serR L O X B T H K,r.length = K+2:=extI_rows hrw
 have hsrl:(serR L O X B T H K).length = X.length:=serR_len (N:=N) hBX
 have hev:=evS9_av (p:=(p0,p1)) hvp hsv
 have KC:=Lib.hid (fun w a b c=>Coefficients_ok N T T (.slice pl L.length cl) (.slice po O.length co) (.slice px X.length cx) L O X K w a b c htv hN1 hXN hvx hvt (by omega))
 have KR:=Lib.hid (fun w a b c=>Remainder_ok N T H (.slice pl L.length cl) (.slice po O.length co) (.slice pb B.length cb) L O B K w a b c htv hN1 hBN hvb ht1 ht2 h0 h1 hK)
 have KP:=Lib.hid (fun w=>(show Calls Tryz.prog 96 #[.int .i64 T] w fun e w'=>e = .returned (.agg #[.int .i64 T,.int .i64 T])∧Below w.heap.size w w' from ipt_num w (by omega) (by omega)))
 have KX:=Lib.hid (fun v vr us B0 w (hR:B0 ≤ w.heap.size) a b c=>extended_ok v vr (serI L O X (T,T) K) (remI (serI L O B (T,T+H) (K+1))) us B0 w (by omega) (by omega) (fun r hr=>by have:=hrw r hr; omega) hR a b c)
 have KE:=Lib.hid (fun vs w a=>Eval_ok vs (serR L O X B T H K) p0 p1 w a (by omega) (fun r hr=>by have:=hsr r hr; omega) hsv hvp)
 have KS:=Lib.hid (fun va eb w a b c=>restr_ok va (.slice pb B.length cb) (evS9 (p0,p1) (serR L O X B T H K)) B eb w a b c (by rw [evS9_len]; omega) (by rw [evS9_len]; omega) hev hvb)
 have HSL:=Lib.hid hsl
 have HRL:=Lib.hid hrl
 have HSR:=Lib.hid hsr
 have HSRL:=Lib.hid hsrl
 have HBX:=Lib.hid hBX
 have HK8:=Lib.hid hK
 have HB6':=Lib.hid (show X.length ≤ 6 by omega)
 have hE:Below w.heap.size w ((w.alloc (.cells #[.int .i64 N,.slice pl L.length cl,.slice po O.length co] 35)).alloc (.cells #[.int .i64 T,.int .i64 H,.int .i64 p0,.int .i64 p1,.int .i64 K] 147)):=allocs_below [.cells #[.int .i64 N,.slice pl L.length cl,.slice po O.length co] 35,.cells #[.int .i64 T,.int .i64 H,.int .i64 p0,.int .i64 p1,.int .i64 K] 147] w
 have HC:=Lib.hid (show Blk ((w.alloc (.cells #[.int .i64 N,.slice pl L.length cl,.slice po O.length co] 35)).alloc (.cells #[.int .i64 T,.int .i64 H,.int .i64 p0,.int .i64 p1,.int .i64 K] 147)) (w.heap.size) (.cells #[.int .i64 N,.slice pl L.length cl,.slice po O.length co] 35) from allocs_at [.cells #[.int .i64 N,.slice pl L.length cl,.slice po O.length co] 35,.cells #[.int .i64 T,.int .i64 H,.int .i64 p0,.int .i64 p1,.int .i64 K] 147] w 0 _ rfl)
 have HT:=Lib.hid (show Blk ((w.alloc (.cells #[.int .i64 N,.slice pl L.length cl,.slice po O.length co] 35)).alloc (.cells #[.int .i64 T,.int .i64 H,.int .i64 p0,.int .i64 p1,.int .i64 K] 147)) (w.heap.size+1) (.cells #[.int .i64 T,.int .i64 H,.int .i64 p0,.int .i64 p1,.int .i64 K] 147) from allocs_at [.cells #[.int .i64 N,.slice pl L.length cl,.slice po O.length co] 35,.cells #[.int .i64 T,.int .i64 H,.int .i64 p0,.int .i64 p1,.int .i64 K] 147] w 1 _ rfl)
 have HW:=Lib.hid hE
 have HL:=Lib.hid (hl.grow hE)
 have HO:=Lib.hid (ho.grow hE)
 have HX:=Lib.hid (hx.grow hE)
 have HBV:=Lib.hid (hb.grow hE)
 clear hE hl ho hx hb htv hXN hBN hvx hvb ht1 ht2 h0 h1 hK hn1 hn6 h400 hon hvl hout hBX hvt hvt2 hrw hsl hrl hsv hsr hsrl hev hvp
 go_enter Tryz.func94,Tryz.ntmps94
 go_wp2_with (fail)
 generalize hW0:World.alloc (World.alloc w _) _ = W0 at *
 clear hW0
 have x0:=fun g:Grown W0=>heapN_cellj (HC.out.grow g.h) (k:=0) rfl
 have x1:=fun g:Grown W0=>heapN_cellj (HC.out.grow g.h) (k:=1) rfl
 have x2:=fun g:Grown W0=>heapN_cellj (HC.out.grow g.h) (k:=2) rfl
 have y0:=fun g:Grown W0=>heapN_cellj (HT.out.grow g.h) (k:=0) rfl
 have y1:=fun g:Grown W0=>heapN_cellj (HT.out.grow g.h) (k:=1) rfl
 have y2:=fun g:Grown W0=>heapN_cellj (HT.out.grow g.h) (k:=2) rfl
 have y3:=fun g:Grown W0=>heapN_cellj (HT.out.grow g.h) (k:=3) rfl
 have y4:=fun g:Grown W0=>heapN_cellj (HT.out.grow g.h) (k:=4) rfl
 refine region_pred (lk [(12,fun z_ _=>z_ = .agg #[.int .i64 N,.slice pl L.length cl,.slice po O.length co]),(13,fun z_ _=>z_ = .slice px X.length cx),(14,fun z_ _=>z_ = .pointer (some ⟨w.heap.size+1,0,none⟩)),(15,fun z_ _=>z_ = .int .i64 T),(16,fun z_ _=>z_ = .agg #[.int .i64 T,.int .i64 T]),(17,fun z_ _=>z_ = .pointer (some ⟨w.heap.size+1,4,none⟩)),(18,fun z_ _=>z_ = .int .i64 (K:Int)),(19,fun z_ w'=>∃ sus,OwT encB 2 66 23 W0.heap.size w' z_ (serI L O X (T,T) K) sus),(9,fun z_ w'=>∃ sus,OwT encB 2 66 23 W0.heap.size w' z_ (serI L O X (T,T) K) sus)]) (by kernel_rfl) (by kernel_rfl) (lk_steady _ ⟨steady_eq _,steady_eq _,steady_eq _,steady_eq _,steady_eq _,steady_eq _,steady_eq _,fun u w1 w2 hb ⟨s_,h_⟩=>⟨s_,h_.grow hb⟩,fun u w1 w2 hb ⟨s_,h_⟩=>⟨s_,h_.grow hb⟩,trivial⟩) ?_ ?_
 ·refine ⟨?_,?_,?_,?_,?_,?_,?_,?_,?_,trivial⟩
  ·refine ob_plain [4] rfl rfl fun aa g h=>?_
   have yy0:=seen_out (v:=.pointer (some ⟨w.heap.size,0,none⟩)) rfl rfl h.1
   exact tvS (by simp [go_sem,yy0,x0 g,x1 g,x2 g]) rfl
  ·refine ob_plain [1] rfl rfl fun aa g h=>?_
   have yy0:=seen_out (v:=.slice px X.length cx) rfl rfl h.1
   exact tvS (by simp [go_sem,yy0]) rfl
  ·refine ob_plain [7] rfl rfl fun aa g h=>?_
   have yy0:=seen_out (v:=.pointer (some ⟨w.heap.size+1,0,none⟩)) rfl rfl h.1
   exact tvS (by simp [go_sem,yy0]) rfl
  ·refine ob_plain [14] rfl rfl fun aa g h=>?_
   obtain ⟨_,yy0,rfl⟩:=seen_in rfl h.1
   exact tvS (by simp [go_sem,yy0,y0 g]) rfl
  ·refine ob_plain [15] rfl rfl fun aa g h=>?_
   obtain ⟨_,yy0,rfl⟩:=seen_in rfl h.1
   refine tupon_enter (f:=96) (args:=#[.int .i64 T]) (by simp [go_sem,yy0]) rfl ?_
   exact (KP.out g.w).mono fun e w' ⟨he,hB⟩=>⟨_,he,hB,rfl⟩
  ·refine ob_plain [7] rfl rfl fun aa g h=>?_
   have yy0:=seen_out (v:=.pointer (some ⟨w.heap.size+1,0,none⟩)) rfl rfl h.1
   exact tvS (by simp [go_sem,yy0]) rfl
  ·refine ob_plain [17] rfl rfl fun aa g h=>?_
   obtain ⟨_,yy0,rfl⟩:=seen_in rfl h.1
   exact tvS (by simp [go_sem,yy0,y4 g]) rfl
  ·refine ob_plain [12,13,16,18] rfl rfl fun aa g h=>?_
   obtain ⟨_,yy0,rfl⟩:=seen_in rfl h.1
   obtain ⟨_,yy1,rfl⟩:=seen_in rfl h.2.1
   obtain ⟨_,yy2,rfl⟩:=seen_in rfl h.2.2.1
   obtain ⟨_,yy3,rfl⟩:=seen_in rfl h.2.2.2.1
   refine tupon_enter (f:=118) (args:=#[.agg #[.int .i64 N,.slice pl L.length cl,.slice po O.length co],.slice px X.length cx,.agg #[.int .i64 T,.int .i64 T],.int .i64 (K:Int)]) (by simp [go_sem,yy0,yy1,yy2,yy3]) rfl ?_
   exact (KC.out g.w (HL.out.grow g.h) (HO.out.grow g.h) (HX.out.grow g.h)).mono fun e w' ⟨sv,sus,he,hO,hB⟩=>⟨_,he,hB,⟨sus,hO.base g.h.size⟩⟩
  ·refine ob_plain [19] rfl rfl fun aa g h=>?_
   obtain ⟨v19,yy0,⟨sus,hO⟩⟩:=seen_in rfl h.1
   exact tupon_value (v:=v19) (by simp [go_sem,yy0]) (Below.refl _ _) ⟨sus,hO⟩
 rintro w5 hB _ rfl _ rfl _ rfl _ rfl _ rfl _ rfl _ rfl v19 ⟨sus,hO⟩ v9 ⟨sus9,hO9⟩
 simp only [Act.put,List.setIfInBounds_toArray,List.set_cons_succ,List.set_cons_zero,List.filterMap_nil,finP]
 clear x0 x1 x2 y0 y1 y2 y3 y4 hO sus
 obtain ⟨p9,c9,rfl⟩:=own_slice hO9.out
 have x0:=heapN_cellj (HC.out.grow hB) (k:=0) rfl
 have x1:=heapN_cellj (HC.out.grow hB) (k:=1) rfl
 have x2:=heapN_cellj (HC.out.grow hB) (k:=2) rfl
 have y0:=heapN_cellj (HT.out.grow hB) (k:=0) rfl
 have y1:=heapN_cellj (HT.out.grow hB) (k:=1) rfl
 have y4:=heapN_cellj (HT.out.grow hB) (k:=4) rfl
 have KR1:=Lib.hid (KR.out w5 (HL.out.grow hB) (HO.out.grow hB) (HBV.out.grow hB))
 have HB5:=Lib.hid hB
 have HO9:=Lib.hid hO9
 clear hB hO9 KR KC KP
 go_wp2_with (fail)
 refine KR1.out.mono ?_
 rintro e w6 ⟨p6,c6,rfl,ho6,hB6⟩
 have hfar:∀ u ∈ sus9,(Value.slice p6 B.length c6).ownBlock = none ∨ (Value.slice p6 B.length c6).ownBlock ≠ u.ownBlock:=fun u hu=>by
  rcases e:(Value.slice p6 B.length c6).ownBlock with _ | b
  ·exact .inl rfl
  ·refine .inr fun e2=>?_
   obtain ⟨r,_,h⟩:=HO9.out.mem hu
   have a1:=(h.lt b e2.symm).2
   have a2:=(ho6.lt b e).1
   omega
 have HB6:=Lib.hid (HB5.out.trans (hB6.mono HB5.out.size))
 have HO9:=Lib.hid (HO9.out.grow hB6)
 have HS56:=Lib.hid (show W0.heap.size ≤ w5.heap.size from HB5.out.size)
 have HO6:=Lib.hid (own_base ho6 HS56.out)
 have HFAR:=Lib.hid hfar
 have HFU:=Lib.hid (show ∀ u ∈ sus9,∀ b,u.ownBlock = some b→b < w6.heap.size from fun u hu b e=>by
  obtain ⟨r,_,h⟩:=HO9.out.mem hu
  exact (h.lt b e).2)
 clear KR1 x0 x1 x2 y0 y1 y4 hfar ho6 hB6
 go_wp2_with (fail)
 refine (restriction_ok _ _ _ _).mono ?_
 rintro e w7 ⟨rfl,rfl⟩
 obtain ⟨W7,hW7⟩:∃ W7,w6.alloc (.cells #[.slice pb B.length cb] 23) = W7:=⟨_,rfl⟩
 have hb7:Below w6.heap.size w6 W7:=by rw [← hW7]; exact (Below.refl _ _).alloc (Nat.le_refl _) _
 have hx7:W7.heap[w6.heap.size]? = some (.cells #[.slice pb B.length cb] 23 (0,0)):=by rw [← hW7]; exact World.alloc_heap_new w6 _
 have hs7:W7.heap.size = w6.heap.size+1:=by rw [← hW7]; simp
 rw [hW7]
 have HB7:=Lib.hid (HB6.out.trans (hb7.mono HB6.out.size))
 have HO9:=Lib.hid (HO9.out.grow hb7)
 have HO6:=Lib.hid (own_keptN HO6.out hb7)
 have hfu:∀ u ∈ sus9,u.ownBlock ≠ some w6.heap.size:=fun u hu e=>by
  have hl:=HFU.out u hu _ e
  omega
 have hdr:Below W7.heap.size W7 W7.drew:=(Below.refl _ _).drew
 have HBd:=Lib.hid (HB7.out.trans (hdr.mono HB7.out.size))
 have hxd:W7.drew.heap[w6.heap.size]? = some (.cells #[.slice pb B.length cb] 23 (0,0)):=(hdr.block _ (by omega)).trans hx7
 have HXD:=Lib.hid hxd
 have KX1:=Lib.hid (KX.out (.slice p9 (serI L O X (T,T) K).length c9) (.slice p6 B.length c6) sus9 W0.heap.size W7.drew HBd.out.size (HO9.out.grow hdr) (by rw [remI_len,ser_len]; exact own_keptN HO6.out hdr) HFAR.out)
 have KSF:∀ w',Below W0.heap.size W0 w'→(fun w':World=>w'.cell? ⟨w.heap.size+1,2,none⟩ = some (.int .i64 p0)∧w'.cell? ⟨w.heap.size+1,3,none⟩ = some (.int .i64 p1)) w':=fun w' h=>⟨heapN_cellj (HT.out.grow h) (k:=2) rfl,heapN_cellj (HT.out.grow h) (k:=3) rfl⟩
 have KS0:=Lib.hid (KSF _ HBd.out)
 have KSF:=Lib.hid KSF
 have HFU:=Lib.hid hfu
 have HSZD:=Lib.hid (show w6.heap.size < W7.drew.heap.size from (Array.getElem?_eq_some_iff.1 hxd).1)
 clear hfu hdr hxd hb7 hx7 hs7 hW7 KX HO9 HO6 HFAR HB7 HB6
 go_wp2_with (fail)
 go_region_held3 (fun w':World=>w'.cell? ⟨w.heap.size+1,2,none⟩ = some (.int .i64 p0)∧w'.cell? ⟨w.heap.size+1,3,none⟩ = some (.int .i64 p1)) (first | exact KS0.out | exact KS8.out | exact KS9.out | exact KS10.out) (first | (refine KX1.out.mono ?_; rintro e w8 ⟨rv,rus,rfl,h8,hB8,hK8⟩; have hsq:=h8.sq9 (by rw [show (extI (serI L O X (T,T) K) (remI (serI L O B (T,T+H) (K+1)))).length = X.length from HSRL.out]; unfold maxLen; have:=HB6'.out; omega) (fun r hr=>(by unfold maxLen; have:=HSR.out r hr; have:=HK8.out; omega)); have HSQ:=Lib.hid hsq; obtain ⟨pz,cz,rfl⟩:=own_slice h8.out; have HB8:=Lib.hid (HBd.out.trans hB8); have KS8:=Lib.hid (KSF.out _ HB8.out); have HX8:=Lib.hid ((hK8 _ HSZD.out HFU.out).trans HXD.out); clear h8 hB8 hK8 hsq) | (refine (KE.out _ _ HSQ.out).mono ?_; rintro e w9 ⟨v9,rfl,ho9,hB9⟩; obtain ⟨pe,ce,rfl⟩:=own_slice ho9; have HO9:=Lib.hid ho9; have HB9:=Lib.hid (HB8.out.trans (hB9.mono HB8.out.size)); have KS9:=Lib.hid (KSF.out _ HB9.out); have HX9:=Lib.hid ((hB9.block _ (Array.getElem?_eq_some_iff.1 HX8.out).1).trans HX8.out); clear ho9 hB9) | (refine (KS.out _ _ _ (Rx.own encB_len (by rw [evS9_len]; exact HO9.out) (by rw [evS9_len,HSRL.out]; unfold maxLen; have:=HB6'.out; omega)) (HBV.out.grow HB9.out) HX9.out).mono ?_; rintro e w10 ⟨pf,cf,rfl,ho10,hB10⟩; have HO10:=Lib.hid ho10; have HB10:=Lib.hid (HB9.out.trans (hB10.mono HB9.out.size)); have KS10:=Lib.hid (KSF.out _ HB10.out); have HS9:=Lib.hid (Nat.le_trans HW.out.size HB9.out.size); clear ho10 hB10))
 all_goals
  go_wp2_with (fail)
  go_ret
  have hz:=HO10.out
  rw [show (evS9 (p0,p1) (serR L O X B T H K)).length = X.length from by rw [evS9_len]; exact HSRL.out] at hz ⊢
  exact ⟨_,_,rfl,own_base hz HS9.out,below_then HW.out HB10.out⟩
end Go.Proofs.YtdfdpghdjlgghaaGreat
namespace Go.Proofs.YtdfdpghdjlgghaaGreat
open Go.ChangeShapes Go.WideShapes Go.ChangeAt Go.RowKit
set_option linter.unusedVariables false
set_option linter.unusedSimpArgs false
set_option maxRecDepth 100000
section
variable {P:Program}
def PureOp (P:Program) (o:Oper):Prop:=∀ (e:Operand→Value) (w1 w2:World) (n:Next) (w':World),(execOp e o).run P w1 = .ok n w'→(∃ u,n = .value u)∧w' = w1∧(execOp e o).run P w2 = .ok n w2
def coverB (l:List Oper) (os:Oper) (s:Nat) (R:List Nat):Bool:=(List.range l.length).all fun i=>Nat.beq i s || earlyB os i || R.any (Nat.beq i)
structure MInv (P:Program) (Φ:Tmp→Value→World→Prop) (s:Nat) (os:Oper) (w0:World) (a0:Act) (l:List Oper) (L:Array Bool) (a:Act) (wv w:World):Prop where
 bel:Below w0.heap.size w0 wv
 dfr:a.defers = a0.defers
 siz:a.tmps.size = a0.tmps.size
 lsz:L.size = l.length
 old:∀ t,t ∉ dsts l→a.tmps[t]? = a0.tmps[t]?
 val:∀ (i:Nat) (o:Oper) (d:Tmp),l[i]? = some o→o.dst = some d→L.getD i false = true→∃ v,a.tmps[d]? = some v∧Φ d v wv
 run:(L.getD s false = false∧wv = w) ∨ (L.getD s false = true∧(execOp a.eval os).run P wv = .ok .skip w)
 clo:∀ (j:Nat) (oj:Oper),l[j]? = some oj→L.getD j false = true→∀ i,earlyB oj i = true→L.getD i false = true
theorem pred_m {l:List Oper} {a0:Act} {w0:World} {Q:Exit→Act→World→Prop} (Φ:Tmp→Value→World→Prop) (s:Nat) (os:Oper) (R:List Nat) (hos:l[s]? = some os) (hB:predSB l s a0.tmps.size = true)
  (hC:coverB l os s R = true) (hR:∀ i ∈ R,∀ o,l[i]? = some o→PureOp P o) (hE:∀ i ∈ R,∀ o,l[i]? = some o→∀ (a:Act) (v:Value),execOp (a.put o.dst v).eval os = execOp a.eval os)
  (hΦ:∀ t v w1 w2,Below w1.heap.size w1 w2→Φ t v w1→Φ t v w2)
  (hO:∀ i o,l[i]? = some o→i ≠ s→Obl P l.toArray (dsts l) a0 w0 Φ o)
  (hS:∀ (a:Act) (g:Grown w0),seenAll Φ (dsts l) a0 a g.w (os.looksAt l.toArray)→∃ w',(execOp a.eval os).run P g.w = .ok .skip w')
  (k:∀ (a:Act) (g:Grown w0),a.defers = a0.defers→a.tmps.size = a0.tmps.size→(∀ t,t ∉ dsts l→a.tmps[t]? = a0.tmps[t]?)→(∀ d ∈ dsts l,∃ v,a.tmps[d]? = some v∧Φ d v g.w)→∃ w',(execOp a.eval os).run P g.w = .ok .skip w'∧Q .normal a w') :
  ∀ (f:Nat) (L:Array Bool) (a:Act) (wv w:World),cnt l.length L = f→MInv P Φ s os w0 a0 l L a wv w→wpAny P .any l.toArray Q f L a w:=by
 simp only [predSB,Bool.and_eq_true] at hB
 obtain ⟨⟨⟨⟨⟨b1,b2⟩,b3⟩,b4⟩,b5⟩,b6⟩:=hB
 have isz:∀ d ∈ dsts l,d < a0.tmps.size:=fun d hd=>by
  have:=List.all_eq_true.1 b6 d hd
  simpa using this
 have listedAll:∀ (L:Array Bool),L.size = l.length→cnt l.length L = 0→∀ i,i < l.length→L.getD i false = true:=fun L hs h0 i hi=>by
  unfold cnt at h0
  have:=List.countP_eq_zero.1 h0 i (List.mem_range.2 hi)
  have hs':i < L.size:=by omega
  simp [hs'] at this ⊢
  exact this
 intro f
 induction f with
 | zero =>
  intro L a wv w hc I
  have hall:=listedAll L I.lsz hc
  have hsl:=(List.getElem?_eq_some_iff.1 hos).1
  rcases I.run with ⟨h1,_⟩ | ⟨_,hrun⟩
  ·rw [hall s hsl] at h1
   cases h1
  obtain ⟨w',hr,hq⟩:=k a ⟨wv,I.bel⟩ I.dfr I.siz I.old (fun d hd=>by
   obtain ⟨ox,hox,hdo⟩:=List.mem_filterMap.1 hd
   obtain ⟨x,hx⟩:=List.getElem?_of_mem hox
   exact I.val x ox d hx hdo (hall x (List.getElem?_eq_some_iff.1 hx).1))
  have hww:w = w':=by
   have:=hrun.symm.trans hr
   injection this
  subst hww
  refine ⟨?_,hq⟩
  cases hrd:Region.ready .any l.toArray L with
  | nil=>rfl
  | cons x r =>
   have hi:x ∈ Region.ready .any l.toArray L:=by rw [hrd]; exact List.mem_cons_self
   obtain ⟨hun,ox,hox,_⟩:=mem_ready.1 hi
   have hin:x < l.length:=by
    have:=(Array.getElem?_eq_some_iff.1 hox).1
    simpa using this
   have:=hall x hin
   rw [getD_both hun] at this
   cases this
 | succ f ih =>
  intro L a wv w hc I
  have hex:∃ i,i < l.length∧L.getD i true = false:=by
   by_cases h:∃ i,i < l.length∧L.getD i true = false
   ·exact h
   ·exfalso
    have:cnt l.length L = 0:=by
     unfold cnt
     refine List.countP_eq_zero.2 fun i hi=>?_
     have hin:=List.mem_range.1 hi
     cases hh:L.getD i true with
     | true=>simp
     | false=>exact absurd ⟨i,hin,hh⟩ h
    omega
  obtain ⟨i0,hi0,hu0⟩:=hex
  have hne:Region.ready .any l.toArray L ≠ []:=fun h0=>by
   have all:∀ i,i < l.length→L.getD i false = true:=fun i=>by
    induction i using Nat.strongRecOn with
    | _ i ihh =>
     intro hi
     cases hh:L.getD i false with
     | true=>rfl
     | false =>
      exfalso
      have hs:i < L.size:=by rw [I.lsz]; exact hi
      have hmem:i ∈ Region.ready .any l.toArray L:=mem_ready.2 ⟨getD_in hs hh,l[i],by simp [hi],fun ed hed hb=>by
       have:=leadB_at l 0 b4 i l[i] (by simp [hi]) ed hed hb
       exact ihh ed.on (by omega) (by omega)⟩
      rw [h0] at hmem
      cases hmem
   have:=all i0 hi0
   rw [getD_both hu0] at this
   cases this
  refine ⟨fun h0=>absurd h0 hne,fun i hi=>?_⟩
  obtain ⟨hun,o,ho,hall⟩:=mem_ready.1 hi
  have hol:l[i]? = some o:=by simpa using ho
  have hin:i < l.length:=(List.getElem?_eq_some_iff.1 hol).1
  have hmem:o ∈ l:=List.mem_of_getElem? hol
  have hsL:i < L.size:=by rw [I.lsz]; exact hin
  have hcnt:cnt l.length (L.setIfInBounds i true) = f:=by
   have:=cnt_set (fun k=>!L.getD k true) (fun k=>!(L.setIfInBounds i true).getD k true) i (by show (!L.getD i true) = true; rw [hun]; rfl) (by simp [Array.getD_eq_getD_getElem?,hsL]) (fun j hj=>by
    simp only [Array.getD_eq_getD_getElem?,Array.getElem?_setIfInBounds_ne (Ne.symm hj)]) l.length
   rw [if_pos hin] at this
   unfold cnt at *
   omega
  have hset:∀ k,(L.setIfInBounds i true).getD k false = if i = k then true else L.getD k false:=fun k=>by
   by_cases hik:i = k
   ·subst hik
    rw [if_pos rfl]
    simp [Array.getD_eq_getD_getElem?,hsL]
   ·rw [if_neg hik]
    simp [Array.getD_eq_getD_getElem?,Array.getElem?_setIfInBounds_ne hik]
  have hlook:seenAll (Φ) (dsts l) a0 a wv (o.looksAt l.toArray):=seenAll_of _ fun t ht=>by
   unfold seen
   by_cases hin':inL t (dsts l) = true
   ·rw [if_pos hin']
    have hmt:=(inL_iff t _).1 hin'
    have h1:=List.all_eq_true.1 (List.all_eq_true.1 b3 o hmem) t ht
    simp only [Bool.or_eq_true,Bool.not_eq_true'] at h1
    rcases h1 with h1 | h1
    ·have:=(List.contains_iff_mem).2 hmt
     rw [h1] at this
     cases this
    ·obtain ⟨e,he,hb⟩:=Array.any_eq_true'.1 h1
     simp only [Bool.and_eq_true] at hb
     obtain ⟨hb1,hb2⟩:=hb
     have hlis:=hall e he hb1
     cases hoj:l.toArray[e.on]? with
     | none=>rw [hoj] at hb2; cases hb2
     | some oj =>
      rw [hoj] at hb2
      simp only [beq_iff_eq] at hb2
      exact I.val e.on oj t (by simpa using hoj) hb2 hlis
   ·rw [if_neg hin']
    exact I.old t fun h=>hin' ((inL_iff t _).2 h)
  by_cases his:i = s
  ·subst his
   obtain rfl:o = os:=by rw [hol] at hos; exact Option.some.inj hos
   have hoN:=(allBut_at l i 0 b2 i o hol).1 (by omega)
   have hw:Region.wanted o (yielded l.toArray a.tmps) = true:=by
    unfold Region.wanted
    rw [hoN.2]
   have hwv:wv = w:=by
    rcases I.run with ⟨_,h⟩ | ⟨h,_⟩
    ·exact h
    ·rw [getD_both hun] at h
     cases h
   subst hwv
   obtain ⟨w',hr⟩:=hS a ⟨wv,I.bel⟩ hlook
   unfold wpOp
   simp only [ho]
   rw [if_pos hw]
   refine .inl ?_
   unfold Oper.wp
   rw [hr,Oper.upon_skip]
   have hput:a.put o.dst undef = a:=by rw [hoN.1]; rfl
   rw [hput]
   refine ih _ _ wv w' hcnt ⟨I.bel,I.dfr,I.siz,by simp [I.lsz],I.old,fun j oj dj hj hdj hLj=>?_,.inr ⟨by rw [hset,if_pos rfl],hr⟩,fun j oj hj hLj x hej=>?_⟩
   ·by_cases hij:i = j
    ·subst hij
     rw [hol] at hj
     have e:=Option.some.inj hj
     subst e
     rw [hoN.1] at hdj
     cases hdj
    ·rw [hset,if_neg hij] at hLj
     exact I.val j oj dj hj hdj hLj
   ·rw [hset]
    by_cases hij:i = j
    ·subst hij
     rw [hol] at hj
     have e:=Option.some.inj hj
     subst e
     split
     ·rfl
     ·obtain ⟨e,he,hb⟩:=Array.any_eq_true'.1 hej
      simp only [Bool.and_eq_true] at hb
      have:=hall e he hb.1
      rwa [Nat.eq_of_beq_eq_true hb.2] at this
    ·rw [hset,if_neg hij] at hLj
     have:=I.clo j oj hj hLj x hej
     split
     ·rfl
     ·exact this
  ·obtain ⟨d,hd⟩:=(allBut_at l s 0 b2 i o hol).2 (by omega)
   have hdm:d ∈ dsts l:=List.mem_filterMap.2 ⟨o,hmem,hd⟩
   have hdN:d < a.tmps.size:=by rw [I.siz]; exact isz d hdm
   -- behind the operation
   have step:∀ v w1 w2,Below wv.heap.size wv w1→meets (Φ) o.dst v w1→((L.getD s false = false∧w1 = w2) ∨ (L.getD s false = true∧(execOp (a.put o.dst v).eval os).run P w1 = .ok .skip w2))→wpAny P .any l.toArray Q f (L.setIfInBounds i true) (a.put o.dst v) w2:=fun v w1 w2 hb hv hrun=>by
    refine ih _ _ w1 w2 hcnt ⟨I.bel.trans (hb.mono I.bel.size),by rw [put_def,I.dfr],by rw [put_size,I.siz],by simp [I.lsz],fun t ht=>?_,fun j oj dj hj hdj hLj=>?_,by rw [hset,if_neg his]; exact hrun,fun j oj hj hLj x hej=>?_⟩
    ·have hne:d ≠ t:=fun e=>ht (e ▸ hdm)
     rw [hd,put_get_ne _ _ hne]
     exact I.old t ht
    ·by_cases hij:i = j
     ·subst hij
      rw [hol] at hj
      have e:=Option.some.inj hj
      subst e
      rw [hd] at hdj
      have e:=Option.some.inj hdj
      subst e
      rw [hd] at hv ⊢
      exact ⟨v,put_get_eq _ _ hdN,hv⟩
     ·rw [hset,if_neg hij] at hLj
      obtain ⟨u,h1,h2⟩:=I.val j oj dj hj hdj hLj
      have hne:d ≠ dj:=fun e=>hij (dist_inj' l b1 i j o oj d hol hj hd (by rw [e]; exact hdj))
      exact ⟨u,by rw [hd,put_get_ne _ _ hne]; exact h1,hΦ _ _ _ _ hb h2⟩
    ·rw [hset]
     by_cases hij:i = j
     ·subst hij
      rw [hol] at hj
      have e:=Option.some.inj hj
      subst e
      split
      ·rfl
      ·obtain ⟨e,he,hb⟩:=Array.any_eq_true'.1 hej
       simp only [Bool.and_eq_true] at hb
       have:=hall e he hb.1
       rwa [Nat.eq_of_beq_eq_true hb.2] at this
     ·rw [hset,if_neg hij] at hLj
      have:=I.clo j oj hj hLj x hej
      split
      ·rfl
      ·exact this
   have hob:=hO i o hol his a ⟨wv,I.bel⟩ hlook
   unfold wpOp
   simp only [ho]
   rcases I.run with ⟨h1,rfl⟩ | ⟨h1,hrun⟩
   ·by_cases hw:Region.wanted o (yielded l.toArray a.tmps) = true
    ·rw [if_pos hw] at hob ⊢
     refine .inl ?_
     unfold Oper.wp
     generalize hr:(execOp a.eval o).run P wv = r at hob
     cases r with
     | ok n w' =>
      cases n with
      | value u =>
       rw [Oper.upon_value]
       exact step u w' w' hob.1 hob.2 (.inl ⟨h1,rfl⟩)
      | enter f args =>
       obtain ⟨rfl,hc⟩:=hob
       rw [Oper.upon_enter]
       refine hc.mono ?_
       rintro e w'' ⟨v,rfl,hb,hv⟩
       exact step v w'' w'' hb hv (.inl ⟨h1,rfl⟩)
      | _=>exact hob.elim
     | _=>exact hob.elim
    ·rw [if_neg hw] at hob ⊢
     exact step undef wv wv (Below.refl _ _) hob (.inl ⟨h1,rfl⟩)
   ·have hiR:i ∈ R:=by
     have h2:=List.all_eq_true.1 hC i (List.mem_range.2 hin)
     simp only [Bool.or_eq_true] at h2
     rcases h2 with (h2 | h2) | h2
     ·exact absurd (Nat.eq_of_beq_eq_true h2) his
     ·have h3:=I.clo s os hos h1 i h2
      rw [getD_both hun] at h3
      cases h3
     ·obtain ⟨x,hx,he⟩:=List.any_eq_true.1 h2
      rw [Nat.eq_of_beq_eq_true he]
      exact hx
    have hpu:=hR i hiR o hol
    have hev:=hE i hiR o hol
    by_cases hw:Region.wanted o (yielded l.toArray a.tmps) = true
    ·rw [if_pos hw] at hob ⊢
     refine .inl ?_
     unfold Oper.wp
     generalize hr:(execOp a.eval o).run P wv = r at hob
     cases r with
     | ok n w' =>
      obtain ⟨⟨u,rfl⟩,rfl,hr2⟩:=hpu a.eval wv w n w' hr
      rw [hr2,Oper.upon_value]
      exact step u _ w hob.1 hob.2 (.inr ⟨h1,by rw [hev]; exact hrun⟩)
     | _=>exact hob.elim
    ·rw [if_neg hw] at hob ⊢
     exact step undef wv w (Below.refl _ _) hob (.inr ⟨h1,by rw [hev]; exact hrun⟩)
theorem region_pred_m {id:Nat} {Q:Exit→Act→World→Prop} {a0:Act} {w:World} {l:List Oper} (Φ:Tmp→Value→World→Prop) (s:Nat) (os:Oper) (R:List Nat) (hos:l[s]? = some os) (hm:P.follows .mixedOrders = true) (hB:predSB l s a0.tmps.size = true) (hC:coverB l os s R = true) (hR:∀ i ∈ R,∀ o,l[i]? = some o→PureOp P o) (hE:∀ i ∈ R,∀ o,l[i]? = some o→∀ (a:Act) (v:Value),execOp (a.put o.dst v).eval os = execOp a.eval os)
  (hS:∀ (a:Act) (g:Grown w),seenAll Φ (dsts l) a0 a g.w (os.looksAt l.toArray)→∃ w',(execOp a.eval os).run P g.w = .ok .skip w')
  (hΦ:∀ t v w1 w2,Below w1.heap.size w1 w2→Φ t v w1→Φ t v w2)
  (hO:eachS (fun i o=>i ≠ s→Obl P l.toArray (dsts l) a0 w Φ o) 0 l)
  (k:∀ w',Below w.heap.size w w'→finP Φ w' (fun a=>∃ w'',(execOp a.eval os).run P w' = .ok .skip w''∧Q .normal a w'') (dsts l) a0) :
  (Code.region id l.toArray true).wp P Q a0 w:=by
 refine wp_region_any hm ?_
 have k:=fun (a:Act) (g:Grown w) h1 h2 h3 h4=>finP_ok (Φ:=Φ) (w:=g.w) (K:=fun a=>∃ w'',(execOp a.eval os).run P g.w = .ok .skip w''∧Q .normal a w'') (a:=a) (dsts l) a0 (Eq.symm h1) (Eq.symm h2) h4 h3 (k g.w g.h)
 have h0:cnt l.length (Array.replicate l.toArray.size false) = l.toArray.size:=by
  unfold cnt
  simp only [List.size_toArray]
  rw [List.countP_eq_length.2]
  ·simp
  ·intro i hi
   have:=List.mem_range.1 hi
   simp [this]
 refine pred_m Φ s os R hos hB hC hR hE hΦ (fun i o hi his=>by have:=eachS_at 0 hO i o hi; rw [Nat.zero_add] at this; exact this his) hS k _ _ _ { w with drawn:=w.drawn+1 } { w with drawn:=w.drawn+1 } h0 ⟨⟨rfl,rfl,rfl,Nat.le_refl _,fun _ _=>rfl⟩,rfl,rfl,by simp,fun _ _=>rfl,fun i o d hi hd hL=>?_,?_,fun j oj hj hL=>?_⟩
 ·exfalso
  have:i < l.length:=(List.getElem?_eq_some_iff.1 hi).1
  simp [this] at hL
 ·have:s < l.length:=(List.getElem?_eq_some_iff.1 hos).1
  exact .inl ⟨by simp [this],rfl⟩
 ·exfalso
  have:j < l.length:=(List.getElem?_eq_some_iff.1 hj).1
  simp [this] at hL
end
end Go.Proofs.YtdfdpghdjlgghaaGreat
