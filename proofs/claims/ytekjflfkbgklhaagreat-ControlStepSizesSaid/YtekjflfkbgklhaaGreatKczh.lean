/-
 Ce Bis
-/
import Derived.Test.YtekjflfkbgklhaaGreatKcc
import Derived.Test.YtekjflfkbgklhaaGreatKcv
import Derived.Test.YtekjflfkbgklhaaGreatKczg
import Derived.Deep.RegionHeld3
namespace Go.Proofs.YtekjflfkbgklhaaGreat
open Go.ChangeShapes Go.WideShapes Go.ChangeAt Go.RowKit
set_option linter.unusedVariables false
set_option linter.unusedSimpArgs false
set_option maxRecDepth 100000
attribute [local irreducible] Calls
theorem wrapJ (n:Int) (h1:-4611686018427387904 ≤ n) (h2:n ≤ 4611686018427387904):IntKind.i64.wrap n = n:=wrapN n (by omega) (by omega)
theorem pt_num {T:Int} (w:World) (h1:-2147483648 < T) (h2:T < 2147483648):Calls Tryz.prog 75 #[.int .i64 T] w fun e w'=>e = .returned (.agg #[.int .i64 T,.int .i64 T])∧Below w.heap.size w w':=by
 have h:=iv_point T w
 unfold mkLo mkHi at h
 have hn:Num T∧Num T:=⟨⟨h1,h2⟩,h1,h2⟩
 rw [if_pos hn,if_pos hn] at h
 exact h
theorem new_ok {T H:Int} (ht1:-1048576 ≤ T) (ht2:T ≤ 1048576) (h0:0 ≤ H) (h1:H ≤ 1000000) (w:World):Calls Tryz.prog 74 #[.int .i64 T,.int .i64 (T+H)] w fun e w'=>e = .returned (.agg #[.int .i64 T,.int .i64 (T+H)])∧Below w.heap.size w w':=by
 have h:=iv_new T (T+H) w (by omega)
 unfold mkLo mkHi at h
 have hn:Num T∧Num (T+H):=⟨⟨by omega,by omega⟩,by omega,by omega⟩
 rw [if_pos hn,if_pos hn] at h
 exact h
set_option maxHeartbeats 16000000 in
theorem Remainder_ok (N T H:Int) (vl vo vb:Value) (L:List Is) (O:List Int) (B:List (Int × Int)) (K:Nat) (w:World) (hl:Ix w vl L) (ho:Px w vo O) (hb:Vx w vb B) (htv:tvB N L O = true) (hBN:(B.length:Int) = N) (hvb:AV B) (ht1:-1048576 ≤ T) (ht2:T ≤ 1048576) (h0:0 ≤ H) (h1:H ≤ 1000000) (hK:K+1 ≤ 8) :
  Calls Tryz.prog 91 #[.agg #[.int .i64 N,vl,vo],vb,.agg #[.int .i64 T,.int .i64 H],.int .i64 K] w fun e w'=>∃ p c,e = .returned (.slice p B.length c)∧w'.ownsRow w.heap.size 59 2 (.slice p B.length c) B.length (cr encB (remI (serI L O B (T,T+H) (K+1))))∧Below w.heap.size w w':=by
 obtain ⟨hn1,hn6,h400,hon,hvl,hout⟩:=tv_cases htv
 obtain ⟨pl,cl,rfl⟩:=hl.cut
 obtain ⟨po,co,rfl⟩:=ho.cut
 obtain ⟨pb,cb,rfl⟩:=hb.cut
 have hav:=ser_av (t:=(T,T+H)) htv hBN hvb (time_vi ht1 ht2 h0 h1) (K+1)
 have hrw:=ser_rows (t:=(T,T+H)) htv hBN (K+1)
 have hsl:(serI L O B (T,T+H) (K+1)).length = B.length:=ser_len _
 obtain ⟨K1,hK1⟩:∃ K1,K+1 = K1:=⟨_,rfl⟩
 have hw1:IntKind.i64.wrap ((K:Int)+1) = (K1:Int):=by rw [← hK1]; unfold IntKind.wrap; simp [IntKind.bits,IntKind.signed,IntKind.min,IntKind.max]; omega
 have hTH:IntKind.i64.wrap (T+H) = T+H:=wrapJ _ (by omega) (by omega)
 have KC:=Lib.hid (fun w a b c=>Coefficients_ok N T (T+H) (.slice pl L.length cl) (.slice po O.length co) (.slice pb B.length cb) L O B K1 w a b c htv hBN hvb (time_vi ht1 ht2 h0 h1) (by omega))
 have KN:=Lib.hid (fun w=>new_ok ht1 ht2 h0 h1 w)
 rw [hK1] at hav hrw hsl ⊢
 have KM:=Lib.hid (fun vs w hs=>map1_ok vs (serI L O B (T,T+H) K1) w hs (by omega) (fun r hr=>by have:=hrw r hr; omega))
 have HSL:=Lib.hid hsl
 have HRW:=Lib.hid hrw
 have HK8:=Lib.hid (show K1 ≤ 8 by omega)
 have hE:Below w.heap.size w ((w.alloc (.cells #[.int .i64 N,.slice pl L.length cl,.slice po O.length co] 39)).alloc (.cells #[.int .i64 T,.int .i64 H] 47)):=allocs_below [.cells #[.int .i64 N,.slice pl L.length cl,.slice po O.length co] 39,.cells #[.int .i64 T,.int .i64 H] 47] w
 have HC:=Lib.hid (show Blk ((w.alloc (.cells #[.int .i64 N,.slice pl L.length cl,.slice po O.length co] 39)).alloc (.cells #[.int .i64 T,.int .i64 H] 47)) (w.heap.size) (.cells #[.int .i64 N,.slice pl L.length cl,.slice po O.length co] 39) from allocs_at [.cells #[.int .i64 N,.slice pl L.length cl,.slice po O.length co] 39,.cells #[.int .i64 T,.int .i64 H] 47] w 0 _ rfl)
 have HT:=Lib.hid (show Blk ((w.alloc (.cells #[.int .i64 N,.slice pl L.length cl,.slice po O.length co] 39)).alloc (.cells #[.int .i64 T,.int .i64 H] 47)) (w.heap.size+1) (.cells #[.int .i64 T,.int .i64 H] 47) from allocs_at [.cells #[.int .i64 N,.slice pl L.length cl,.slice po O.length co] 39,.cells #[.int .i64 T,.int .i64 H] 47] w 1 _ rfl)
 have HW:=Lib.hid hE
 have HL:=Lib.hid (hl.grow hE)
 have HO:=Lib.hid (ho.grow hE)
 have HX:=Lib.hid (hb.grow hE)
 have HB6:=Lib.hid (show B.length ≤ 6 by omega)
 clear hE hl ho hb htv hBN hvb ht1 ht2 h0 h1 hK hn1 hn6 h400 hon hvl hout hav hrw hsl hK1
 go_enter Tryz.func91,Tryz.ntmps91
 go_wp2_with (fail)
 generalize hW0:World.alloc (World.alloc w _) _ = W0 at *
 clear hW0
 have x0:=fun g:Grown W0=>heapN_cellj (HC.out.grow g.h) (k:=0) rfl
 have x1:=fun g:Grown W0=>heapN_cellj (HC.out.grow g.h) (k:=1) rfl
 have x2:=fun g:Grown W0=>heapN_cellj (HC.out.grow g.h) (k:=2) rfl
 have y0:=fun g:Grown W0=>heapN_cellj (HT.out.grow g.h) (k:=0) rfl
 have y1:=fun g:Grown W0=>heapN_cellj (HT.out.grow g.h) (k:=1) rfl
 refine region_pred (lk [(10,fun z_ _=>z_ = .agg #[.int .i64 N,.slice pl L.length cl,.slice po O.length co]),(11,fun z_ _=>z_ = .slice pb B.length cb),(12,fun z_ _=>z_ = .pointer (some ⟨w.heap.size+1,0,none⟩)),(13,fun z_ _=>z_ = .int .i64 T),(14,fun z_ _=>z_ = .pointer (some ⟨w.heap.size+1,0,none⟩)),(15,fun z_ _=>z_ = .int .i64 T),(16,fun z_ _=>z_ = .pointer (some ⟨w.heap.size+1,1,none⟩)),(17,fun z_ _=>z_ = .int .i64 H),(18,fun z_ _=>z_ = .int .i64 (T+H)),(19,fun z_ _=>z_ = .agg #[.int .i64 T,.int .i64 (T+H)]),(20,fun z_ _=>z_ = .int .i64 (K:Int)),(21,fun z_ _=>z_ = .int .i64 (K1:Int)),(22,fun z_ w'=>∃ sus,OwT encB 2 59 25 W0.heap.size w' z_ (serI L O B (T,T+H) K1) sus),(9,fun z_ w'=>∃ sus,OwT encB 2 59 25 W0.heap.size w' z_ (serI L O B (T,T+H) K1) sus)]) (by kernel_rfl) (by kernel_rfl) (lk_steady _ ⟨steady_eq _,steady_eq _,steady_eq _,steady_eq _,steady_eq _,steady_eq _,steady_eq _,steady_eq _,steady_eq _,steady_eq _,steady_eq _,steady_eq _,fun u w1 w2 hb ⟨s_,h_⟩=>⟨s_,h_.grow hb⟩,fun u w1 w2 hb ⟨s_,h_⟩=>⟨s_,h_.grow hb⟩,trivial⟩) ?_ ?_
 ·refine ⟨?_,?_,?_,?_,?_,?_,?_,?_,?_,?_,?_,?_,?_,?_,trivial⟩
  ·refine ob_plain [4] rfl rfl fun aa g h=>?_
   have yy0:=seen_out (v:=.pointer (some ⟨w.heap.size,0,none⟩)) rfl rfl h.1
   exact tvS (by simp [go_sem,yy0,x0 g,x1 g,x2 g]) rfl
  ·refine ob_plain [1] rfl rfl fun aa g h=>?_
   have yy0:=seen_out (v:=.slice pb B.length cb) rfl rfl h.1
   exact tvS (by simp [go_sem,yy0]) rfl
  ·refine ob_plain [6] rfl rfl fun aa g h=>?_
   have yy0:=seen_out (v:=.pointer (some ⟨w.heap.size+1,0,none⟩)) rfl rfl h.1
   exact tvS (by simp [go_sem,yy0]) rfl
  ·refine ob_plain [12] rfl rfl fun aa g h=>?_
   obtain ⟨_,yy0,rfl⟩:=seen_in rfl h.1
   exact tvS (by simp [go_sem,yy0,y0 g]) rfl
  ·refine ob_plain [6] rfl rfl fun aa g h=>?_
   have yy0:=seen_out (v:=.pointer (some ⟨w.heap.size+1,0,none⟩)) rfl rfl h.1
   exact tvS (by simp [go_sem,yy0]) rfl
  ·refine ob_plain [14] rfl rfl fun aa g h=>?_
   obtain ⟨_,yy0,rfl⟩:=seen_in rfl h.1
   exact tvS (by simp [go_sem,yy0,y0 g]) rfl
  ·refine ob_plain [6] rfl rfl fun aa g h=>?_
   have yy0:=seen_out (v:=.pointer (some ⟨w.heap.size+1,0,none⟩)) rfl rfl h.1
   exact tvS (by simp [go_sem,yy0]) rfl
  ·refine ob_plain [16] rfl rfl fun aa g h=>?_
   obtain ⟨_,yy0,rfl⟩:=seen_in rfl h.1
   exact tvS (by simp [go_sem,yy0,y1 g]) rfl
  ·refine ob_plain [15,17] rfl rfl fun aa g h=>?_
   obtain ⟨_,yy0,rfl⟩:=seen_in rfl h.1
   obtain ⟨_,yy1,rfl⟩:=seen_in rfl h.2.1
   exact tvS (by simp [go_sem,yy0,yy1,hTH]) rfl
  ·refine ob_plain [13,18] rfl rfl fun aa g h=>?_
   obtain ⟨_,yy0,rfl⟩:=seen_in rfl h.1
   obtain ⟨_,yy1,rfl⟩:=seen_in rfl h.2.1
   refine tupon_enter (f:=74) (args:=#[.int .i64 T,.int .i64 (T+H)]) (by simp [go_sem,yy0,yy1]) rfl ?_
   exact (KN.out g.w).mono fun e w' ⟨he,hB⟩=>⟨_,he,hB,rfl⟩
  ·refine ob_plain [3] rfl rfl fun aa g h=>?_
   have yy0:=seen_out (v:=.int .i64 (K:Int)) rfl rfl h.1
   exact tvS (by simp [go_sem,yy0]) rfl
  ·refine ob_plain [20] rfl rfl fun aa g h=>?_
   obtain ⟨_,yy0,rfl⟩:=seen_in rfl h.1
   exact tvS (by simp [go_sem,yy0,hw1]) rfl
  ·refine ob_plain [10,11,19,21] rfl rfl fun aa g h=>?_
   obtain ⟨_,yy0,rfl⟩:=seen_in rfl h.1
   obtain ⟨_,yy1,rfl⟩:=seen_in rfl h.2.1
   obtain ⟨_,yy2,rfl⟩:=seen_in rfl h.2.2.1
   obtain ⟨_,yy3,rfl⟩:=seen_in rfl h.2.2.2.1
   refine tupon_enter (f:=90) (args:=#[.agg #[.int .i64 N,.slice pl L.length cl,.slice po O.length co],.slice pb B.length cb,.agg #[.int .i64 T,.int .i64 (T+H)],.int .i64 (K1:Int)]) (by simp [go_sem,yy0,yy1,yy2,yy3]) rfl ?_
   exact (KC.out g.w (HL.out.grow g.h) (HO.out.grow g.h) (HX.out.grow g.h)).mono fun e w' ⟨sv,sus,he,hO,hB⟩=>⟨_,he,hB,⟨sus,hO.base g.h.size⟩⟩
  ·refine ob_plain [22] rfl rfl fun aa g h=>?_
   obtain ⟨v22,yy0,⟨sus,hO⟩⟩:=seen_in rfl h.1
   exact tupon_value (v:=v22) (by simp [go_sem,yy0]) (Below.refl _ _) ⟨sus,hO⟩
 rintro w5 hB _ rfl _ rfl _ rfl _ rfl _ rfl _ rfl _ rfl _ rfl _ rfl _ rfl _ rfl _ rfl v22 ⟨sus,hO⟩ v9 ⟨sus9,hO9⟩
 simp only [Act.put,List.setIfInBounds_toArray,List.set_cons_succ,List.set_cons_zero,List.filterMap_nil,finP]
 clear x0 x1 x2 y0 y1 hTH hw1
 have hlx:Lx Vx w5 v9 (serI L O B (T,T+H) K1):=hO9.lx encB_len (by unfold maxLen; have:=HSL.out; have:=HB6.out; omega) (fun r hr=>by unfold maxLen; have:=HRW.out r hr; have:=HK8.out; omega)
 obtain ⟨_,p9,c9,rfl,_⟩:=id hlx
 have KM1:=Lib.hid (KM.out _ w5 hlx)
 have HB5:=Lib.hid (below_then HW.out hB)
 have HSZ:=Lib.hid (show w.heap.size ≤ w5.heap.size from HB5.out.size)
 clear hO hO9 hB hlx KM KC KN HC HT HL HO HX
 go_wp2_with (fail)
 refine KM1.out.mono ?_
 rintro e w8 ⟨p8,c8,rfl,ho8,hB8⟩
 rw [HSL.out] at ho8 ⊢
 have HO8:=Lib.hid (own_base ho8 HSZ.out)
 have HB8:=Lib.hid (below_then HB5.out hB8)
 clear ho8 hB8 KM1
 go_wp2_with (fail)
 go_ret
 exact ⟨_,_,rfl,HO8.out,HB8.out⟩
theorem restriction_ok (p:Option Addr) (n c:Nat) (w:World):Calls Tryz.prog 92 #[.slice p n c] w fun e w'=>e = .returned (.func (.func 126) #[] #[.pointer (some ⟨w.heap.size,0,none⟩)])∧w' = w.alloc (.cells #[.slice p n c] 25):=by
 go_enter Tryz.func92,Tryz.ntmps92
 go_wp2_with (fail)
 go_ret
 exact ⟨rfl,rfl⟩
set_option maxHeartbeats 16000000 in
theorem EnclosureAt_ok (N T H p0 p1:Int) (vl vo vx vb:Value) (L:List Is) (O:List Int) (X B:List (Int × Int)) (K:Nat) (w:World) (hl:Ix w vl L) (ho:Px w vo O) (hx:Vx w vx X) (hb:Vx w vb B) (htv:tvB N L O = true) (hXN:(X.length:Int) = N) (hBN:(B.length:Int) = N) (hvx:AV X) (hvb:AV B) (ht1:-1048576 ≤ T) (ht2:T ≤ 1048576) (h0:0 ≤ H) (h1:H ≤ 1000000) (hK:K+1 ≤ 8) (hvp:VI p0 p1) :
  Calls Tryz.prog 71 #[.agg #[.int .i64 N,vl,vo],vx,vb,.agg #[.int .i64 T,.int .i64 H,.int .i64 p0,.int .i64 p1,.int .i64 K]] w fun e w'=>∃ p c,e = .returned (.slice p X.length c)∧w'.ownsRow w.heap.size 59 2 (.slice p X.length c) X.length (cr encB (encA L O X B T H (p0,p1) K))∧Below w.heap.size w w':=by
 obtain ⟨hn1,hn6,h400,hon,hvl,hout⟩:=tv_cases htv
 have hBX:B.length = X.length:=by omega
 obtain ⟨pl,cl,rfl⟩:=hl.cut
 obtain ⟨po,co,rfl⟩:=ho.cut
 obtain ⟨px,cx,rfl⟩:=hx.cut
 obtain ⟨pb,cb,rfl⟩:=hb.cut
 have hvt:VI T T:=.inr ⟨⟨by omega,by omega⟩,⟨by omega,by omega⟩,Int.le_refl _⟩
 have hvt2:VI T (T+H):=time_vi ht1 ht2 h0 h1
 have hrw:=ser_rows (t:=(T,T)) htv hXN K
 have hsl:(serI L O X (T,T) K).length = X.length:=ser_len _
 have hrl:(remI (serI L O B (T,T+H) (K+1))).length = X.length:=by rw [remI_len,ser_len,hBX]
 have hsv:=serR_av (K:=K) htv hXN hBN hvx hvb hvt hvt2
 have hsr:∀ r ∈ serR L O X B T H K,r.length = K+2:=extI_rows hrw
 have hsrl:(serR L O X B T H K).length = X.length:=serR_len (N:=N) hBX
 have hev:=evS9_av (p:=(p0,p1)) hvp hsv
 have KC:=Lib.hid (fun w a b c=>Coefficients_ok N T T (.slice pl L.length cl) (.slice po O.length co) (.slice px X.length cx) L O X K w a b c htv hXN hvx hvt (by omega))
 have KR:=Lib.hid (fun w a b c=>Remainder_ok N T H (.slice pl L.length cl) (.slice po O.length co) (.slice pb B.length cb) L O B K w a b c htv hBN hvb ht1 ht2 h0 h1 hK)
 have KP:=Lib.hid (fun w=>(show Calls Tryz.prog 75 #[.int .i64 T] w fun e w'=>e = .returned (.agg #[.int .i64 T,.int .i64 T])∧Below w.heap.size w w' from pt_num w (by omega) (by omega)))
 have KX:=Lib.hid (fun v vr us B0 w (hR:B0 ≤ w.heap.size) a b c=>extended_ok v vr (serI L O X (T,T) K) (remI (serI L O B (T,T+H) (K+1))) us B0 w (by omega) (by omega) (fun r hr=>by have:=hrw r hr; omega) hR a b c)
 have KE:=Lib.hid (fun vs w a=>Eval_ok vs (serR L O X B T H K) p0 p1 w a (by omega) (fun r hr=>by have:=hsr r hr; omega) hsv hvp)
 have KS:=Lib.hid (fun va eb w a b c=>restr_ok va (.slice pb B.length cb) (evS9 (p0,p1) (serR L O X B T H K)) B eb w a b c (by rw [evS9_len]; omega) (by rw [evS9_len]; omega) hev hvb)
 have HSL:=Lib.hid hsl
 have HRL:=Lib.hid hrl
 have HSR:=Lib.hid hsr
 have HSRL:=Lib.hid hsrl
 have HBX:=Lib.hid hBX
 have HK8:=Lib.hid hK
 have HB6':=Lib.hid (show X.length ≤ 6 by omega)
 have hE:Below w.heap.size w ((w.alloc (.cells #[.int .i64 N,.slice pl L.length cl,.slice po O.length co] 39)).alloc (.cells #[.int .i64 T,.int .i64 H,.int .i64 p0,.int .i64 p1,.int .i64 K] 83)):=allocs_below [.cells #[.int .i64 N,.slice pl L.length cl,.slice po O.length co] 39,.cells #[.int .i64 T,.int .i64 H,.int .i64 p0,.int .i64 p1,.int .i64 K] 83] w
 have HC:=Lib.hid (show Blk ((w.alloc (.cells #[.int .i64 N,.slice pl L.length cl,.slice po O.length co] 39)).alloc (.cells #[.int .i64 T,.int .i64 H,.int .i64 p0,.int .i64 p1,.int .i64 K] 83)) (w.heap.size) (.cells #[.int .i64 N,.slice pl L.length cl,.slice po O.length co] 39) from allocs_at [.cells #[.int .i64 N,.slice pl L.length cl,.slice po O.length co] 39,.cells #[.int .i64 T,.int .i64 H,.int .i64 p0,.int .i64 p1,.int .i64 K] 83] w 0 _ rfl)
 have HT:=Lib.hid (show Blk ((w.alloc (.cells #[.int .i64 N,.slice pl L.length cl,.slice po O.length co] 39)).alloc (.cells #[.int .i64 T,.int .i64 H,.int .i64 p0,.int .i64 p1,.int .i64 K] 83)) (w.heap.size+1) (.cells #[.int .i64 T,.int .i64 H,.int .i64 p0,.int .i64 p1,.int .i64 K] 83) from allocs_at [.cells #[.int .i64 N,.slice pl L.length cl,.slice po O.length co] 39,.cells #[.int .i64 T,.int .i64 H,.int .i64 p0,.int .i64 p1,.int .i64 K] 83] w 1 _ rfl)
 have HW:=Lib.hid hE
 have HL:=Lib.hid (hl.grow hE)
 have HO:=Lib.hid (ho.grow hE)
 have HX:=Lib.hid (hx.grow hE)
 have HBV:=Lib.hid (hb.grow hE)
 clear hE hl ho hx hb htv hXN hBN hvx hvb ht1 ht2 h0 h1 hK hn1 hn6 h400 hon hvl hout hBX hvt hvt2 hrw hsl hrl hsv hsr hsrl hev hvp
 go_enter Tryz.func71,Tryz.ntmps71
 go_wp2_with (fail)
 generalize hW0:World.alloc (World.alloc w _) _ = W0 at *
 clear hW0
 have x0:=fun g:Grown W0=>heapN_cellj (HC.out.grow g.h) (k:=0) rfl
 have x1:=fun g:Grown W0=>heapN_cellj (HC.out.grow g.h) (k:=1) rfl
 have x2:=fun g:Grown W0=>heapN_cellj (HC.out.grow g.h) (k:=2) rfl
 have y0:=fun g:Grown W0=>heapN_cellj (HT.out.grow g.h) (k:=0) rfl
 have y1:=fun g:Grown W0=>heapN_cellj (HT.out.grow g.h) (k:=1) rfl
 have y2:=fun g:Grown W0=>heapN_cellj (HT.out.grow g.h) (k:=2) rfl
 have y3:=fun g:Grown W0=>heapN_cellj (HT.out.grow g.h) (k:=3) rfl
 have y4:=fun g:Grown W0=>heapN_cellj (HT.out.grow g.h) (k:=4) rfl
 refine region_pred (lk [(12,fun z_ _=>z_ = .agg #[.int .i64 N,.slice pl L.length cl,.slice po O.length co]),(13,fun z_ _=>z_ = .slice px X.length cx),(14,fun z_ _=>z_ = .pointer (some ⟨w.heap.size+1,0,none⟩)),(15,fun z_ _=>z_ = .int .i64 T),(16,fun z_ _=>z_ = .agg #[.int .i64 T,.int .i64 T]),(17,fun z_ _=>z_ = .pointer (some ⟨w.heap.size+1,4,none⟩)),(18,fun z_ _=>z_ = .int .i64 (K:Int)),(19,fun z_ w'=>∃ sus,OwT encB 2 59 25 W0.heap.size w' z_ (serI L O X (T,T) K) sus),(9,fun z_ w'=>∃ sus,OwT encB 2 59 25 W0.heap.size w' z_ (serI L O X (T,T) K) sus)]) (by kernel_rfl) (by kernel_rfl) (lk_steady _ ⟨steady_eq _,steady_eq _,steady_eq _,steady_eq _,steady_eq _,steady_eq _,steady_eq _,fun u w1 w2 hb ⟨s_,h_⟩=>⟨s_,h_.grow hb⟩,fun u w1 w2 hb ⟨s_,h_⟩=>⟨s_,h_.grow hb⟩,trivial⟩) ?_ ?_
 ·refine ⟨?_,?_,?_,?_,?_,?_,?_,?_,?_,trivial⟩
  ·refine ob_plain [4] rfl rfl fun aa g h=>?_
   have yy0:=seen_out (v:=.pointer (some ⟨w.heap.size,0,none⟩)) rfl rfl h.1
   exact tvS (by simp [go_sem,yy0,x0 g,x1 g,x2 g]) rfl
  ·refine ob_plain [1] rfl rfl fun aa g h=>?_
   have yy0:=seen_out (v:=.slice px X.length cx) rfl rfl h.1
   exact tvS (by simp [go_sem,yy0]) rfl
  ·refine ob_plain [7] rfl rfl fun aa g h=>?_
   have yy0:=seen_out (v:=.pointer (some ⟨w.heap.size+1,0,none⟩)) rfl rfl h.1
   exact tvS (by simp [go_sem,yy0]) rfl
  ·refine ob_plain [14] rfl rfl fun aa g h=>?_
   obtain ⟨_,yy0,rfl⟩:=seen_in rfl h.1
   exact tvS (by simp [go_sem,yy0,y0 g]) rfl
  ·refine ob_plain [15] rfl rfl fun aa g h=>?_
   obtain ⟨_,yy0,rfl⟩:=seen_in rfl h.1
   refine tupon_enter (f:=75) (args:=#[.int .i64 T]) (by simp [go_sem,yy0]) rfl ?_
   exact (KP.out g.w).mono fun e w' ⟨he,hB⟩=>⟨_,he,hB,rfl⟩
  ·refine ob_plain [7] rfl rfl fun aa g h=>?_
   have yy0:=seen_out (v:=.pointer (some ⟨w.heap.size+1,0,none⟩)) rfl rfl h.1
   exact tvS (by simp [go_sem,yy0]) rfl
  ·refine ob_plain [17] rfl rfl fun aa g h=>?_
   obtain ⟨_,yy0,rfl⟩:=seen_in rfl h.1
   exact tvS (by simp [go_sem,yy0,y4 g]) rfl
  ·refine ob_plain [12,13,16,18] rfl rfl fun aa g h=>?_
   obtain ⟨_,yy0,rfl⟩:=seen_in rfl h.1
   obtain ⟨_,yy1,rfl⟩:=seen_in rfl h.2.1
   obtain ⟨_,yy2,rfl⟩:=seen_in rfl h.2.2.1
   obtain ⟨_,yy3,rfl⟩:=seen_in rfl h.2.2.2.1
   refine tupon_enter (f:=90) (args:=#[.agg #[.int .i64 N,.slice pl L.length cl,.slice po O.length co],.slice px X.length cx,.agg #[.int .i64 T,.int .i64 T],.int .i64 (K:Int)]) (by simp [go_sem,yy0,yy1,yy2,yy3]) rfl ?_
   exact (KC.out g.w (HL.out.grow g.h) (HO.out.grow g.h) (HX.out.grow g.h)).mono fun e w' ⟨sv,sus,he,hO,hB⟩=>⟨_,he,hB,⟨sus,hO.base g.h.size⟩⟩
  ·refine ob_plain [19] rfl rfl fun aa g h=>?_
   obtain ⟨v19,yy0,⟨sus,hO⟩⟩:=seen_in rfl h.1
   exact tupon_value (v:=v19) (by simp [go_sem,yy0]) (Below.refl _ _) ⟨sus,hO⟩
 rintro w5 hB _ rfl _ rfl _ rfl _ rfl _ rfl _ rfl _ rfl v19 ⟨sus,hO⟩ v9 ⟨sus9,hO9⟩
 simp only [Act.put,List.setIfInBounds_toArray,List.set_cons_succ,List.set_cons_zero,List.filterMap_nil,finP]
 clear x0 x1 x2 y0 y1 y2 y3 y4 hO sus
 obtain ⟨p9,c9,rfl⟩:=own_slice hO9.out
 have x0:=heapN_cellj (HC.out.grow hB) (k:=0) rfl
 have x1:=heapN_cellj (HC.out.grow hB) (k:=1) rfl
 have x2:=heapN_cellj (HC.out.grow hB) (k:=2) rfl
 have y0:=heapN_cellj (HT.out.grow hB) (k:=0) rfl
 have y1:=heapN_cellj (HT.out.grow hB) (k:=1) rfl
 have y4:=heapN_cellj (HT.out.grow hB) (k:=4) rfl
 have KR1:=Lib.hid (KR.out w5 (HL.out.grow hB) (HO.out.grow hB) (HBV.out.grow hB))
 have HB5:=Lib.hid hB
 have HO9:=Lib.hid hO9
 clear hB hO9 KR KC KP
 go_wp2_with (fail)
 refine KR1.out.mono ?_
 rintro e w6 ⟨p6,c6,rfl,ho6,hB6⟩
 have hfar:∀ u ∈ sus9,(Value.slice p6 B.length c6).ownBlock = none ∨ (Value.slice p6 B.length c6).ownBlock ≠ u.ownBlock:=fun u hu=>by
  rcases e:(Value.slice p6 B.length c6).ownBlock with _ | b
  ·exact .inl rfl
  ·refine .inr fun e2=>?_
   obtain ⟨r,_,h⟩:=HO9.out.mem hu
   have a1:=(h.lt b e2.symm).2
   have a2:=(ho6.lt b e).1
   omega
 have HB6:=Lib.hid (HB5.out.trans (hB6.mono HB5.out.size))
 have HO9:=Lib.hid (HO9.out.grow hB6)
 have HS56:=Lib.hid (show W0.heap.size ≤ w5.heap.size from HB5.out.size)
 have HO6:=Lib.hid (own_base ho6 HS56.out)
 have HFAR:=Lib.hid hfar
 have HFU:=Lib.hid (show ∀ u ∈ sus9,∀ b,u.ownBlock = some b→b < w6.heap.size from fun u hu b e=>by
  obtain ⟨r,_,h⟩:=HO9.out.mem hu
  exact (h.lt b e).2)
 clear KR1 x0 x1 x2 y0 y1 y4 hfar ho6 hB6
 go_wp2_with (fail)
 refine (restriction_ok _ _ _ _).mono ?_
 rintro e w7 ⟨rfl,rfl⟩
 obtain ⟨W7,hW7⟩:∃ W7,w6.alloc (.cells #[.slice pb B.length cb] 25) = W7:=⟨_,rfl⟩
 have hb7:Below w6.heap.size w6 W7:=by rw [← hW7]; exact (Below.refl _ _).alloc (Nat.le_refl _) _
 have hx7:W7.heap[w6.heap.size]? = some (.cells #[.slice pb B.length cb] 25 (0,0)):=by rw [← hW7]; exact World.alloc_heap_new w6 _
 have hs7:W7.heap.size = w6.heap.size+1:=by rw [← hW7]; simp
 rw [hW7]
 have HB7:=Lib.hid (HB6.out.trans (hb7.mono HB6.out.size))
 have HO9:=Lib.hid (HO9.out.grow hb7)
 have HO6:=Lib.hid (own_keptN HO6.out hb7)
 have hfu:∀ u ∈ sus9,u.ownBlock ≠ some w6.heap.size:=fun u hu e=>by
  have hl:=HFU.out u hu _ e
  omega
 have hdr:Below W7.heap.size W7 W7.drew:=(Below.refl _ _).drew
 have HBd:=Lib.hid (HB7.out.trans (hdr.mono HB7.out.size))
 have hxd:W7.drew.heap[w6.heap.size]? = some (.cells #[.slice pb B.length cb] 25 (0,0)):=(hdr.block _ (by omega)).trans hx7
 have HXD:=Lib.hid hxd
 have KX1:=Lib.hid (KX.out (.slice p9 (serI L O X (T,T) K).length c9) (.slice p6 B.length c6) sus9 W0.heap.size W7.drew HBd.out.size (HO9.out.grow hdr) (by rw [remI_len,ser_len]; exact own_keptN HO6.out hdr) HFAR.out)
 have KSF:∀ w',Below W0.heap.size W0 w'→(fun w':World=>w'.cell? ⟨w.heap.size+1,2,none⟩ = some (.int .i64 p0)∧w'.cell? ⟨w.heap.size+1,3,none⟩ = some (.int .i64 p1)) w':=fun w' h=>⟨heapN_cellj (HT.out.grow h) (k:=2) rfl,heapN_cellj (HT.out.grow h) (k:=3) rfl⟩
 have KS0:=Lib.hid (KSF _ HBd.out)
 have KSF:=Lib.hid KSF
 have HFU:=Lib.hid hfu
 have HSZD:=Lib.hid (show w6.heap.size < W7.drew.heap.size from (Array.getElem?_eq_some_iff.1 hxd).1)
 clear hfu hdr hxd hb7 hx7 hs7 hW7 KX HO9 HO6 HFAR HB7 HB6
 go_wp2_with (fail)
 go_region_held3 (fun w':World=>w'.cell? ⟨w.heap.size+1,2,none⟩ = some (.int .i64 p0)∧w'.cell? ⟨w.heap.size+1,3,none⟩ = some (.int .i64 p1)) (first | exact KS0.out | exact KS8.out | exact KS9.out | exact KS10.out) (first | (refine KX1.out.mono ?_; rintro e w8 ⟨rv,rus,rfl,h8,hB8,hK8⟩; have hsq:=h8.sq9 (by rw [show (extI (serI L O X (T,T) K) (remI (serI L O B (T,T+H) (K+1)))).length = X.length from HSRL.out]; unfold maxLen; have:=HB6'.out; omega) (fun r hr=>(by unfold maxLen; have:=HSR.out r hr; have:=HK8.out; omega)); have HSQ:=Lib.hid hsq; obtain ⟨pz,cz,rfl⟩:=own_slice h8.out; have HB8:=Lib.hid (HBd.out.trans hB8); have KS8:=Lib.hid (KSF.out _ HB8.out); have HX8:=Lib.hid ((hK8 _ HSZD.out HFU.out).trans HXD.out); clear h8 hB8 hK8 hsq) | (refine (KE.out _ _ HSQ.out).mono ?_; rintro e w9 ⟨v9,rfl,ho9,hB9⟩; obtain ⟨pe,ce,rfl⟩:=own_slice ho9; have HO9:=Lib.hid ho9; have HB9:=Lib.hid (HB8.out.trans (hB9.mono HB8.out.size)); have KS9:=Lib.hid (KSF.out _ HB9.out); have HX9:=Lib.hid ((hB9.block _ (Array.getElem?_eq_some_iff.1 HX8.out).1).trans HX8.out); clear ho9 hB9) | (refine (KS.out _ _ _ (Rx.own encB_len (by rw [evS9_len]; exact HO9.out) (by rw [evS9_len,HSRL.out]; unfold maxLen; have:=HB6'.out; omega)) (HBV.out.grow HB9.out) HX9.out).mono ?_; rintro e w10 ⟨pf,cf,rfl,ho10,hB10⟩; have HO10:=Lib.hid ho10; have HB10:=Lib.hid (HB9.out.trans (hB10.mono HB9.out.size)); have KS10:=Lib.hid (KSF.out _ HB10.out); have HS9:=Lib.hid (Nat.le_trans HW.out.size HB9.out.size); clear ho10 hB10))
 all_goals
  go_wp2_with (fail)
  go_ret
  have hz:=HO10.out
  rw [show (evS9 (p0,p1) (serR L O X B T H K)).length = X.length from by rw [evS9_len]; exact HSRL.out] at hz ⊢
  exact ⟨_,_,rfl,own_base hz HS9.out,below_then HW.out HB10.out⟩
end Go.Proofs.YtekjflfkbgklhaaGreat
namespace Go.Proofs.YtekjflfkbgklhaaGreat
open Go.ChangeShapes Go.WideShapes Go.ChangeAt Go.RowKit
set_option linter.unusedVariables false
set_option linter.unusedSimpArgs false
set_option maxRecDepth 100000
theorem cz_one:∀ (l:List (Int × Int)),∀ u ∈ cz l,u.oneCell' = true
 | [],u,h=>by simp [cz] at h
 | p :: l,u,h=>by
  simp only [cz,List.mem_cons] at h
  rcases h with rfl | rfl | h
  ·rfl
  ·rfl
  ·exact cz_one l u h
theorem add_off (b o j:Nat):(⟨b,o,none⟩:Addr).add j = ⟨b,o+j,none⟩:=by
 by_cases h:j = 0
 ·subst h; simp [Addr.add]
 ·simp [Addr.add,h]
theorem cz_cells {w:World} {l:List (Int × Int)} {b o:Nat} (h:∀ k x,l[k]? = some x→∃ b' o',(some ⟨b,o,none⟩:Option Addr) = some ⟨b',o',none⟩∧b' < w.heap.size∧w.cell? ⟨b',o' + k * 2,none⟩ = some (.int .i64 x.1)∧w.cell? ⟨b',o' + k * 2+1,none⟩ = some (.int .i64 x.2)) :
  ∀ j u,(cz l)[j]? = some u→w.cell? ((⟨b,o,none⟩:Addr).add j) = some u:=by
 intro j u hj
 have hjl:j < l.length * 2:=by rw [← cz_len]; exact (List.getElem?_eq_some_iff.1 hj).1
 have hk:j / 2 < l.length:=by omega
 obtain ⟨b',o',e,h1,h2,h3⟩:=h (j / 2) l[j / 2] (List.getElem?_eq_getElem hk)
 obtain ⟨g1,g2⟩:=cz_get l (j / 2) l[j / 2] (List.getElem?_eq_getElem hk)
 simp only [Option.some.injEq,Addr.mk.injEq,and_true] at e
 obtain ⟨rfl,rfl⟩:=e
 rcases Nat.mod_two_eq_zero_or_one j with hm | hm
 ·have hj2:j / 2 * 2 = j:=by omega
  rw [hj2] at g1 h2
  rw [g1] at hj
  rw [← hj]
  rw [add_off]
  exact h2
 ·have hj2:j / 2 * 2+1 = j:=by omega
  rw [hj2] at g2
  rw [g2] at hj
  rw [← hj]
  have:o+j / 2 * 2+1 = o+j:=by omega
  rw [this] at h3
  rw [add_off]
  exact h3

attribute [local irreducible] Calls
set_option maxHeartbeats 2000000 in
theorem clone_iv (v:Value) (l:List (Int × Int)) (w:World) (hv:Bx w v l) (hne:0 < l.length) (hsm:l.length ≤ 1000) :
  Calls Tryz.prog 73 #[v] w fun e W'=>∃ g cap,e = .returned (.slice (some ⟨g,0,none⟩) l.length cap)∧W'.ownsRow w.heap.size 59 2 (.slice (some ⟨g,0,none⟩) l.length cap) l.length (cz l)∧Below w.heap.size w W':=by
 obtain ⟨hl,p,c,rfl,hp⟩:=hv
 obtain ⟨b,o,x,y,rfl,k1,hb,k2,k3⟩:=Bx.at (c:=0) (n:=0) hp hne (Below.refl _ _)
 clear k1 k2 k3 hl
 obtain ⟨i0,hi,hz0,hz1,hz2⟩:=info_parts info_iv
 have hcs:∀ j u,(cz l)[j]? = some u→w.cell? ((⟨b,o,none⟩:Addr).add j) = some u:=cz_cells hp
 have hone:∀ u ∈ cz l,u.oneCell' = true:=cz_one l
 have hlen:(cz l).length = l.length * 2:=cz_len l
 clear hp
 generalize cz l = cs at *
 have HL:=Lib.hid hlen
 have HC:=Lib.hid hcs
 have HO:=Lib.hid hone
 clear hlen hcs hone
 have hown:(w.alloc (.cells #[] 59)).ownsRow w.heap.size 59 2 (.slice (some ⟨w.heap.size,0,none⟩) 0 0) 0 []:=World.ownsRow_made (e:=59) (size:=2) w #[] 0 (Nat.le_refl _) (by decide) rfl
 have hcmp:(binOp BinOp.eql 25 (.slice (some ⟨b,o,none⟩) l.length c) (.slice none 0 0)).run Tryz.prog w = .ok (.bool false) w:=by first | rfl | simp [binOp,go_sem]
 go_enter Tryz.func73,Tryz.ntmps73
 go_wp2_with (at_builtin; refine wpList_append_own _ rfl (.tmp 5) (.tmp 6) 25 rfl w.heap.size 59 i0 (.agg #[.int .i64 0,.int .i64 0]) 2 16 Tryz.underlying25 hi hz0 hz1 hz2 rfl (by decide) (.slice (some ⟨w.heap.size,0,none⟩) 0 0) 0 _ rfl hown ⟨b,o,none⟩ l.length c cs rfl HL.out ?_ HO.out (by unfold maxLen; omega) (by omega) (by simp) ?_)
 ·intro j u hj
  have hw:=HC.out j u hj
  rw [add_off] at hw ⊢
  exact (((Below.refl w.heap.size w).alloc (Nat.le_refl _) _).cell (p:=⟨b,o+j,none⟩) hb).trans hw
 intro v' w1 hown' hgrow _
 obtain ⟨g',cap',rfl⟩:∃ g cap,v' = .slice (some ⟨g,0,none⟩) l.length cap:=by
  rcases hown'.2 with ⟨_,h0⟩ | ⟨g,cap,_,h,_⟩
  ·omega
  ·exact ⟨g,cap,h⟩
 have hB:Below w.heap.size w w1:=Below.grown ((Below.refl _ _).alloc (Nat.le_refl _) _) hgrow (by simp) (fun k hk=>(hown.lt k hk).1)
 go_wp2_with (fail)
 go_ret
 exact ⟨_,_,rfl,by simpa using hown',hB⟩
end Go.Proofs.YtekjflfkbgklhaaGreat
namespace Go.Proofs.YtekjflfkbgklhaaGreat
open Go.ChangeShapes Go.WideShapes Go.ChangeAt Go.RowKit
set_option linter.unusedVariables false
set_option linter.unusedSimpArgs false
set_option maxRecDepth 100000
attribute [local irreducible] Calls
end Go.Proofs.YtekjflfkbgklhaaGreat
