/-
 Gn LFe
-/
import Derived.Test.YtdfdpghdjlgghaaGreatKdw
import Derived.Test.YtdfdpghdjlgghaaGreatKdzb
import Derived.Test.YtdfdpghdjlgghaaGreatKdzk
import Derived.Test.YtdfdpghdjlgghaaGreatKdzo
import Derived.Test.YtdfdpghdjlgghaaGreatKdzp
namespace Go.Proofs.YtdfdpghdjlgghaaGreat
open Go.ChangeShapes Go.WideShapes Go.ChangeAt Go.RowKit
set_option linter.unusedVariables false
set_option linter.unusedSimpArgs false
set_option maxRecDepth 100000
attribute [local irreducible] Calls
set_option maxHeartbeats 4000000 in
theorem horizon14 (od t la m:Int) (w:World) (h0:0 ≤ od) (h1:od ≤ 255) (ht:-2147483648 ≤ t∧t ≤ 2147483647) (hl:0 ≤ la∧la ≤ 65535) (hm:t.tmod 1048576 = m):Calls Tryz.prog 58 #[.int .u8 od,.int .i32 t,.int .u16 la] w fun e w'=>e = .returned (.agg #[.int .i64 (1+od % 3),.int .i64 4096,.int .i64 1024,.int .i64 16384,.int .i64 16777216,.int .i64 m,.int .i64 (m+1+la)])∧Below w.heap.size w w':=by
 have KC:=Lib.hid (fun w=>control14 od w h0 h1)
 have b1:m < 1048576:=by rw [← hm]; exact Int.tmod_lt_of_pos t (by decide)
 have b2:-1048576 < m:=by
  have:=Int.tmod_lt_of_pos (-t) (b:=1048576) (by decide)
  rw [Int.neg_tmod,hm] at this
  omega
 have e1:IntKind.i64.wrap t = t:=wrapN _ (by omega) (by omega)
 have hE:Below w.heap.size w (w.alloc (.cells #[.int .i64 0,.int .i64 0,.int .i64 0,.int .i64 0,.int .i64 0,.int .i64 0,.int .i64 0] 49)):=(Below.refl _ _).alloc (Nat.le_refl _) _
 have HZ':=Lib.hid (show Blk (w.alloc (.cells #[.int .i64 0,.int .i64 0,.int .i64 0,.int .i64 0,.int .i64 0,.int .i64 0,.int .i64 0] 49)) w.heap.size (.cells #[.int .i64 0,.int .i64 0,.int .i64 0,.int .i64 0,.int .i64 0,.int .i64 0,.int .i64 0] 49) from World.alloc_heap_new w _)
 have HW:=Lib.hid hE
 obtain ⟨c1,hc1⟩:∃ c,1+od % 3 = c:=⟨_,rfl⟩
 rw [hc1] at KC ⊢
 clear hE h0 h1 hc1
 go_enter Tryz.func58,Tryz.ntmps58
 go_wp2_with (fail)
 refine (KC.out _).mono ?_
 rintro e w5 ⟨rfl,hB⟩
 have hz:=HZ'.out.grow hB
 have HB5:=Lib.hid (below_then HW.out hB)
 clear hB
 have HW9:=Lib.hid (below_row14 (X:=w.heap.size) HB5.out (by omega) #[.int .i64 c1,.int .i64 4096,.int .i64 1024,.int .i64 16384,.int .i64 16777216,.int .i64 m,.int .i64 (m+1+la)])
 have hs9:=setRow_heap w5 (w.heap.size) _ #[.int .i64 c1,.int .i64 4096,.int .i64 1024,.int .i64 16384,.int .i64 16777216,.int .i64 m,.int .i64 (m+1+la)] _ _ hz
 have x0:=heapN_cellj hs9 (k:=0) rfl
 have x1:=heapN_cellj hs9 (k:=1) rfl
 have x2:=heapN_cellj hs9 (k:=2) rfl
 have x3:=heapN_cellj hs9 (k:=3) rfl
 have x4:=heapN_cellj hs9 (k:=4) rfl
 have x5:=heapN_cellj hs9 (k:=5) rfl
 have x6:=heapN_cellj hs9 (k:=6) rfl
 clear hs9
 go_wp2_with (first | (refine wpList_store_row rfl 49 (.tmp 6) (.tmp 19) rfl (w.heap.size) #[.int .i64 c1,.int .i64 4096,.int .i64 1024,.int .i64 16384,.int .i64 16777216,.int .i64 m,.int .i64 (m+1+la)] rfl rfl 49 _ (show w5.heap[w.heap.size]? = some (.cells _ 49 (0,0)) from hz) (by kernel_rfl) rfl (by first | rfl | decide | simp [Value.oneCell']) ?_))
 exact bodyPost_ret (v:=.agg #[.int .i64 c1,.int .i64 4096,.int .i64 1024,.int .i64 16384,.int .i64 16777216,.int .i64 m,.int .i64 (m+1+la)]) (by simp [results,Tryz.results58,go_sem,x0,x1,x2,x3,x4,x5,x6]) rfl ⟨rfl,HW9.out⟩
set_option maxHeartbeats 16000000 in
theorem made14l (n0 od t la m:Int) (vL vO vX:Value) (Lr:List Is) (outr:List Int) (Xr:List (Int × Int)) (w:World) (hL:Ix w vL Lr) (hO:Px w vO outr) (hX:Vx w vX Xr) (h0:0 ≤ od) (h1:od ≤ 255) (ht:-2147483648 ≤ t∧t ≤ 2147483647) (hl:0 ≤ la∧la ≤ 65535) (hm:t.tmod 1048576 = m) :
  Calls Tryz.prog 18 #[.agg #[.int .i64 n0,vL,vO,vX,.int .u8 od,.int .i32 t,.int .u16 la]] w fun e w'=>∃ (N:Nat) (p1 p2 p3:Option Addr) (n1 n2 n3 c1 c2 c3:Nat),e = .returned (.tuple #[.agg #[.int .i64 N,.slice p1 n1 c1,.slice p2 n2 c2],.slice p3 n3 c3,.agg #[.int .i64 (1+od % 3),.int .i64 4096,.int .i64 1024,.int .i64 16384,.int .i64 16777216,.int .i64 m,.int .i64 (m+1+la)]])∧Below w.heap.size w w':=by
 obtain ⟨pl,cl,rfl⟩:=hL.cut
 obtain ⟨po,co,rfl⟩:=hO.cut
 obtain ⟨px,cx,rfl⟩:=hX.cut
 have KH:=Lib.hid (fun w=>horizon14 od t la m w h0 h1 ht hl hm)
 have KM:=Lib.hid (fun w a b=>made8_ok n0 (.slice pl Lr.length cl) (.slice po outr.length co) Lr outr 10 w a b (by decide) (by decide))
 have KB:=Lib.hid (fun N w hN a=>boxes_ok (.slice px Xr.length cx) Xr N 4096 w a hN (by decide) (by decide))
 generalize hnl:Lr.length = nl at *
 generalize hno:outr.length = no at *
 generalize hnx:Xr.length = nx at *
 have HL0:=Lib.hid hL
 have HO0:=Lib.hid hO
 have HX0:=Lib.hid hX
 clear hL hO hX h0 h1 ht hl hm hnl hno hnx
 have hE:Below w.heap.size w (((w.alloc (.cells #[.int .i64 n0,.slice pl nl cl,.slice po no co,.slice px nx cx,.int .u8 od,.int .i32 t,.int .u16 la] 47)).alloc (.cells #[.int .i64 0,.slice none 0 0,.slice none 0 0] 35)).alloc (.cells #[.int .i64 0,.int .i64 0,.int .i64 0,.int .i64 0,.int .i64 0,.int .i64 0,.int .i64 0] 49)):=allocs_below [.cells #[.int .i64 n0,.slice pl nl cl,.slice po no co,.slice px nx cx,.int .u8 od,.int .i32 t,.int .u16 la] 47,.cells #[.int .i64 0,.slice none 0 0,.slice none 0 0] 35,.cells #[.int .i64 0,.int .i64 0,.int .i64 0,.int .i64 0,.int .i64 0,.int .i64 0,.int .i64 0] 49] w
 have HA:=Lib.hid (show Blk (((w.alloc (.cells #[.int .i64 n0,.slice pl nl cl,.slice po no co,.slice px nx cx,.int .u8 od,.int .i32 t,.int .u16 la] 47)).alloc (.cells #[.int .i64 0,.slice none 0 0,.slice none 0 0] 35)).alloc (.cells #[.int .i64 0,.int .i64 0,.int .i64 0,.int .i64 0,.int .i64 0,.int .i64 0,.int .i64 0] 49)) (w.heap.size) (.cells #[.int .i64 n0,.slice pl nl cl,.slice po no co,.slice px nx cx,.int .u8 od,.int .i32 t,.int .u16 la] 47) from allocs_at [.cells #[.int .i64 n0,.slice pl nl cl,.slice po no co,.slice px nx cx,.int .u8 od,.int .i32 t,.int .u16 la] 47,.cells #[.int .i64 0,.slice none 0 0,.slice none 0 0] 35,.cells #[.int .i64 0,.int .i64 0,.int .i64 0,.int .i64 0,.int .i64 0,.int .i64 0,.int .i64 0] 49] w 0 _ rfl)
 have HR1:=Lib.hid (show Blk (((w.alloc (.cells #[.int .i64 n0,.slice pl nl cl,.slice po no co,.slice px nx cx,.int .u8 od,.int .i32 t,.int .u16 la] 47)).alloc (.cells #[.int .i64 0,.slice none 0 0,.slice none 0 0] 35)).alloc (.cells #[.int .i64 0,.int .i64 0,.int .i64 0,.int .i64 0,.int .i64 0,.int .i64 0,.int .i64 0] 49)) (w.heap.size+1) (.cells #[.int .i64 0,.slice none 0 0,.slice none 0 0] 35) from allocs_at [.cells #[.int .i64 n0,.slice pl nl cl,.slice po no co,.slice px nx cx,.int .u8 od,.int .i32 t,.int .u16 la] 47,.cells #[.int .i64 0,.slice none 0 0,.slice none 0 0] 35,.cells #[.int .i64 0,.int .i64 0,.int .i64 0,.int .i64 0,.int .i64 0,.int .i64 0,.int .i64 0] 49] w 1 _ rfl)
 have HR2:=Lib.hid (show Blk (((w.alloc (.cells #[.int .i64 n0,.slice pl nl cl,.slice po no co,.slice px nx cx,.int .u8 od,.int .i32 t,.int .u16 la] 47)).alloc (.cells #[.int .i64 0,.slice none 0 0,.slice none 0 0] 35)).alloc (.cells #[.int .i64 0,.int .i64 0,.int .i64 0,.int .i64 0,.int .i64 0,.int .i64 0,.int .i64 0] 49)) (w.heap.size+1+1) (.cells #[.int .i64 0,.int .i64 0,.int .i64 0,.int .i64 0,.int .i64 0,.int .i64 0,.int .i64 0] 49) from allocs_at [.cells #[.int .i64 n0,.slice pl nl cl,.slice po no co,.slice px nx cx,.int .u8 od,.int .i32 t,.int .u16 la] 47,.cells #[.int .i64 0,.slice none 0 0,.slice none 0 0] 35,.cells #[.int .i64 0,.int .i64 0,.int .i64 0,.int .i64 0,.int .i64 0,.int .i64 0,.int .i64 0] 49] w 2 _ rfl)
 have HW:=Lib.hid hE
 have HLA:=Lib.hid (HL0.out.grow hE)
 have HOA:=Lib.hid (HO0.out.grow hE)
 have a0:=heapN_cellj HA.out (k:=0) rfl
 have a1:=heapN_cellj HA.out (k:=1) rfl
 have a2:=heapN_cellj HA.out (k:=2) rfl
 clear hE
 go_enter Tryz.func18,Tryz.ntmps18
 go_wp2_with (fail)
 refine (KM.out _ HLA.out HOA.out).mono ?_
 rintro e w5 ⟨N,Tm,om,u,r,rfl,hu,hr,htv,hN,-,-,hB⟩
 obtain ⟨p1,c1,rfl⟩:=own_slice hu
 obtain ⟨p2,c2,rfl⟩:=own_slice hr
 generalize Tm.length = n1 at *
 generalize om.length = n2 at *
 obtain ⟨W6,hW6⟩:∃ W6,w5.alloc (.cells #[.int .i64 N,.slice p1 n1 c1,.slice p2 n2 c2] 35) = W6:=⟨_,rfl⟩
 have hb6:Below w5.heap.size w5 W6:=by rw [← hW6]; exact (Below.refl _ _).alloc (Nat.le_refl _) _
 have HS6:=Lib.hid (show Blk W6 w5.heap.size (.cells #[.int .i64 N,.slice p1 n1 c1,.slice p2 n2 c2] 35) by rw [← hW6]; exact World.alloc_heap_new w5 _)
 have hb56:=hB.trans (hb6.mono hB.size)
 have HB6:=Lib.hid (below_then HW.out hb56)
 have HA6:=Lib.hid (HA.out.grow hb56)
 have HR1:=Lib.hid (HR1.out.grow hb56)
 have HR2:=Lib.hid (HR2.out.grow hb56)
 have HX6:=Lib.hid (HX0.out.grow HB6.out)
 have HN:=Lib.hid (show N ≤ 6 by omega)
 clear hu hr htv hN hB hb6 hb56 a0 a1 a2
 go_wp2_with (fail)
 clear hW6
 have a0:=fun g:Grown W6=>heapN_cellj (HA6.out.grow g.h) (k:=0) rfl
 have a1:=fun g:Grown W6=>heapN_cellj (HA6.out.grow g.h) (k:=1) rfl
 have a2:=fun g:Grown W6=>heapN_cellj (HA6.out.grow g.h) (k:=2) rfl
 have a3:=fun g:Grown W6=>heapN_cellj (HA6.out.grow g.h) (k:=3) rfl
 have a4:=fun g:Grown W6=>heapN_cellj (HA6.out.grow g.h) (k:=4) rfl
 have a5:=fun g:Grown W6=>heapN_cellj (HA6.out.grow g.h) (k:=5) rfl
 have a6:=fun g:Grown W6=>heapN_cellj (HA6.out.grow g.h) (k:=6) rfl
 have s0:=fun g:Grown W6=>heapN_cellj (HS6.out.grow g.h) (k:=0) rfl
 have s1:=fun g:Grown W6=>heapN_cellj (HS6.out.grow g.h) (k:=1) rfl
 have s2:=fun g:Grown W6=>heapN_cellj (HS6.out.grow g.h) (k:=2) rfl
 refine region_pred_n 13 (lk [(9,fun z_ _=>z_ = .agg #[.int .i64 N,.slice p1 n1 c1,.slice p2 n2 c2]),(10,fun z_ _=>z_ = .pointer (some ⟨w.heap.size,3,none⟩)),(11,fun z_ _=>z_ = .slice px nx cx),(12,fun z_ _=>z_ = .pointer (some ⟨w5.heap.size,0,none⟩)),(13,fun z_ _=>z_ = .int .i64 N),(14,fun z_ _=>∃ p_ c_,z_ = .slice p_ N c_),(15,fun z_ _=>z_ = .pointer (some ⟨w.heap.size,4,none⟩)),(16,fun z_ _=>z_ = .int .u8 od),(17,fun z_ _=>z_ = .pointer (some ⟨w.heap.size,5,none⟩)),(18,fun z_ _=>z_ = .int .i32 t),(19,fun z_ _=>z_ = .pointer (some ⟨w.heap.size,6,none⟩)),(20,fun z_ _=>z_ = .int .u16 la),(21,fun z_ _=>z_ = .agg #[.int .i64 (1+od % 3),.int .i64 4096,.int .i64 1024,.int .i64 16384,.int .i64 16777216,.int .i64 m,.int .i64 (m+1+la)])]) (by kernel_rfl) (by kernel_rfl) (lk_steady _ ⟨steady_eq _,steady_eq _,steady_eq _,steady_eq _,steady_eq _,fun u w1 w2 hb h=>h,steady_eq _,steady_eq _,steady_eq _,steady_eq _,steady_eq _,steady_eq _,steady_eq _,trivial⟩) ?_ ?_
 ·refine ⟨?_,?_,?_,?_,?_,?_,?_,?_,?_,?_,?_,?_,?_,trivial⟩
  ·refine ob_plain [5] rfl rfl fun aa g h=>?_
   have yy0:=seen_out (v:=.pointer (some ⟨w5.heap.size,0,none⟩)) rfl rfl h.1
   exact tvS (by simp [go_sem,yy0,s0 g,s1 g,s2 g]) rfl
  ·refine ob_plain [1] rfl rfl fun aa g h=>?_
   have yy0:=seen_out (v:=.pointer (some ⟨w.heap.size,0,none⟩)) rfl rfl h.1
   exact tvS (by simp [go_sem,yy0]) rfl
  ·refine ob_plain [10] rfl rfl fun aa g h=>?_
   obtain ⟨_,yy0,rfl⟩:=seen_in rfl h.1
   exact tvS (by simp [go_sem,yy0,a3 g]) rfl
  ·refine ob_plain [5] rfl rfl fun aa g h=>?_
   have yy0:=seen_out (v:=.pointer (some ⟨w5.heap.size,0,none⟩)) rfl rfl h.1
   exact tvS (by simp [go_sem,yy0]) rfl
  ·refine ob_plain [12] rfl rfl fun aa g h=>?_
   obtain ⟨_,yy0,rfl⟩:=seen_in rfl h.1
   exact tvS (by simp [go_sem,yy0,s0 g]) rfl
  ·refine ob_plain [11,13] rfl rfl fun aa g h=>?_
   obtain ⟨_,yy0,rfl⟩:=seen_in rfl h.1
   obtain ⟨_,yy1,rfl⟩:=seen_in rfl h.2.1
   refine tupon_enter (f:=33) (args:=#[.slice px nx cx,.int .i64 N,.int .i64 4096]) (by simp [go_sem,yy0,yy1]) rfl ?_
   exact (KB.out N g.w HN.out (HX6.out.grow g.h)).mono fun e w' ⟨p_,c_,he,_,hB⟩=>⟨_,he,hB,⟨_,_,rfl⟩⟩
  ·refine ob_plain [1] rfl rfl fun aa g h=>?_
   have yy0:=seen_out (v:=.pointer (some ⟨w.heap.size,0,none⟩)) rfl rfl h.1
   exact tvS (by simp [go_sem,yy0]) rfl
  ·refine ob_plain [15] rfl rfl fun aa g h=>?_
   obtain ⟨_,yy0,rfl⟩:=seen_in rfl h.1
   exact tvS (by simp [go_sem,yy0,a4 g]) rfl
  ·refine ob_plain [1] rfl rfl fun aa g h=>?_
   have yy0:=seen_out (v:=.pointer (some ⟨w.heap.size,0,none⟩)) rfl rfl h.1
   exact tvS (by simp [go_sem,yy0]) rfl
  ·refine ob_plain [17] rfl rfl fun aa g h=>?_
   obtain ⟨_,yy0,rfl⟩:=seen_in rfl h.1
   exact tvS (by simp [go_sem,yy0,a5 g]) rfl
  ·refine ob_plain [1] rfl rfl fun aa g h=>?_
   have yy0:=seen_out (v:=.pointer (some ⟨w.heap.size,0,none⟩)) rfl rfl h.1
   exact tvS (by simp [go_sem,yy0]) rfl
  ·refine ob_plain [19] rfl rfl fun aa g h=>?_
   obtain ⟨_,yy0,rfl⟩:=seen_in rfl h.1
   exact tvS (by simp [go_sem,yy0,a6 g]) rfl
  ·refine ob_plain [16,18,20] rfl rfl fun aa g h=>?_
   obtain ⟨_,yy0,rfl⟩:=seen_in rfl h.1
   obtain ⟨_,yy1,rfl⟩:=seen_in rfl h.2.1
   obtain ⟨_,yy2,rfl⟩:=seen_in rfl h.2.2.1
   refine tupon_enter (f:=58) (args:=#[.int .u8 od,.int .i32 t,.int .u16 la]) (by simp [go_sem,yy0,yy1,yy2]) rfl ?_
   exact (KH.out g.w).mono fun e w' ⟨he,hB⟩=>⟨_,he,hB,rfl⟩
 rintro w8 hB _ rfl _ rfl _ rfl _ rfl _ rfl _ ⟨p14,c14,rfl⟩ _ rfl _ rfl _ rfl _ rfl _ rfl _ rfl _ rfl
 simp only [Act.put,List.setIfInBounds_toArray,List.set_cons_succ,List.set_cons_zero,finP,List.drop_succ_cons,List.drop_zero,List.take_zero,List.filterMap_nil]
 have HB8:=Lib.hid (below_then HB6.out hB)
 have hx1:w8.heap[w.heap.size+1]? = some (.cells #[.int .i64 0,.slice none 0 0,.slice none 0 0] 35 (0,0)):=HR1.out.grow hB
 have hx2:w8.heap[w.heap.size+1+1]? = some (.cells #[.int .i64 0,.int .i64 0,.int .i64 0,.int .i64 0,.int .i64 0,.int .i64 0,.int .i64 0] 49 (0,0)):=HR2.out.grow hB
 have hx2':(w8.setRow (w.heap.size+1) #[.int .i64 N,.slice p1 n1 c1,.slice p2 n2 c2]).heap[w.heap.size+1+1]? = some (.cells #[.int .i64 0,.int .i64 0,.int .i64 0,.int .i64 0,.int .i64 0,.int .i64 0,.int .i64 0] 49 (0,0)):=(setRow_other w8 _ _ _ (by omega)).trans hx2
 have HW9:=Lib.hid (below_row14 (X:=w.heap.size+1+1) (below_row14 (X:=w.heap.size+1) HB8.out (by omega) #[.int .i64 N,.slice p1 n1 c1,.slice p2 n2 c2]) (by omega) #[.int .i64 (1+od % 3),.int .i64 4096,.int .i64 1024,.int .i64 16384,.int .i64 16777216,.int .i64 m,.int .i64 (m+1+la)])
 have hs1:(w8.setRow (w.heap.size+1) #[.int .i64 N,.slice p1 n1 c1,.slice p2 n2 c2]).heap[w.heap.size+1]? = some (.cells #[.int .i64 N,.slice p1 n1 c1,.slice p2 n2 c2] 35 (0,0)):=setRow_heap w8 (w.heap.size+1) _ #[.int .i64 N,.slice p1 n1 c1,.slice p2 n2 c2] _ _ hx1
 have hs1':((w8.setRow (w.heap.size+1) #[.int .i64 N,.slice p1 n1 c1,.slice p2 n2 c2]).setRow (w.heap.size+1+1) #[.int .i64 (1+od % 3),.int .i64 4096,.int .i64 1024,.int .i64 16384,.int .i64 16777216,.int .i64 m,.int .i64 (m+1+la)]).heap[w.heap.size+1]? = some (.cells #[.int .i64 N,.slice p1 n1 c1,.slice p2 n2 c2] 35 (0,0)):=(setRow_other _ _ _ _ (by omega)).trans hs1
 have hs2:((w8.setRow (w.heap.size+1) #[.int .i64 N,.slice p1 n1 c1,.slice p2 n2 c2]).setRow (w.heap.size+1+1) #[.int .i64 (1+od % 3),.int .i64 4096,.int .i64 1024,.int .i64 16384,.int .i64 16777216,.int .i64 m,.int .i64 (m+1+la)]).heap[w.heap.size+1+1]? = some (.cells #[.int .i64 (1+od % 3),.int .i64 4096,.int .i64 1024,.int .i64 16384,.int .i64 16777216,.int .i64 m,.int .i64 (m+1+la)] 49 (0,0)):=setRow_heap _ (w.heap.size+1+1) _ #[.int .i64 (1+od % 3),.int .i64 4096,.int .i64 1024,.int .i64 16384,.int .i64 16777216,.int .i64 m,.int .i64 (m+1+la)] _ _ hx2'
 have x0:=heapN_cellj hs1' (k:=0) rfl
 have x1:=heapN_cellj hs1' (k:=1) rfl
 have x2:=heapN_cellj hs1' (k:=2) rfl
 have u0:=heapN_cellj hs2 (k:=0) rfl
 have u1:=heapN_cellj hs2 (k:=1) rfl
 have u2:=heapN_cellj hs2 (k:=2) rfl
 have u3:=heapN_cellj hs2 (k:=3) rfl
 have u4:=heapN_cellj hs2 (k:=4) rfl
 have u5:=heapN_cellj hs2 (k:=5) rfl
 have u6:=heapN_cellj hs2 (k:=6) rfl
 clear hs1 hs1' hs2 hB a0 a1 a2 a3 a4 a5 a6 s0 s1 s2
 go_wp2_with (first | (refine wpList_store_row rfl 35 (.tmp 2) (.tmp 9) rfl (w.heap.size+1) #[.int .i64 N,.slice p1 n1 c1,.slice p2 n2 c2] rfl rfl 35 _ hx1 (by kernel_rfl) rfl (by first | rfl | decide | simp [Value.oneCell']) ?_) | (refine wpList_store_row rfl 49 (.tmp 4) (.tmp 21) rfl (w.heap.size+1+1) #[.int .i64 (1+od % 3),.int .i64 4096,.int .i64 1024,.int .i64 16384,.int .i64 16777216,.int .i64 m,.int .i64 (m+1+la)] rfl rfl 49 _ hx2' (by kernel_rfl) rfl (by first | rfl | decide | simp [Value.oneCell']) ?_))
 exact bodyPost_ret (v:=.tuple #[.agg #[.int .i64 N,.slice p1 n1 c1,.slice p2 n2 c2],.slice p14 N c14,.agg #[.int .i64 (1+od % 3),.int .i64 4096,.int .i64 1024,.int .i64 16384,.int .i64 16777216,.int .i64 m,.int .i64 (m+1+la)]]) (by simp [results,Tryz.results18,go_sem,x0,x1,x2,u0,u1,u2,u3,u4,u5,u6]) rfl ⟨N,p1,p2,p14,n1,n2,N,c1,c2,c14,rfl,HW9.out⟩
end Go.Proofs.YtdfdpghdjlgghaaGreat
namespace Go.Proofs.YtdfdpghdjlgghaaGreat
open Go.ChangeShapes Go.WideShapes Go.ChangeAt Go.RowKit
set_option linter.unusedVariables false
set_option linter.unusedSimpArgs false
set_option maxRecDepth 100000
attribute [local irreducible] Calls
theorem blk_setk14 {W:World} {X Y:Nat} {o:Obj} (h:Blk W Y o) (hne:Y ≠ X) (k:Nat) (y:Value):Blk (W.setCell ⟨X,k,none⟩ y) Y o:=by
 unfold Blk World.setCell at *
 simp [Array.getElem?_modify,Ne.symm hne]
 exact h
theorem w64_wf14 {x:Int} (h:(Lit.int .i64 x).wf = true):W64 x:=wf64t h
set_option maxHeartbeats 64000000 in
theorem flerr (w:World) (a0L a0O a0X:Value) (a0n a0d a0t a0e:Int) (a0l:List Is) (a0o:List Int) (a0x:List (Int × Int)) (h0L:Ix w a0L a0l∧∀ x ∈ a0l,IW x) (h0O:Px w a0O a0o∧∀ x ∈ a0o,W64 x) (h0X:Vx w a0X a0x∧∀ q ∈ a0x,W64 q.1∧W64 q.2) (h0n:W64 a0n) (h0d:0 ≤ a0d∧a0d ≤ 255) (h0t:-2147483648 ≤ a0t∧a0t ≤ 2147483647) (h0e:0 ≤ a0e∧a0e ≤ 65535) (a1:Int) (w1:(Lit.int .i64 a1).wf = true) (a2:Int) (w2:(Lit.int .i64 a2).wf = true) :
  Calls Tryz.prog 12 #[.agg #[.int .i64 a0n,a0L,a0O,a0X,.int .u8 a0d,.int .i32 a0t,.int .u16 a0e],.int .i64 a1,.int .i64 a2] w fun e w'=>e = .returned (.bool true)∧Below w.heap.size w w':=by
 obtain ⟨pL,cL,rfl⟩:=h0L.1.cut
 obtain ⟨pO,cO,rfl⟩:=h0O.1.cut
 obtain ⟨pX,cX,rfl⟩:=h0X.1.cut
 have HL:=Lib.hid h0L.1
 have HO:=Lib.hid h0O.1
 have HX:=Lib.hid h0X.1
 obtain ⟨m,hm⟩:∃ m,a0t.tmod 1048576 = m:=⟨_,rfl⟩
 have KM:=Lib.hid (fun w a b c=>made14l a0n a0d a0t a0e m (.slice pL a0l.length cL) (.slice pO a0o.length cO) (.slice pX a0x.length cX) a0l a0o a0x w a b c h0d.1 h0d.2 h0t h0e hm)
 obtain ⟨l,hl⟩:∃ l,m+1+a0e = l:=⟨_,rfl⟩
 obtain ⟨o,ho⟩:∃ o,1+a0d % 3 = o:=⟨_,rfl⟩
 rw [hl,ho] at KM
 have hml:m ≤ l:=by omega
 have HML:=Lib.hid hml
 clear h0L h0O h0X h0n h0d h0t h0e w1 w2 hm hl ho hml
 have hE:Below w.heap.size w (w.alloc (.cells #[.int .i64 a0n,.slice pL a0l.length cL,.slice pO a0o.length cO,.slice pX a0x.length cX,.int .u8 a0d,.int .i32 a0t,.int .u16 a0e] 47)):=(Below.refl _ _).alloc (Nat.le_refl _) _
 have HA:=Lib.hid (show Blk (w.alloc (.cells #[.int .i64 a0n,.slice pL a0l.length cL,.slice pO a0o.length cO,.slice pX a0x.length cX,.int .u8 a0d,.int .i32 a0t,.int .u16 a0e] 47)) w.heap.size (.cells #[.int .i64 a0n,.slice pL a0l.length cL,.slice pO a0o.length cO,.slice pX a0x.length cX,.int .u8 a0d,.int .i32 a0t,.int .u16 a0e] 47) from World.alloc_heap_new w _)
 have HW:=Lib.hid hE
 clear hE
 go_enter Tryz.func12,Tryz.ntmps12
 go_wp2_with (fail)
 refine (sanity14 _).mono ?_
 rintro e w2 ⟨rfl,hB2⟩
 have HA:=Lib.hid (HA.out.grow hB2)
 have HW:=Lib.hid (below_then HW.out hB2)
 have HL:=Lib.hid (HL.out.grow HW.out)
 have HO:=Lib.hid (HO.out.grow HW.out)
 have HX:=Lib.hid (HX.out.grow HW.out)
 clear hB2
 have a0_:=heapN_cellj HA.out (k:=0) rfl
 have a1_:=heapN_cellj HA.out (k:=1) rfl
 have a2_:=heapN_cellj HA.out (k:=2) rfl
 have a3_:=heapN_cellj HA.out (k:=3) rfl
 have a4_:=heapN_cellj HA.out (k:=4) rfl
 have a5_:=heapN_cellj HA.out (k:=5) rfl
 have a6_:=heapN_cellj HA.out (k:=6) rfl
 go_wp2_with (fail)
 refine (KM.out _ HL.out HO.out HX.out).mono ?_
 rintro e w5 ⟨N,p1,p2,p3,n1,n2,n3,c1,c2,c3,rfl,hB5⟩
 have HW:=Lib.hid (below_then HW.out hB5)
 clear hB5 a0_ a1_ a2_ a3_ a4_ a5_ a6_ HL HO HX HA KM
 have hE:Below w5.heap.size w5 ((w5.alloc (.cells #[.int .i64 0,.slice none 0 0,.slice none 0 0] 35)).alloc (.cells #[.int .i64 0,.int .i64 0,.int .i64 0,.int .i64 0,.int .i64 0,.int .i64 0,.int .i64 0] 49)):=allocs_below [.cells #[.int .i64 0,.slice none 0 0,.slice none 0 0] 35,.cells #[.int .i64 0,.int .i64 0,.int .i64 0,.int .i64 0,.int .i64 0,.int .i64 0,.int .i64 0] 49] w5
 have hx1:((w5.alloc (.cells #[.int .i64 0,.slice none 0 0,.slice none 0 0] 35)).alloc (.cells #[.int .i64 0,.int .i64 0,.int .i64 0,.int .i64 0,.int .i64 0,.int .i64 0,.int .i64 0] 49)).heap[w5.heap.size]? = some (.cells #[.int .i64 0,.slice none 0 0,.slice none 0 0] 35 (0,0)):=allocs_at [.cells #[.int .i64 0,.slice none 0 0,.slice none 0 0] 35,.cells #[.int .i64 0,.int .i64 0,.int .i64 0,.int .i64 0,.int .i64 0,.int .i64 0,.int .i64 0] 49] w5 0 _ rfl
 have hx2:((w5.alloc (.cells #[.int .i64 0,.slice none 0 0,.slice none 0 0] 35)).alloc (.cells #[.int .i64 0,.int .i64 0,.int .i64 0,.int .i64 0,.int .i64 0,.int .i64 0,.int .i64 0] 49)).heap[w5.heap.size+1]? = some (.cells #[.int .i64 0,.int .i64 0,.int .i64 0,.int .i64 0,.int .i64 0,.int .i64 0,.int .i64 0] 49 (0,0)):=allocs_at [.cells #[.int .i64 0,.slice none 0 0,.slice none 0 0] 35,.cells #[.int .i64 0,.int .i64 0,.int .i64 0,.int .i64 0,.int .i64 0,.int .i64 0,.int .i64 0] 49] w5 1 _ rfl
 have HE:=Lib.hid hE
 obtain ⟨W6,hW6⟩:∃ W6,(w5.alloc (.cells #[.int .i64 0,.slice none 0 0,.slice none 0 0] 35)).alloc (.cells #[.int .i64 0,.int .i64 0,.int .i64 0,.int .i64 0,.int .i64 0,.int .i64 0,.int .i64 0] 49) = W6:=⟨_,rfl⟩
 rw [hW6] at hx1 hx2 HE
 have hx2':(W6.setRow w5.heap.size #[.int .i64 N,.slice p1 n1 c1,.slice p2 n2 c2]).heap[w5.heap.size+1]? = some (.cells #[.int .i64 0,.int .i64 0,.int .i64 0,.int .i64 0,.int .i64 0,.int .i64 0,.int .i64 0] 49 (0,0)):=(setRow_other W6 _ _ _ (by omega)).trans hx2
 have hs1:(W6.setRow w5.heap.size #[.int .i64 N,.slice p1 n1 c1,.slice p2 n2 c2]).heap[w5.heap.size]? = some (.cells #[.int .i64 N,.slice p1 n1 c1,.slice p2 n2 c2] 35 (0,0)):=setRow_heap W6 (w5.heap.size) _ #[.int .i64 N,.slice p1 n1 c1,.slice p2 n2 c2] _ _ hx1
 have hs1':((W6.setRow w5.heap.size #[.int .i64 N,.slice p1 n1 c1,.slice p2 n2 c2]).setRow (w5.heap.size+1) #[.int .i64 o,.int .i64 4096,.int .i64 1024,.int .i64 16384,.int .i64 16777216,.int .i64 m,.int .i64 l]).heap[w5.heap.size]? = some (.cells #[.int .i64 N,.slice p1 n1 c1,.slice p2 n2 c2] 35 (0,0)):=(setRow_other _ _ _ _ (by omega)).trans hs1
 have hs2:((W6.setRow w5.heap.size #[.int .i64 N,.slice p1 n1 c1,.slice p2 n2 c2]).setRow (w5.heap.size+1) #[.int .i64 o,.int .i64 4096,.int .i64 1024,.int .i64 16384,.int .i64 16777216,.int .i64 m,.int .i64 l]).heap[w5.heap.size+1]? = some (.cells #[.int .i64 o,.int .i64 4096,.int .i64 1024,.int .i64 16384,.int .i64 16777216,.int .i64 m,.int .i64 l] 49 (0,0)):=setRow_heap _ (w5.heap.size+1) _ #[.int .i64 o,.int .i64 4096,.int .i64 1024,.int .i64 16384,.int .i64 16777216,.int .i64 m,.int .i64 l] _ _ hx2'
 have HB9:=Lib.hid (below_row14 (X:=w5.heap.size+1) (below_row14 (X:=w5.heap.size) HE.out (by omega) #[.int .i64 N,.slice p1 n1 c1,.slice p2 n2 c2]) (by omega) #[.int .i64 o,.int .i64 4096,.int .i64 1024,.int .i64 16384,.int .i64 16777216,.int .i64 m,.int .i64 l])
 have HS1:=Lib.hid hs1'
 have HS2:=Lib.hid hs2
 have hsz:w5.heap.size+1 < W6.heap.size:=(Array.getElem?_eq_some_iff.1 hx2).1
 have hsz9:((W6.setRow w5.heap.size #[.int .i64 N,.slice p1 n1 c1,.slice p2 n2 c2]).setRow (w5.heap.size+1) #[.int .i64 o,.int .i64 4096,.int .i64 1024,.int .i64 16384,.int .i64 16777216,.int .i64 m,.int .i64 l]).heap.size = W6.heap.size:=by rw [setRow_size,setRow_size]
 obtain ⟨W9,hW9⟩:∃ W9,(W6.setRow w5.heap.size #[.int .i64 N,.slice p1 n1 c1,.slice p2 n2 c2]).setRow (w5.heap.size+1) #[.int .i64 o,.int .i64 4096,.int .i64 1024,.int .i64 16384,.int .i64 16777216,.int .i64 m,.int .i64 l] = W9:=⟨_,rfl⟩
 rw [hW9] at HB9 HS1 HS2 hsz9
 have HB9:=Lib.hid (below_then HW.out HB9.out)
 obtain ⟨W10,hW10⟩:∃ W10,W9.alloc (.cells #[.int .i64 o,.int .i64 4096,.int .i64 1024,.int .i64 16384,.int .i64 16777216,.int .i64 m,.int .i64 l] 49) = W10:=⟨_,rfl⟩
 have hb10:Below W9.heap.size W9 W10:=by rw [← hW10]; exact (Below.refl _ _).alloc (Nat.le_refl _) _
 have hs10:W10.heap[W9.heap.size]? = some (.cells #[.int .i64 o,.int .i64 4096,.int .i64 1024,.int .i64 16384,.int .i64 16777216,.int .i64 m,.int .i64 l] 49 (0,0)):=by rw [← hW10]; exact World.alloc_heap_new W9 _
 have q2:=heapN_cellj hs10 (k:=2) rfl
 have y2:W10.frozen? ⟨W9.heap.size,2,none⟩ = false:=by simp [World.frozen?,hs10]
 obtain ⟨W11,hW11⟩:∃ W11,W10.setCell ⟨W9.heap.size,2,none⟩ (.int .i64 0) = W11:=⟨_,rfl⟩
 have HB10:=Lib.hid (below_then HB9.out hb10)
 have HB11:Hid (Below w.heap.size w W11):=Lib.hid (by rw [← hW11]; exact HB10.out.setCell (p:=⟨W9.heap.size,2,none⟩) (HB9.out.size) (.int .i64 0))
 have HT11:Hid (Blk W11 w5.heap.size (.cells #[.int .i64 N,.slice p1 n1 c1,.slice p2 n2 c2] 35)):=Lib.hid (by rw [← hW11]; exact blk_setk14 (Blk.grow (show Blk W9 w5.heap.size (.cells #[.int .i64 N,.slice p1 n1 c1,.slice p2 n2 c2] 35) from HS1.out) hb10) (by omega) _ _)
 have HH11:Hid (Blk W11 (w5.heap.size+1) (.cells #[.int .i64 o,.int .i64 4096,.int .i64 1024,.int .i64 16384,.int .i64 16777216,.int .i64 m,.int .i64 l] 49)):=Lib.hid (by rw [← hW11]; exact blk_setk14 (Blk.grow (show Blk W9 (w5.heap.size+1) (.cells #[.int .i64 o,.int .i64 4096,.int .i64 1024,.int .i64 16384,.int .i64 16777216,.int .i64 m,.int .i64 l] 49) from HS2.out) hb10) (by omega) _ _)
 have HZ11:Hid (Blk W11 W9.heap.size (.cells #[.int .i64 o,.int .i64 4096,.int .i64 0,.int .i64 16384,.int .i64 16777216,.int .i64 m,.int .i64 l] 49)):=Lib.hid (by
  have h1:=cellsT_setN (o:=2) (u:=.int .i64 0) hs10
  rw [hW11] at h1
  simpa [Blk] using h1)
 have u0:=heapN_cellj HS2.out (k:=0) rfl
 have u1:=heapN_cellj HS2.out (k:=1) rfl
 have u2:=heapN_cellj HS2.out (k:=2) rfl
 have u3:=heapN_cellj HS2.out (k:=3) rfl
 have u4:=heapN_cellj HS2.out (k:=4) rfl
 have u5:=heapN_cellj HS2.out (k:=5) rfl
 have u6:=heapN_cellj HS2.out (k:=6) rfl
 have t0:=heapN_cellj HT11.out (k:=0) rfl
 have t1:=heapN_cellj HT11.out (k:=1) rfl
 have t2:=heapN_cellj HT11.out (k:=2) rfl
 have z0:=heapN_cellj HZ11.out (k:=0) rfl
 have z1:=heapN_cellj HZ11.out (k:=1) rfl
 have z2:=heapN_cellj HZ11.out (k:=2) rfl
 have z3:=heapN_cellj HZ11.out (k:=3) rfl
 have z4:=heapN_cellj HZ11.out (k:=4) rfl
 have z5:=heapN_cellj HZ11.out (k:=5) rfl
 have z6:=heapN_cellj HZ11.out (k:=6) rfl
 have K1:=Lib.hid (fun w=>(show Calls Tryz.prog 19 #[.agg #[.int .i64 N,.slice p1 n1 c1,.slice p2 n2 c2],.slice p3 n3 c3,.agg #[.int .i64 o,.int .i64 4096,.int .i64 0,.int .i64 16384,.int .i64 16777216,.int .i64 m,.int .i64 l]] w fun e w'=>e = .returned (.tuple #[.slice none 0 0,.int .i64 1])∧Below w.heap.size w w' from int_err N o 4096 0 16384 16777216 m l (.slice p1 n1 c1) (.slice p2 n2 c2) (.slice p3 n3 c3) w (.inl (by unfold vldC; exact decide_eq_false (by omega)))))
 have K2:=Lib.hid (fun w=>(show Calls Tryz.prog 19 #[.agg #[.int .i64 N,.slice p1 n1 c1,.slice p2 n2 c2],.slice p3 n3 c3,.agg #[.int .i64 o,.int .i64 4096,.int .i64 1024,.int .i64 16384,.int .i64 16777216,.int .i64 l,.int .i64 m]] w fun e w'=>e = .returned (.tuple #[.slice none 0 0,.int .i64 1])∧Below w.heap.size w w' from int_err N o 4096 1024 16384 16777216 l m (.slice p1 n1 c1) (.slice p2 n2 c2) (.slice p3 n3 c3) w (.inr (.inr (.inr HML.out)))))
 have K3:=Lib.hid (fun w=>(show Calls Tryz.prog 19 #[.agg #[.int .i64 N,.slice p1 n1 c1,.slice p2 n2 c2],.slice p3 n3 c3,.agg #[.int .i64 o,.int .i64 4096,.int .i64 1024,.int .i64 16384,.int .i64 16777216,.int .i64 m,.int .i64 m]] w fun e w'=>e = .returned (.tuple #[.slice none 0 0,.int .i64 1])∧Below w.heap.size w w' from int_err N o 4096 1024 16384 16777216 m m (.slice p1 n1 c1) (.slice p2 n2 c2) (.slice p3 n3 c3) w (.inr (.inr (.inr (Int.le_refl _))))))
 clear hE hs1 hs1' hs2 hb10 hs10 HB10 HE hsz9
 go_wp2_with (first | (refine wpList_store_row rfl 35 (.tmp 8) (.tmp 24) rfl w5.heap.size #[.int .i64 N,.slice p1 n1 c1,.slice p2 n2 c2] rfl rfl 35 _ hx1 (by kernel_rfl) rfl (by first | rfl | decide | simp [Value.oneCell']) ?_) | (refine wpList_store_row rfl 49 (.tmp 10) (.tmp 26) rfl (w5.heap.size+1) #[.int .i64 o,.int .i64 4096,.int .i64 1024,.int .i64 16384,.int .i64 16777216,.int .i64 m,.int .i64 l] rfl rfl 49 _ hx2' (by kernel_rfl) rfl (by first | rfl | decide | simp [Value.oneCell']) ?_))
 refine (K1.out _).mono ?_
 rintro e w12 ⟨rfl,hB⟩
 have HT11:=Lib.hid (HT11.out.grow hB)
 have HH11:=Lib.hid (HH11.out.grow hB)
 have HB11:=Lib.hid (below_then HB11.out hB)
 clear hB t0 t1 t2 u0 u1 u2 u3 u4 u5 u6
 have t0:=heapN_cellj HT11.out (k:=0) rfl
 have t1:=heapN_cellj HT11.out (k:=1) rfl
 have t2:=heapN_cellj HT11.out (k:=2) rfl
 have u0:=heapN_cellj HH11.out (k:=0) rfl
 have u1:=heapN_cellj HH11.out (k:=1) rfl
 have u2:=heapN_cellj HH11.out (k:=2) rfl
 have u3:=heapN_cellj HH11.out (k:=3) rfl
 have u4:=heapN_cellj HH11.out (k:=4) rfl
 have u5:=heapN_cellj HH11.out (k:=5) rfl
 have u6:=heapN_cellj HH11.out (k:=6) rfl
 clear q2 y2 z0 z1 z2 z3 z4 z5 z6 hW6 hW9 hW10 hW11 hx1 hx2 hx2' HZ11 HS1 HS2 hsz
 go_wp2_with (fail)
 refine (K2.out _).mono ?_
 rintro e w13 ⟨rfl,hB⟩
 have HT11:=Lib.hid (HT11.out.grow hB)
 have HH11:=Lib.hid (HH11.out.grow hB)
 have HB11:=Lib.hid (below_then HB11.out hB)
 clear hB t0 t1 t2 u0 u1 u2 u3 u4 u5 u6
 have t0:=heapN_cellj HT11.out (k:=0) rfl
 have t1:=heapN_cellj HT11.out (k:=1) rfl
 have t2:=heapN_cellj HT11.out (k:=2) rfl
 have u0:=heapN_cellj HH11.out (k:=0) rfl
 have u1:=heapN_cellj HH11.out (k:=1) rfl
 have u2:=heapN_cellj HH11.out (k:=2) rfl
 have u3:=heapN_cellj HH11.out (k:=3) rfl
 have u4:=heapN_cellj HH11.out (k:=4) rfl
 have u5:=heapN_cellj HH11.out (k:=5) rfl
 have u6:=heapN_cellj HH11.out (k:=6) rfl
 go_wp2_with (fail)
 refine (K3.out _).mono ?_
 rintro e w14 ⟨rfl,hB⟩
 have HT11:=Lib.hid (HT11.out.grow hB)
 have HH11:=Lib.hid (HH11.out.grow hB)
 have HB11:=Lib.hid (below_then HB11.out hB)
 clear hB t0 t1 t2 u0 u1 u2 u3 u4 u5 u6
 have t0:=heapN_cellj HT11.out (k:=0) rfl
 have t1:=heapN_cellj HT11.out (k:=1) rfl
 have t2:=heapN_cellj HT11.out (k:=2) rfl
 have u0:=heapN_cellj HH11.out (k:=0) rfl
 have u1:=heapN_cellj HH11.out (k:=1) rfl
 have u2:=heapN_cellj HH11.out (k:=2) rfl
 have u3:=heapN_cellj HH11.out (k:=3) rfl
 have u4:=heapN_cellj HH11.out (k:=4) rfl
 have u5:=heapN_cellj HH11.out (k:=5) rfl
 have u6:=heapN_cellj HH11.out (k:=6) rfl
 by_cases h1:a2 ≤ a1
 ·have H1:=Lib.hid h1
  have K4:=Lib.hid (fun w=>(show Calls Tryz.prog 19 #[.agg #[.int .i64 N,.slice p1 n1 c1,.slice p2 n2 c2],.slice p3 n3 c3,.agg #[.int .i64 o,.int .i64 4096,.int .i64 1024,.int .i64 16384,.int .i64 16777216,.int .i64 a1,.int .i64 a2]] w fun e w'=>e = .returned (.tuple #[.slice none 0 0,.int .i64 1])∧Below w.heap.size w w' from int_err N o 4096 1024 16384 16777216 a1 a2 (.slice p1 n1 c1) (.slice p2 n2 c2) (.slice p3 n3 c3) w (.inr (.inr (.inr H1.out)))))
  go_wp2_with (fail)
  refine (K4.out _).mono ?_
  rintro e w15 ⟨rfl,hB⟩
  have HT11:=Lib.hid (HT11.out.grow hB)
  have HH11:=Lib.hid (HH11.out.grow hB)
  have HB11:=Lib.hid (below_then HB11.out hB)
  clear hB t0 t1 t2 u0 u1 u2 u3 u4 u5 u6
  have t0:=heapN_cellj HT11.out (k:=0) rfl
  have t1:=heapN_cellj HT11.out (k:=1) rfl
  have t2:=heapN_cellj HT11.out (k:=2) rfl
  have u0:=heapN_cellj HH11.out (k:=0) rfl
  have u1:=heapN_cellj HH11.out (k:=1) rfl
  have u2:=heapN_cellj HH11.out (k:=2) rfl
  have u3:=heapN_cellj HH11.out (k:=3) rfl
  have u4:=heapN_cellj HH11.out (k:=4) rfl
  have u5:=heapN_cellj HH11.out (k:=5) rfl
  have u6:=heapN_cellj HH11.out (k:=6) rfl
  go_wp2_with (fail)
  go_ret
  exact ⟨rfl,HB11.out⟩
 ·by_cases h2:Num a1
  ·by_cases h3:Num a2
   ·go_wp2_with (fail)
    refine (r2num_yes a1 _ h2).mono ?_
    rintro e w15 ⟨rfl,rfl⟩
    go_wp2_with (fail)
    refine (r2num_yes a2 _ h3).mono ?_
    rintro e w16 ⟨rfl,rfl⟩
    go_wp2_with (fail)
    go_ret
    exact ⟨rfl,HB11.out⟩
   ·have H3:=Lib.hid h3
    have K4:=Lib.hid (fun w=>(show Calls Tryz.prog 19 #[.agg #[.int .i64 N,.slice p1 n1 c1,.slice p2 n2 c2],.slice p3 n3 c3,.agg #[.int .i64 o,.int .i64 4096,.int .i64 1024,.int .i64 16384,.int .i64 16777216,.int .i64 a1,.int .i64 a2]] w fun e w'=>e = .returned (.tuple #[.slice none 0 0,.int .i64 1])∧Below w.heap.size w w' from int_err N o 4096 1024 16384 16777216 a1 a2 (.slice p1 n1 c1) (.slice p2 n2 c2) (.slice p3 n3 c3) w (.inr (.inr (.inl H3.out)))))
    go_wp2_with (fail)
    refine (r2num_yes a1 _ h2).mono ?_
    rintro e w15 ⟨rfl,rfl⟩
    go_wp2_with (fail)
    refine (r2num_no a2 _ H3.out).mono ?_
    rintro e w16 ⟨rfl,rfl⟩
    clear h3 h2
    go_wp2_with (fail)
    refine (K4.out _).mono ?_
    rintro e w17 ⟨rfl,hB⟩
    have HT11:=Lib.hid (HT11.out.grow hB)
    have HH11:=Lib.hid (HH11.out.grow hB)
    have HB11:=Lib.hid (below_then HB11.out hB)
    clear hB t0 t1 t2 u0 u1 u2 u3 u4 u5 u6
    have t0:=heapN_cellj HT11.out (k:=0) rfl
    have t1:=heapN_cellj HT11.out (k:=1) rfl
    have t2:=heapN_cellj HT11.out (k:=2) rfl
    have u0:=heapN_cellj HH11.out (k:=0) rfl
    have u1:=heapN_cellj HH11.out (k:=1) rfl
    have u2:=heapN_cellj HH11.out (k:=2) rfl
    have u3:=heapN_cellj HH11.out (k:=3) rfl
    have u4:=heapN_cellj HH11.out (k:=4) rfl
    have u5:=heapN_cellj HH11.out (k:=5) rfl
    have u6:=heapN_cellj HH11.out (k:=6) rfl
    go_wp2_with (fail)
    go_ret
    exact ⟨rfl,HB11.out⟩
  ·have H2:=Lib.hid h2
   have K4:=Lib.hid (fun w=>(show Calls Tryz.prog 19 #[.agg #[.int .i64 N,.slice p1 n1 c1,.slice p2 n2 c2],.slice p3 n3 c3,.agg #[.int .i64 o,.int .i64 4096,.int .i64 1024,.int .i64 16384,.int .i64 16777216,.int .i64 a1,.int .i64 a2]] w fun e w'=>e = .returned (.tuple #[.slice none 0 0,.int .i64 1])∧Below w.heap.size w w' from int_err N o 4096 1024 16384 16777216 a1 a2 (.slice p1 n1 c1) (.slice p2 n2 c2) (.slice p3 n3 c3) w (.inr (.inl H2.out))))
   clear h2
   go_wp2_with (fail)
   refine (r2num_no a1 _ H2.out).mono ?_
   rintro e w15 ⟨rfl,rfl⟩
   go_wp2_with (fail)
   refine (K4.out _).mono ?_
   rintro e w17 ⟨rfl,hB⟩
   have HT11:=Lib.hid (HT11.out.grow hB)
   have HH11:=Lib.hid (HH11.out.grow hB)
   have HB11:=Lib.hid (below_then HB11.out hB)
   clear hB t0 t1 t2 u0 u1 u2 u3 u4 u5 u6
   have t0:=heapN_cellj HT11.out (k:=0) rfl
   have t1:=heapN_cellj HT11.out (k:=1) rfl
   have t2:=heapN_cellj HT11.out (k:=2) rfl
   have u0:=heapN_cellj HH11.out (k:=0) rfl
   have u1:=heapN_cellj HH11.out (k:=1) rfl
   have u2:=heapN_cellj HH11.out (k:=2) rfl
   have u3:=heapN_cellj HH11.out (k:=3) rfl
   have u4:=heapN_cellj HH11.out (k:=4) rfl
   have u5:=heapN_cellj HH11.out (k:=5) rfl
   have u6:=heapN_cellj HH11.out (k:=6) rfl
   go_wp2_with (fail)
   go_ret
   exact ⟨rfl,HB11.out⟩
end Go.Proofs.YtdfdpghdjlgghaaGreat
