/-
 Sc
-/
import Derived.Test.YtekjflfkbgklhaaGreatKcs
import Derived.Test.YtekjflfkbgklhaaGreatKcw
namespace Go.Proofs.YtekjflfkbgklhaaGreat
open Go.ChangeShapes Go.WideShapes Go.ChangeAt Go.RowKit
set_option linter.unusedVariables false
set_option linter.unusedSimpArgs false
set_option maxRecDepth 100000
attribute [local irreducible] Calls
theorem first_root (a b:Int) (w:World) (hv:VI a b):Calls Tryz.prog 188 #[.agg #[.int .i64 a,.int .i64 b]] w fun e w'=>e = .returned (.agg #[.int .i64 (rtI (a,b)).1,.int .i64 (rtI (a,b)).2])∧Below w.heap.size w w':=by
 obtain ⟨ha1,ha2,hb1,hb2,hab⟩:=hv.bd
 unfold rtI
 have hba:Below w.heap.size w ((w.alloc (.cells #[.int .i64 a,.int .i64 b] 59)).alloc (.cells #[.int .i64 0,.int .i64 0] 59)):=((Below.refl _ _).alloc (Nat.le_refl _) _).alloc (by rw [alloc_sz]; omega) _
 have hX:((w.alloc (.cells #[.int .i64 a,.int .i64 b] 59)).alloc (.cells #[.int .i64 0,.int .i64 0] 59)).heap[w.heap.size]? = some (.cells #[.int .i64 a,.int .i64 b] 59 (0,0)):=(((Below.refl _ (w.alloc (.cells #[.int .i64 a,.int .i64 b] 59))).alloc (Nat.le_refl _) _).block _ (by rw [alloc_sz]; omega)).trans (World.alloc_heap_new w _)
 have hY:((w.alloc (.cells #[.int .i64 a,.int .i64 b] 59)).alloc (.cells #[.int .i64 0,.int .i64 0] 59)).heap[w.heap.size+1]? = some (.cells #[.int .i64 0,.int .i64 0] 59 (0,0)):=by
  have:=World.alloc_heap_new (w.alloc (.cells #[.int .i64 a,.int .i64 b] 59)) (.cells #[.int .i64 0,.int .i64 0] 59)
  rwa [alloc_sz] at this
 have HX:=Lib.hid hX
 have HY:=Lib.hid hY
 have HB:=Lib.hid hba
 clear hX hY hba
 have hbl:=fun (w1:World) (h:Below ((w.alloc (.cells #[.int .i64 a,.int .i64 b] 59)).alloc (.cells #[.int .i64 0,.int .i64 0] 59)).heap.size ((w.alloc (.cells #[.int .i64 a,.int .i64 b] 59)).alloc (.cells #[.int .i64 0,.int .i64 0] 59)) w1) (p q:Int)=>(((below_then HB.out h).setCell (p:=⟨w.heap.size+1,0,none⟩) (by dsimp only; omega) (.int .i64 p)).setCell (p:=⟨w.heap.size+1,1,none⟩) (by dsimp only; omega) (.int .i64 q))
 by_cases h1:a < 0
 ·rw [if_pos h1]
  dsimp only
  go_enter Tryz.func188,Tryz.ntmps188
  go_wp2_with (fail)
  refine (iv_entire _).mono ?_
  rintro e w1 ⟨rfl,hB⟩
  have hy:=(hB.block _ (Array.getElem?_eq_some_iff.1 HY.out).1).trans HY.out
  have y0:=heapN_cellj hy (k:=0) rfl
  have y1:=heapN_cellj hy (k:=1) rfl
  have z0:w1.frozen? ⟨w.heap.size+1,0,none⟩ = false:=by simp [World.frozen?,hy]
  have z1:w1.frozen? ⟨w.heap.size+1,1,none⟩ = false:=by simp [World.frozen?,hy]
  have HW:=Lib.hid (hbl w1 hB)
  clear hB hbl
  go_wp2_with (fail)
  have hs:=cellsT_setN (o:=1) (u:=.int .i64 2147483648) (cellsT_setN (o:=0) (u:=.int .i64 (-2147483648)) hy)
  have x0:=heapN_cellj hs (k:=0) (u:=.int .i64 (-2147483648)) rfl
  have x1:=heapN_cellj hs (k:=1) (u:=.int .i64 2147483648) rfl
  exact bodyPost_ret (v:=.agg #[.int .i64 (-2147483648),.int .i64 2147483648]) (by simp [results,Tryz.results188,go_sem,x0,x1]) rfl ⟨rfl,HW.out _ _⟩
 ·rw [if_neg h1]
  dsimp only
  have hne:¬ Ent a b:=fun h=>by have:=h.1; omega
  have KS:=Lib.hid (fun w=>iv_sqrt_pos a b w hne (by omega) (by omega) (by omega))
  obtain ⟨c,hc⟩:∃ c,mkLo (rt1 a) (rt2 b) = c:=⟨_,rfl⟩
  obtain ⟨d,hd⟩:∃ d,mkHi (rt1 a) (rt2 b) = d:=⟨_,rfl⟩
  rw [hc,hd] at KS ⊢
  clear hc hd
  go_enter Tryz.func188,Tryz.ntmps188
  go_wp2_with (fail)
  refine (KS.out _).mono ?_
  rintro e w1 ⟨rfl,hB⟩
  have hy:=(hB.block _ (Array.getElem?_eq_some_iff.1 HY.out).1).trans HY.out
  have hs1:=hB.size
  rw [alloc_sz,alloc_sz] at hs1
  have hy2:=((((Below.refl w1.heap.size w1).alloc (Nat.le_refl _) (.cells #[.int .i64 c,.int .i64 d] 59))).block (w.heap.size+1) (by omega)).trans hy
  have y0:=heapN_cellj hy2 (k:=0) rfl
  have y1:=heapN_cellj hy2 (k:=1) rfl
  have z0:(w1.alloc (.cells #[.int .i64 c,.int .i64 d] 59)).frozen? ⟨w.heap.size+1,0,none⟩ = false:=by simp [World.frozen?,hy2]
  have z1:(w1.alloc (.cells #[.int .i64 c,.int .i64 d] 59)).frozen? ⟨w.heap.size+1,1,none⟩ = false:=by simp [World.frozen?,hy2]
  have HW:=Lib.hid (hbl _ (hB.alloc hB.size (.cells #[.int .i64 c,.int .i64 d] 59)))
  clear hB hbl
  go_wp2_with (fail)
  have hs:=cellsT_setN (o:=1) (u:=.int .i64 d) (cellsT_setN (o:=0) (u:=.int .i64 c) hy2)
  have x0:=heapN_cellj hs (k:=0) (u:=.int .i64 c) rfl
  have x1:=heapN_cellj hs (k:=1) (u:=.int .i64 d) rfl
  exact bodyPost_ret (v:=.agg #[.int .i64 c,.int .i64 d]) (by simp [results,Tryz.results188,go_sem,x0,x1]) rfl ⟨rfl,HW.out _ _⟩
set_option maxHeartbeats 4000000 in
theorem coef_ok (k:Nat) (v:Value) (l:List (Int × Int)) (w:World) (hv:Vx w v l) (hk:k ≤ 100000) :
  Calls Tryz.prog 165 #[.int .i64 k,v] w fun e w'=>e = .returned (.agg #[.int .i64 (gI l k).1,.int .i64 (gI l k).2])∧Below w.heap.size w w':=by
 obtain ⟨p,c,rfl⟩:=hv.cut
 have hE:Below w.heap.size w (w.alloc (.cells #[.int .i64 0,.int .i64 0] 59)):=allocs_below [.cells #[.int .i64 0,.int .i64 0] 59] w
 have HR:=Lib.hid (show Blk (w.alloc (.cells #[.int .i64 0,.int .i64 0] 59)) (w.heap.size) (.cells #[.int .i64 0,.int .i64 0] 59) from allocs_at [.cells #[.int .i64 0,.int .i64 0] 59] w 0 _ rfl)
 have HW:=Lib.hid hE
 have HV:=Lib.hid (hv.grow hE)
 clear hE hv
 by_cases hlt:k < l.length
 ·have i2:(k:Int) < l.length:=by omega
  obtain ⟨b,o,rfl,hb,rd⟩:=vx_rd HV.out (g_of hlt)
  obtain ⟨c0,hc0⟩:∃ c0,(gI l k).1 = c0:=⟨_,rfl⟩
  obtain ⟨c1,hc1⟩:∃ c1,(gI l k).2 = c1:=⟨_,rfl⟩
  rw [hc0,hc1] at rd ⊢
  obtain ⟨x8,x9⟩:=rd ⟨_,Below.refl _ _⟩
  dsimp only at x8 x9
  clear hc0 hc1 rd
  have hx:(w.alloc (.cells #[.int .i64 c0,.int .i64 c1] 59)).heap[w.heap.size]? = some (.cells #[.int .i64 c0,.int .i64 c1] 59 (0,0)):=World.alloc_heap_new w _
  have x0:=heapN_cellj hx (k:=0) rfl
  have x1:=heapN_cellj hx (k:=1) rfl
  clear hx
  go_enter Tryz.func165,Tryz.ntmps165
  go_wp2_with (fail)
  exact bodyPost_ret (v:=.agg #[.int .i64 c0,.int .i64 c1]) (by simp [results,Tryz.results165,go_sem,x0,x1]) rfl ⟨rfl,(Below.refl _ _).alloc (Nat.le_refl _) _⟩
 ·have i2:¬ (k:Int) < l.length:=by omega
  have e0:gI l k = (0,0):=by
   unfold gI
   rw [List.getD_eq_getElem?_getD,List.getElem?_eq_none (by omega)]
   rfl
  rw [e0]
  go_enter Tryz.func165,Tryz.ntmps165
  go_wp2_with (fail)
  refine (pt0_ok _).mono ?_
  rintro e w1 ⟨rfl,hB⟩
  have hx:=HR.out.grow hB
  have HB:=below_then HW.out hB
  have q0:=heapN_cellj hx (k:=0) rfl
  have q1:=heapN_cellj hx (k:=1) rfl
  have y0:w1.frozen? ⟨w.heap.size,0,none⟩ = false:=by simp [World.frozen?,show w1.heap[w.heap.size]? = _ from hx]
  have y1:w1.frozen? ⟨w.heap.size,1,none⟩ = false:=by simp [World.frozen?,show w1.heap[w.heap.size]? = _ from hx]
  have HW9:=Lib.hid (((HB).setCell (p:=⟨w.heap.size,0,none⟩) (by dsimp only; omega) (.int .i64 (0))).setCell (p:=⟨w.heap.size,1,none⟩) (by dsimp only; omega) (.int .i64 (0)))
  have hs9:=cellsT_setN (o:=1) (u:=.int .i64 (0)) (cellsT_setN (o:=0) (u:=.int .i64 (0)) hx)
  have x0:=heapN_cellj hs9 (k:=0) (u:=.int .i64 (0)) rfl
  have x1:=heapN_cellj hs9 (k:=1) (u:=.int .i64 (0)) rfl
  clear hs9 hx
  go_wp2_with (fail)
  exact bodyPost_ret (v:=.agg #[.int .i64 (0),.int .i64 (0)]) (by simp [results,Tryz.results165,go_sem,x0,x1]) rfl ⟨rfl,HW9.out⟩
set_option maxHeartbeats 8000000 in
theorem squared_ok (va:Value) (A:List (Int × Int)) (k:Nat) (w:World) (hA:Vx w va A) (vA:AV A) (hk:k < A.length) (hsm:A.length ≤ 1000) :
  Calls Tryz.prog 167 #[.agg domV,va,.int .i64 k] w fun e w'=>e = .returned (.agg #[.int .i64 (squI A k).1,.int .i64 (squI A k).2])∧Below w.heap.size w w':=by
 obtain ⟨pa,ca,rfl⟩:=hA.cut
 have hE:Below w.heap.size w ((w.alloc (.cells domV 144)).alloc (.cells #[.int .i64 0,.int .i64 0] 59)):=allocs_below [.cells domV 144,.cells #[.int .i64 0,.int .i64 0] 59] w
 have HD:=Lib.hid (show Blk ((w.alloc (.cells domV 144)).alloc (.cells #[.int .i64 0,.int .i64 0] 59)) (w.heap.size) (.cells domV 144) from allocs_at [.cells domV 144,.cells #[.int .i64 0,.int .i64 0] 59] w 0 _ rfl)
 have HR:=Lib.hid (show Blk ((w.alloc (.cells domV 144)).alloc (.cells #[.int .i64 0,.int .i64 0] 59)) (w.heap.size+1) (.cells #[.int .i64 0,.int .i64 0] 59) from allocs_at [.cells domV 144,.cells #[.int .i64 0,.int .i64 0] 59] w 1 _ rfl)
 have HW:=Lib.hid hE
 have HA:=Lib.hid (hA.grow hE)
 have HVA:=Lib.hid vA
 unfold domV at HD HR HW HA
 clear hE hA vA
 unfold squI
 by_cases h0:k = 0
 ·subst h0
  rw [if_pos rfl]
  obtain ⟨b,o,rfl,hb,rd⟩:=vx_rd HA.out (g_of hk)
  have v2:=gI_vi HVA.out 0
  generalize gI A 0 = x at *
  obtain ⟨a0,a1⟩:=x
  rw [op_sqr]
  have KS:=Lib.hid (fun w=>iv_square a0 a1 w v2)
  obtain ⟨c0,hc0⟩:∃ c,sqLo a0 a1 = c:=⟨_,rfl⟩
  obtain ⟨c1,hc1⟩:∃ c,sqHi a0 a1 = c:=⟨_,rfl⟩
  dsimp only
  rw [hc0,hc1] at KS ⊢
  clear hc0 hc1 v2
  have i2:¬ A = []:=by intro e; rw [e] at hk; simp at hk
  go_enter Tryz.func167,Tryz.ntmps167
  unfold domV
  go_wp2_with (fail)
  generalize hW0:World.alloc (World.alloc w _) _ = W0 at *
  clear hW0
  have d0:=fun g:Grown W0=>heapN_cellj (HD.out.grow g.h) (k:=0) rfl
  have d1:=fun g:Grown W0=>heapN_cellj (HD.out.grow g.h) (k:=1) rfl
  have d2:=fun g:Grown W0=>heapN_cellj (HD.out.grow g.h) (k:=2) rfl
  have d3:=fun g:Grown W0=>heapN_cellj (HD.out.grow g.h) (k:=3) rfl
  have d4:=fun g:Grown W0=>heapN_cellj (HD.out.grow g.h) (k:=4) rfl
  have d5:=fun g:Grown W0=>heapN_cellj (HD.out.grow g.h) (k:=5) rfl
  have d6:=fun g:Grown W0=>heapN_cellj (HD.out.grow g.h) (k:=6) rfl
  have d7:=fun g:Grown W0=>heapN_cellj (HD.out.grow g.h) (k:=7) rfl
  have d8:=fun g:Grown W0=>heapN_cellj (HD.out.grow g.h) (k:=8) rfl
  have f0:=fun g:Grown W0=>(rd g).1
  have f1:=fun g:Grown W0=>(rd g).2
  simp only [Nat.zero_mul,Nat.add_zero] at f0 f1
  refine region_pred_l (lk [(9,fun z_ _=>z_ = .pointer (some ⟨w.heap.size,3,none⟩)),(10,fun z_ _=>z_ = .func (.func 150) #[] #[]),(11,fun z_ _=>z_ = .slice (some ⟨b,o,none⟩) A.length ca),(12,fun z_ _=>z_ = .pointer (some ⟨b,o,none⟩)),(13,fun z_ _=>z_ = .agg #[.int .i64 a0,.int .i64 a1]),(14,fun z_ _=>z_ = .agg #[.int .i64 c0,.int .i64 c1])]) 6 _ rfl (by kernel_rfl) (by kernel_rfl) (by kernel_rfl) (lk_steady _ ⟨steady_eq _,steady_eq _,steady_eq _,steady_eq _,steady_eq _,steady_eq _,trivial⟩) ?_ ?_
  ·refine ⟨?_,?_,?_,?_,?_,?_,?_,trivial⟩
   ·refine fun _=>ob_plain [3] rfl rfl fun _ g h=>?_
    have yy0:=seen_out (v:=.pointer (some ⟨w.heap.size,0,none⟩)) rfl rfl h.1
    exact tvS (by simp [go_sem,yy0]) rfl
   ·refine fun _=>ob_plain [9] rfl rfl fun _ g h=>?_
    obtain ⟨_,yy0,rfl⟩:=seen_in rfl h.1
    exact tvS (by simp [go_sem,yy0,d3 g]) rfl
   ·refine fun _=>ob_plain [1] rfl rfl fun _ g h=>?_
    have yy0:=seen_out (v:=.slice (some ⟨b,o,none⟩) A.length ca) rfl rfl h.1
    exact tvS (by simp [go_sem,yy0]) rfl
   ·refine fun _=>ob_plain [11] rfl rfl fun _ g h=>?_
    obtain ⟨_,yy0,rfl⟩:=seen_in rfl h.1
    exact tvS (by simp [go_sem,yy0,i2]) rfl
   ·refine fun _=>ob_plain [12] rfl rfl fun _ g h=>?_
    obtain ⟨_,yy0,rfl⟩:=seen_in rfl h.1
    exact tvS (by simp [go_sem,yy0,f0 g,f1 g]) rfl
   ·refine fun _=>ob_plain [10,13] rfl rfl fun _ g h=>?_
    obtain ⟨_,yy0,rfl⟩:=seen_in rfl h.1
    obtain ⟨_,yy1,rfl⟩:=seen_in rfl h.2.1
    refine tupon_enter (f:=150) (args:=#[.agg #[.int .i64 a0,.int .i64 a1]]) (by simp [go_sem,yy0,yy1]) rfl ?_
    exact (KS.out g.w).mono fun e w' ⟨he,hB⟩=>⟨_,he,hB,rfl⟩
   ·exact fun h=>absurd rfl h
  rintro w5 hB _ rfl _ rfl _ rfl _ rfl _ rfl _ rfl
  simp only [Act.put,List.setIfInBounds_toArray,List.set_cons_succ,List.set_cons_zero,List.filterMap_nil]
  have hx:=HR.out.grow hB
  have HB:=below_then HW.out hB
  have q0:=heapN_cellj hx (k:=0) rfl
  have q1:=heapN_cellj hx (k:=1) rfl
  have y0:w5.frozen? ⟨w.heap.size+1,0,none⟩ = false:=by simp [World.frozen?,show w5.heap[w.heap.size+1]? = _ from hx]
  have y1:w5.frozen? ⟨w.heap.size+1,1,none⟩ = false:=by simp [World.frozen?,show w5.heap[w.heap.size+1]? = _ from hx]
  refine ⟨_,by simp [go_sem,q0,y0,q1,y1]; rfl,?_⟩
  have HW9:=Lib.hid ((HB.setCell (p:=⟨w.heap.size+1,0,none⟩) (by dsimp only; omega) (.int .i64 c0)).setCell (p:=⟨w.heap.size+1,1,none⟩) (by dsimp only; omega) (.int .i64 c1))
  have hs9:=cellsT_setN (o:=1) (u:=.int .i64 c1) (cellsT_setN (o:=0) (u:=.int .i64 c0) hx)
  have x0:=heapN_cellj hs9 (k:=0) (u:=.int .i64 c0) rfl
  have x1:=heapN_cellj hs9 (k:=1) (u:=.int .i64 c1) rfl
  go_wp2_with (fail)
  exact bodyPost_ret (v:=.agg #[.int .i64 c0,.int .i64 c1]) (by simp [results,Tryz.results167,go_sem,x0,x1]) rfl ⟨rfl,HW9.out⟩
 ·rw [if_neg h0]
  have KC:=Lib.hid (fun w h=>conv_ok (.slice pa A.length ca) (.slice pa A.length ca) A A k 0 (k+1) k w h h HVA.out HVA.out (fun n hn=>by omega) (by omega) (by omega) (by omega) (by omega))
  have h0':¬ (k:Int) = 0:=by omega
  obtain ⟨c0,hc0⟩:∃ c,(cvI A A k 0 (k+1)).1 = c:=⟨_,rfl⟩
  obtain ⟨c1,hc1⟩:∃ c,(cvI A A k 0 (k+1)).2 = c:=⟨_,rfl⟩
  rw [hc0,hc1] at KC ⊢
  clear hc0 hc1
  unfold domV at KC
  have d0:=heapN_cellj HD.out (k:=0) rfl
  have d1:=heapN_cellj HD.out (k:=1) rfl
  have d2:=heapN_cellj HD.out (k:=2) rfl
  have d3:=heapN_cellj HD.out (k:=3) rfl
  have d4:=heapN_cellj HD.out (k:=4) rfl
  have d5:=heapN_cellj HD.out (k:=5) rfl
  have d6:=heapN_cellj HD.out (k:=6) rfl
  have d7:=heapN_cellj HD.out (k:=7) rfl
  have d8:=heapN_cellj HD.out (k:=8) rfl
  go_enter Tryz.func167,Tryz.ntmps167
  unfold domV
  go_wp2_with (fail)
  refine (KC.out _ HA.out).mono ?_
  rintro e w1 ⟨rfl,hB⟩
  have hx:=HR.out.grow hB
  have HB:=below_then HW.out hB
  clear d0 d1 d2 d3 d4 d5 d6 d7 d8
  have q0:=heapN_cellj hx (k:=0) rfl
  have q1:=heapN_cellj hx (k:=1) rfl
  have y0:w1.frozen? ⟨w.heap.size+1,0,none⟩ = false:=by simp [World.frozen?,show w1.heap[w.heap.size+1]? = _ from hx]
  have y1:w1.frozen? ⟨w.heap.size+1,1,none⟩ = false:=by simp [World.frozen?,show w1.heap[w.heap.size+1]? = _ from hx]
  have HW9:=Lib.hid (((HB).setCell (p:=⟨w.heap.size+1,0,none⟩) (by dsimp only; omega) (.int .i64 (c0))).setCell (p:=⟨w.heap.size+1,1,none⟩) (by dsimp only; omega) (.int .i64 (c1)))
  have hs9:=cellsT_setN (o:=1) (u:=.int .i64 (c1)) (cellsT_setN (o:=0) (u:=.int .i64 (c0)) hx)
  have x0:=heapN_cellj hs9 (k:=0) (u:=.int .i64 (c0)) rfl
  have x1:=heapN_cellj hs9 (k:=1) (u:=.int .i64 (c1)) rfl
  clear hs9 hx
  go_wp2_with (fail)
  exact bodyPost_ret (v:=.agg #[.int .i64 (c0),.int .i64 (c1)]) (by simp [results,Tryz.results167,go_sem,x0,x1]) rfl ⟨rfl,HW9.out⟩
set_option maxHeartbeats 8000000 in
theorem ranges_ok (va:Value) (A:List (Int × Int)) (w:World) (hA:Vx w va A) (hsm:A.length ≤ 1000) :
  Calls Tryz.prog 169 #[.agg domV,va] w fun e w'=>∃ v,e = .returned v∧Vx w' v A∧Below w.heap.size w w':=by
 obtain ⟨i0,hi,hz0,hz1,hz2⟩:=info_parts info_ivB
 obtain ⟨pa,ca,rfl⟩:=hA.cut
 have hE:Below w.heap.size w (w.alloc (.cells domV 144)):=allocs_below [.cells domV 144] w
 have HD:=Lib.hid (show Blk (w.alloc (.cells domV 144)) (w.heap.size) (.cells domV 144) from allocs_at [.cells domV 144] w 0 _ rfl)
 have HW:=Lib.hid hE
 have HA:=Lib.hid (hA.grow hE)
 unfold domV at HD HW HA
 clear hE hA
 have HR0:=Lib.hid (World.ownsRow_nil (w.alloc (.cells #[.func (.func 148) #[] #[],.func (.func 148) #[] #[],.func (.func 149) #[] #[],.func (.func 150) #[] #[],.func (.func 143) #[] #[],.func (.func 151) #[] #[],.func (.func 144) #[] #[],.func (.func 144) #[] #[],.func (.func 152) #[] #[]] 144)) (w.heap.size+1) 59 2)
 go_enter Tryz.func169,Tryz.ntmps169
 unfold domV
 go_wp2_with (fail)
 generalize hW0:World.alloc w _ = W0 at *
 have hsz:w.heap.size+1 = W0.heap.size:=by rw [← hW0,alloc_sz]
 rw [hsz] at HR0
 have HSZ:=Lib.hid hsz
 clear hW0 hsz
 go_loopw [5,10] (fun v i wr=>∃ k:Nat,i = .int .i64 k∧k ≤ A.length∧Hid (wr.ownsRow W0.heap.size 59 2 v k (cr encB (A.take k)))∧Hid (Below W0.heap.size W0 wr)) (fun v i _=>A.length - (intOf i).toNat)
 case atStart=>exact ⟨0,rfl,Nat.zero_le _,HR0,Lib.hid (Below.refl _ _)⟩
 case round =>
  clear HR0
  obtain ⟨k,rfl,hk,HR,HB⟩:=hrel
  obtain ⟨pv,cv,rfl⟩:=own_slice HR.out
  have hsr:=HB.out.size
  by_cases hlt:k < A.length
  ·have i2:(k:Int) < A.length:=by omega
   obtain ⟨⟨a,b⟩,hxa⟩:∃ x,A[k]? = some x:=⟨_,List.getElem?_eq_getElem hlt⟩
   obtain ⟨bx,ox,hpe,hbx,rdx⟩:=vx_rd HA.out hxa
   subst hpe
   have hsn:A.take (k+1) = A.take k ++ [(a,b)]:=by rw [List.take_add_one,hxa]; rfl
   have HS:=Lib.hid hsn
   obtain ⟨x0,x1⟩:=rdx ⟨wr,HB.out⟩
   dsimp only at x0 x1
   clear hxa hsn rdx
   have HB7:=Lib.hid (HB.out.alloc hsr (.cells #[.int .i64 a,.int .i64 b] 59))
   have HX7:=Lib.hid (show Blk (wr.alloc (.cells #[.int .i64 a,.int .i64 b] 59)) wr.heap.size (.cells #[.int .i64 a,.int .i64 b] 59) from World.alloc_heap_new wr _)
   have HR7:=Lib.hid (HR.out.alloc (.cells #[.int .i64 a,.int .i64 b] 59))
   have hd7:=HD.out.grow HB7.out
   have d0:=heapN_cellj hd7 (k:=0) rfl
   have d1:=heapN_cellj hd7 (k:=1) rfl
   have d2:=heapN_cellj hd7 (k:=2) rfl
   have d3:=heapN_cellj hd7 (k:=3) rfl
   have d4:=heapN_cellj hd7 (k:=4) rfl
   have d5:=heapN_cellj hd7 (k:=5) rfl
   have d6:=heapN_cellj hd7 (k:=6) rfl
   have d7:=heapN_cellj hd7 (k:=7) rfl
   have d8:=heapN_cellj hd7 (k:=8) rfl
   have y0:=heapN_cellj HX7.out (k:=0) rfl
   have y1:=heapN_cellj HX7.out (k:=1) rfl
   clear hd7
   go_wp2_with (fail)
   refine (same_ok a b _).mono ?_
   rintro e w8 ⟨rfl,hB8⟩
   have HR8:=Lib.hid (own_keptN HR7.out hB8)
   have HB8:=Lib.hid (HB7.out.trans (hB8.mono HB7.out.size))
   have HNB:=Lib.hid (two_at (a,b) (World.alloc_heap_new w8 (.cells #[.int .i64 a,.int .i64 b] 59)))
   have HR9:=Lib.hid (HR8.out.alloc (.cells #[.int .i64 a,.int .i64 b] 59))
   have HB9:=Lib.hid (HB8.out.alloc HB8.out.size (.cells #[.int .i64 a,.int .i64 b] 59))
   clear hB8 d0 d1 d2 d3 d4 d5 d6 d7 d8 x0 x1 y0 y1 HR HB HR7 HB7 HR8 HB8
   go_wp2_with (at_builtin; refine wpList_append_own _ rfl (.tmp 14) (.tmp 19) 25 rfl W0.heap.size 59 i0 (.agg #[.int .i64 0,.int .i64 0]) 2 16 Tryz.underlying25 hi hz0 hz1 hz2 rfl (by decide) (.slice pv k cv) k _ rfl HR9.out ⟨w8.heap.size,0,none⟩ 1 1 (encB (a,b)) rfl rfl HNB.out (one_b _) (by unfold maxLen; omega) (by omega) HB9.out.size ?_)
   intro v' w10 hown' hgrow _
   have hB10:=Below.grown HB9.out hgrow HB9.out.size (fun i hi=>(HR9.out.lt i hi).1)
   have HR10:=Lib.hid hown'
   have HB10:=Lib.hid hB10
   clear hown' hgrow hB10 HR9 HB9
   go_wp2_with (fail)
   go_roundw
   case rel=>exact ⟨k+1,by go_num,by omega,Lib.hid (by rw [HS.out,cr_snoc]; exact HR10.out),HB10⟩
   case measure=>simp [intOf]; omega
  ·obtain rfl:k = A.length:=by omega
   have i2:¬ (A.length:Int) < A.length:=by omega
   go_wp2_with (fail)
   go_ret
   have h:=HR.out
   rw [List.take_length] at h
   exact ⟨_,rfl,Rx.own encB_len h (by unfold maxLen; omega),below_then HW.out HB.out⟩
end Go.Proofs.YtekjflfkbgklhaaGreat
