/-
 Se
-/
import Derived.Test.YtekjflfkbgklhaaGreatKcy
namespace Go.Proofs.YtekjflfkbgklhaaGreat
open Go.ChangeShapes Go.WideShapes Go.ChangeAt Go.RowKit
set_option linter.unusedVariables false
set_option linter.unusedSimpArgs false
set_option maxRecDepth 100000
attribute [local irreducible] Calls
def eC (N:Int) (pl:Option Addr) (nl cl:Nat) (po:Option Addr) (no co:Nat) (t0 t1:Int) (sv rv:Value):Array Value:=#[.func (.func 148) #[] #[],.func (.func 148) #[] #[],.func (.func 149) #[] #[],.func (.func 150) #[] #[],.func (.func 143) #[] #[],.func (.func 151) #[] #[],.func (.func 144) #[] #[],.func (.func 144) #[] #[],.func (.func 152) #[] #[],.int .i64 N,.slice pl nl cl,.slice po no co,.int .i64 t0,.int .i64 t1,sv,rv]
structure ExW (w:World) (eb:Nat) (N:Int) (pl:Option Addr) (cl:Nat) (po:Option Addr) (no co:Nat) (t0 t1:Int) (sv rv:Value) (L:List Is) (st rows:List (List (Int × Int))):Prop where
 blk:Blk w eb (.cells (eC N pl L.length cl po no co t0 t1 sv rv) 160)
 hl:Ix w (.slice pl L.length cl) L
 hs:Lx Vx w sv st
 hr:Lx Vx w rv rows
theorem ExW.grow {w w':World} {eb:Nat} {N:Int} {pl:Option Addr} {cl:Nat} {po:Option Addr} {no co:Nat} {t0 t1:Int} {sv rv:Value} {L:List Is} {st rows:List (List (Int × Int))} (h:ExW w eb N pl cl po no co t0 t1 sv rv L st rows) (hB:Below w.heap.size w w'):ExW w' eb N pl cl po no co t0 t1 sv rv L st rows :=
 ⟨h.blk.grow hB,h.hl.grow hB,h.hs.grow grows_rx hB,h.hr.grow grows_rx hB⟩
set_option maxHeartbeats 16000000 in
theorem next_num (w:World) (eb:Nat) (N:Int) (pl:Option Addr) (cl:Nat) (po:Option Addr) (no co:Nat) (t0 t1:Int) (sv rv:Value) (L:List Is) (st rows:List (List (Int × Int))) (i k:Nat) (a b:Int) (lo hi:Int) (hU:ExW w eb N pl cl po no co t0 t1 sv rv L st rows) (hx:L[i]? = some ⟨1,a,b,lo,hi⟩) (hk:k ≤ 100) (r0 r1:Int) (hres:gI [(lo,hi)] k = (r0,r1)) :
  Calls Tryz.prog 147 #[.pointer (some ⟨eb,0,none⟩),.int .i64 i,.int .i64 k] w fun e w'=>e = .returned (.agg #[.int .i64 r0,.int .i64 r1])∧Below w.heap.size w w':=by
 obtain ⟨ps,cs,rfl⟩:=hU.hs.cut
 obtain ⟨pv,cv,rfl⟩:=hU.hr.cut
 obtain ⟨bl,ol,hpl,hbl,rdl⟩:=is_rd hU.hl hx
 subst hpl
 have hil:(i:Int) < L.length:=by have:=(List.getElem?_eq_some_iff.1 hx).1; omega
 have hE:Below w.heap.size w ((w.alloc (.cells #[.int .i64 0,.int .i64 0] 59)).alloc (.cells #[.int .i64 1,.int .i64 a,.int .i64 b,.int .i64 lo,.int .i64 hi] 112)):=allocs_below [.cells #[.int .i64 0,.int .i64 0] 59,.cells #[.int .i64 1,.int .i64 a,.int .i64 b,.int .i64 lo,.int .i64 hi] 112] w
 have HR:=Lib.hid (show Blk ((w.alloc (.cells #[.int .i64 0,.int .i64 0] 59)).alloc (.cells #[.int .i64 1,.int .i64 a,.int .i64 b,.int .i64 lo,.int .i64 hi] 112)) (w.heap.size) (.cells #[.int .i64 0,.int .i64 0] 59) from allocs_at [.cells #[.int .i64 0,.int .i64 0] 59,.cells #[.int .i64 1,.int .i64 a,.int .i64 b,.int .i64 lo,.int .i64 hi] 112] w 0 _ rfl)
 have HX:=Lib.hid (show Blk ((w.alloc (.cells #[.int .i64 0,.int .i64 0] 59)).alloc (.cells #[.int .i64 1,.int .i64 a,.int .i64 b,.int .i64 lo,.int .i64 hi] 112)) (w.heap.size+1) (.cells #[.int .i64 1,.int .i64 a,.int .i64 b,.int .i64 lo,.int .i64 hi] 112) from allocs_at [.cells #[.int .i64 0,.int .i64 0] 59,.cells #[.int .i64 1,.int .i64 a,.int .i64 b,.int .i64 lo,.int .i64 hi] 112] w 1 _ rfl)
 have hE1:Below w.heap.size w (w.alloc (.cells #[.int .i64 0,.int .i64 0] 59)):=allocs_below [.cells #[.int .i64 0,.int .i64 0] 59] w
 have HE:=Lib.hid (hU.blk.grow hE)
 have he1:=hU.blk.grow hE1
 unfold eC at HE he1
 have e10:=heapN_cellj he1 (k:=10) rfl
 obtain ⟨x0,x1,x2,x3,x4⟩:=rdl ⟨_,hE1⟩
 dsimp only at x0 x1 x2 x3 x4
 have z0:=heapN_cellj HX.out (k:=0) rfl
 have HW:=Lib.hid hE
 clear hE hE1 he1 rdl hU
 have KF:=Lib.hid (fun w v h=>coef_ok k v [(lo,hi)] w h (by omega))
 rw [hres] at KF
 clear hres
 go_enter Tryz.func147,Tryz.ntmps147
 go_wp2_with (fail)
 generalize hW0:World.alloc (World.alloc w _) _ = W0 at *
 clear hW0 e10 x0 x1 x2 x3 x4 z0
 have e0:=fun g:Grown W0=>heapN_cellj (HE.out.grow g.h) (k:=0) rfl
 have e1:=fun g:Grown W0=>heapN_cellj (HE.out.grow g.h) (k:=1) rfl
 have e2:=fun g:Grown W0=>heapN_cellj (HE.out.grow g.h) (k:=2) rfl
 have e3:=fun g:Grown W0=>heapN_cellj (HE.out.grow g.h) (k:=3) rfl
 have e4:=fun g:Grown W0=>heapN_cellj (HE.out.grow g.h) (k:=4) rfl
 have e5:=fun g:Grown W0=>heapN_cellj (HE.out.grow g.h) (k:=5) rfl
 have e6:=fun g:Grown W0=>heapN_cellj (HE.out.grow g.h) (k:=6) rfl
 have e7:=fun g:Grown W0=>heapN_cellj (HE.out.grow g.h) (k:=7) rfl
 have e8:=fun g:Grown W0=>heapN_cellj (HE.out.grow g.h) (k:=8) rfl
 have e9:=fun g:Grown W0=>heapN_cellj (HE.out.grow g.h) (k:=9) rfl
 have e10:=fun g:Grown W0=>heapN_cellj (HE.out.grow g.h) (k:=10) rfl
 have e11:=fun g:Grown W0=>heapN_cellj (HE.out.grow g.h) (k:=11) rfl
 have e12:=fun g:Grown W0=>heapN_cellj (HE.out.grow g.h) (k:=12) rfl
 have e13:=fun g:Grown W0=>heapN_cellj (HE.out.grow g.h) (k:=13) rfl
 have e14:=fun g:Grown W0=>heapN_cellj (HE.out.grow g.h) (k:=14) rfl
 have e15:=fun g:Grown W0=>heapN_cellj (HE.out.grow g.h) (k:=15) rfl
 have z0:=fun g:Grown W0=>heapN_cellj (HX.out.grow g.h) (k:=0) rfl
 have z1:=fun g:Grown W0=>heapN_cellj (HX.out.grow g.h) (k:=1) rfl
 have z2:=fun g:Grown W0=>heapN_cellj (HX.out.grow g.h) (k:=2) rfl
 have z3:=fun g:Grown W0=>heapN_cellj (HX.out.grow g.h) (k:=3) rfl
 have z4:=fun g:Grown W0=>heapN_cellj (HX.out.grow g.h) (k:=4) rfl
 refine region_pred_l (lk [(22,fun z_ _=>z_ = .pointer (some ⟨eb,0,none⟩)),(23,fun z_ _=>z_ = .pointer (some ⟨eb,0,none⟩)),(24,fun z_ _=>z_ = .pointer (some ⟨eb,0,none⟩)),(25,fun z_ _=>z_ = .pointer (some ⟨eb,0,none⟩)),(26,fun z_ _=>z_ = .func (.func 148) #[] #[]),(27,fun z_ _=>z_ = .int .i64 (k:Int)),(28,fun z_ _=>z_ = .pointer (some ⟨w.heap.size+1,3,none⟩)),(29,fun z_ _=>z_ = .agg #[.int .i64 lo,.int .i64 hi]),(30,fun z_ w'=>∃ X_,z_ = .slice (some ⟨X_,0,none⟩) 1 1∧W0.heap.size ≤ X_∧w'.heap[X_]? = some (.cells #[.int .i64 lo,.int .i64 hi] 59 (0,0))),(31,fun z_ _=>z_ = .agg #[.int .i64 r0,.int .i64 r1]),(32,fun z_ _=>z_ = .agg #[.int .i64 r0,.int .i64 r1])]) 11 _ rfl (by kernel_rfl) (by kernel_rfl) (by kernel_rfl) (lk_steady _ ⟨steady_eq _,steady_eq _,steady_eq _,steady_eq _,steady_eq _,steady_eq _,steady_eq _,steady_eq _,fun u w1 w2 hb ⟨X,e,h1,h2⟩=>⟨X,e,h1,(hb.block X (Array.getElem?_eq_some_iff.1 h2).1).trans h2⟩,steady_eq _,steady_eq _,trivial⟩) ?_ ?_
 ·refine ⟨?_,?_,?_,?_,?_,?_,?_,?_,?_,?_,?_,?_,trivial⟩
  ·refine fun _=>ob_plain [0] rfl rfl fun _ g h=>?_
   have yy0:=seen_out (v:=.pointer (some ⟨eb,0,none⟩)) rfl rfl h.1
   exact tvS (by simp [go_sem,yy0]) rfl
  ·refine fun _=>ob_plain [22] rfl rfl fun _ g h=>?_
   obtain ⟨_,yy0,rfl⟩:=seen_in rfl h.1
   exact tvS (by simp [go_sem,yy0]) rfl
  ·refine fun _=>ob_plain [23] rfl rfl fun _ g h=>?_
   obtain ⟨_,yy0,rfl⟩:=seen_in rfl h.1
   exact tvS (by simp [go_sem,yy0]) rfl
  ·refine fun _=>ob_plain [24] rfl rfl fun _ g h=>?_
   obtain ⟨_,yy0,rfl⟩:=seen_in rfl h.1
   exact tvS (by simp [go_sem,yy0]) rfl
  ·refine fun _=>ob_plain [25] rfl rfl fun _ g h=>?_
   obtain ⟨_,yy0,rfl⟩:=seen_in rfl h.1
   exact tvS (by simp [go_sem,yy0,e0 g]) rfl
  ·refine fun _=>ob_plain [2] rfl rfl fun _ g h=>?_
   have yy0:=seen_out (v:=.int .i64 (k:Int)) rfl rfl h.1
   exact tvS (by simp [go_sem,yy0]) rfl
  ·refine fun _=>ob_plain [7] rfl rfl fun _ g h=>?_
   have yy0:=seen_out (v:=.pointer (some ⟨w.heap.size+1,0,none⟩)) rfl rfl h.1
   exact tvS (by simp [go_sem,yy0]) rfl
  ·refine fun _=>ob_plain [28] rfl rfl fun _ g h=>?_
   obtain ⟨_,yy0,rfl⟩:=seen_in rfl h.1
   exact tvS (by simp [go_sem,yy0,z3 g,z4 g]) rfl
  ·refine fun _=>ob_plain [29] rfl rfl fun _ g h=>?_
   obtain ⟨_,yy0,rfl⟩:=seen_in rfl h.1
   exact tupon_value (v:=.slice (some ⟨g.w.heap.size,0,none⟩) 1 1) (w1:=g.w.alloc (.cells #[.int .i64 lo,.int .i64 hi] 59)) (by simp [go_sem,yy0]) ((Below.refl _ _).alloc (Nat.le_refl _) _) ⟨_,rfl,g.h.size,World.alloc_heap_new _ _⟩
  ·refine fun _=>ob_plain [27,30] rfl rfl fun _ g h=>?_
   obtain ⟨_,yy0,rfl⟩:=seen_in rfl h.1
   obtain ⟨_,yy1,⟨X30,rfl,hX30,hI30⟩⟩:=seen_in rfl h.2.1
   refine tupon_enter (f:=165) (args:=#[.int .i64 (k:Int),.slice (some ⟨X30,0,none⟩) 1 1]) (by simp [go_sem,yy0,yy1]) rfl ?_
   exact (KF.out g.w (.slice (some ⟨X30,0,none⟩) 1 1) (rx_blk (n:=1) (l:=[(lo,hi)]) encB_len hI30 rfl rfl (by simp only [List.length_cons,List.length_nil,maxLen]; omega))).mono fun e w' ⟨he,hB⟩=>⟨_,he,hB,rfl⟩
  ·refine fun _=>ob_plain [26,31] rfl rfl fun _ g h=>?_
   obtain ⟨_,yy0,rfl⟩:=seen_in rfl h.1
   obtain ⟨_,yy1,rfl⟩:=seen_in rfl h.2.1
   refine tupon_enter (f:=148) (args:=#[.agg #[.int .i64 r0,.int .i64 r1]]) (by simp [go_sem,yy0,yy1]) rfl ?_
   exact (same_ok r0 r1 g.w).mono fun e w' ⟨he,hB⟩=>⟨_,he,hB,rfl⟩
  ·exact fun h=>absurd rfl h
 rintro w5 hB _ rfl _ rfl _ rfl _ rfl _ rfl _ rfl _ rfl _ rfl _ ⟨X30,rfl,hX30,hI30⟩ _ rfl _ rfl
 simp only [Act.put,List.setIfInBounds_toArray,List.set_cons_succ,List.set_cons_zero,List.filterMap_nil]
 clear e0 e1 e2 e3 e4 e5 e6 e7 e8 e9 e10 e11 e12 e13 e14 e15 z0 z1 z2 z3 z4
 have hx:=HR.out.grow hB
 have HB9:=below_then HW.out hB
 have q0:=heapN_cellj hx (k:=0) rfl
 have q1:=heapN_cellj hx (k:=1) rfl
 have y0:w5.frozen? ⟨w.heap.size,0,none⟩ = false:=by simp [World.frozen?,show w5.heap[w.heap.size]? = _ from hx]
 have y1:w5.frozen? ⟨w.heap.size,1,none⟩ = false:=by simp [World.frozen?,show w5.heap[w.heap.size]? = _ from hx]
 refine ⟨_,by simp [go_sem,q0,y0,q1,y1]; rfl,?_⟩
 have HW9:=Lib.hid ((HB9.setCell (p:=⟨w.heap.size,0,none⟩) (by dsimp only; omega) (.int .i64 r0)).setCell (p:=⟨w.heap.size,1,none⟩) (by dsimp only; omega) (.int .i64 r1))
 have hs9:=cellsT_setN (o:=1) (u:=.int .i64 r1) (cellsT_setN (o:=0) (u:=.int .i64 r0) hx)
 have x0:=heapN_cellj hs9 (k:=0) (u:=.int .i64 r0) rfl
 have x1:=heapN_cellj hs9 (k:=1) (u:=.int .i64 r1) rfl
 clear hs9 hx q0 q1 y0 y1
 go_wp2_with (fail)
 exact bodyPost_ret (v:=.agg #[.int .i64 r0,.int .i64 r1]) (by simp [results,Tryz.results147,go_sem,x0,x1]) rfl ⟨rfl,HW9.out⟩
set_option maxHeartbeats 16000000 in
theorem next_time (w:World) (eb:Nat) (N:Int) (pl:Option Addr) (cl:Nat) (po:Option Addr) (no co:Nat) (t0 t1:Int) (sv rv:Value) (L:List Is) (st rows:List (List (Int × Int))) (i k:Nat) (a b:Int) (lo hi:Int) (hU:ExW w eb N pl cl po no co t0 t1 sv rv L st rows) (hx:L[i]? = some ⟨3,a,b,lo,hi⟩) (hk:k ≤ 100) (r0 r1:Int) (hres:gI [(t0,t1),(65536,65536)] k = (r0,r1)) :
  Calls Tryz.prog 147 #[.pointer (some ⟨eb,0,none⟩),.int .i64 i,.int .i64 k] w fun e w'=>e = .returned (.agg #[.int .i64 r0,.int .i64 r1])∧Below w.heap.size w w':=by
 obtain ⟨ps,cs,rfl⟩:=hU.hs.cut
 obtain ⟨pv,cv,rfl⟩:=hU.hr.cut
 obtain ⟨bl,ol,hpl,hbl,rdl⟩:=is_rd hU.hl hx
 subst hpl
 have hil:(i:Int) < L.length:=by have:=(List.getElem?_eq_some_iff.1 hx).1; omega
 have hE:Below w.heap.size w ((w.alloc (.cells #[.int .i64 0,.int .i64 0] 59)).alloc (.cells #[.int .i64 3,.int .i64 a,.int .i64 b,.int .i64 lo,.int .i64 hi] 112)):=allocs_below [.cells #[.int .i64 0,.int .i64 0] 59,.cells #[.int .i64 3,.int .i64 a,.int .i64 b,.int .i64 lo,.int .i64 hi] 112] w
 have HR:=Lib.hid (show Blk ((w.alloc (.cells #[.int .i64 0,.int .i64 0] 59)).alloc (.cells #[.int .i64 3,.int .i64 a,.int .i64 b,.int .i64 lo,.int .i64 hi] 112)) (w.heap.size) (.cells #[.int .i64 0,.int .i64 0] 59) from allocs_at [.cells #[.int .i64 0,.int .i64 0] 59,.cells #[.int .i64 3,.int .i64 a,.int .i64 b,.int .i64 lo,.int .i64 hi] 112] w 0 _ rfl)
 have HX:=Lib.hid (show Blk ((w.alloc (.cells #[.int .i64 0,.int .i64 0] 59)).alloc (.cells #[.int .i64 3,.int .i64 a,.int .i64 b,.int .i64 lo,.int .i64 hi] 112)) (w.heap.size+1) (.cells #[.int .i64 3,.int .i64 a,.int .i64 b,.int .i64 lo,.int .i64 hi] 112) from allocs_at [.cells #[.int .i64 0,.int .i64 0] 59,.cells #[.int .i64 3,.int .i64 a,.int .i64 b,.int .i64 lo,.int .i64 hi] 112] w 1 _ rfl)
 have hE1:Below w.heap.size w (w.alloc (.cells #[.int .i64 0,.int .i64 0] 59)):=allocs_below [.cells #[.int .i64 0,.int .i64 0] 59] w
 have HE:=Lib.hid (hU.blk.grow hE)
 have he1:=hU.blk.grow hE1
 unfold eC at HE he1
 have e10:=heapN_cellj he1 (k:=10) rfl
 obtain ⟨x0,x1,x2,x3,x4⟩:=rdl ⟨_,hE1⟩
 dsimp only at x0 x1 x2 x3 x4
 have z0:=heapN_cellj HX.out (k:=0) rfl
 have HW:=Lib.hid hE
 clear hE hE1 he1 rdl hU
 have KF:=Lib.hid (fun w v h=>coef_ok k v [(t0,t1),(65536,65536)] w h (by omega))
 rw [hres] at KF
 clear hres
 go_enter Tryz.func147,Tryz.ntmps147
 go_wp2_with (fail)
 generalize hW0:World.alloc (World.alloc w _) _ = W0 at *
 clear hW0 e10 x0 x1 x2 x3 x4 z0
 have e0:=fun g:Grown W0=>heapN_cellj (HE.out.grow g.h) (k:=0) rfl
 have e1:=fun g:Grown W0=>heapN_cellj (HE.out.grow g.h) (k:=1) rfl
 have e2:=fun g:Grown W0=>heapN_cellj (HE.out.grow g.h) (k:=2) rfl
 have e3:=fun g:Grown W0=>heapN_cellj (HE.out.grow g.h) (k:=3) rfl
 have e4:=fun g:Grown W0=>heapN_cellj (HE.out.grow g.h) (k:=4) rfl
 have e5:=fun g:Grown W0=>heapN_cellj (HE.out.grow g.h) (k:=5) rfl
 have e6:=fun g:Grown W0=>heapN_cellj (HE.out.grow g.h) (k:=6) rfl
 have e7:=fun g:Grown W0=>heapN_cellj (HE.out.grow g.h) (k:=7) rfl
 have e8:=fun g:Grown W0=>heapN_cellj (HE.out.grow g.h) (k:=8) rfl
 have e9:=fun g:Grown W0=>heapN_cellj (HE.out.grow g.h) (k:=9) rfl
 have e10:=fun g:Grown W0=>heapN_cellj (HE.out.grow g.h) (k:=10) rfl
 have e11:=fun g:Grown W0=>heapN_cellj (HE.out.grow g.h) (k:=11) rfl
 have e12:=fun g:Grown W0=>heapN_cellj (HE.out.grow g.h) (k:=12) rfl
 have e13:=fun g:Grown W0=>heapN_cellj (HE.out.grow g.h) (k:=13) rfl
 have e14:=fun g:Grown W0=>heapN_cellj (HE.out.grow g.h) (k:=14) rfl
 have e15:=fun g:Grown W0=>heapN_cellj (HE.out.grow g.h) (k:=15) rfl
 have z0:=fun g:Grown W0=>heapN_cellj (HX.out.grow g.h) (k:=0) rfl
 have z1:=fun g:Grown W0=>heapN_cellj (HX.out.grow g.h) (k:=1) rfl
 have z2:=fun g:Grown W0=>heapN_cellj (HX.out.grow g.h) (k:=2) rfl
 have z3:=fun g:Grown W0=>heapN_cellj (HX.out.grow g.h) (k:=3) rfl
 have z4:=fun g:Grown W0=>heapN_cellj (HX.out.grow g.h) (k:=4) rfl
 refine region_pred_l (lk [(35,fun z_ _=>z_ = .pointer (some ⟨eb,0,none⟩)),(36,fun z_ _=>z_ = .pointer (some ⟨eb,0,none⟩)),(37,fun z_ _=>z_ = .pointer (some ⟨eb,0,none⟩)),(38,fun z_ _=>z_ = .pointer (some ⟨eb,0,none⟩)),(39,fun z_ _=>z_ = .func (.func 148) #[] #[]),(40,fun z_ _=>z_ = .int .i64 (k:Int)),(41,fun z_ _=>z_ = .pointer (some ⟨eb,0,none⟩)),(42,fun z_ _=>z_ = .pointer (some ⟨eb,0,none⟩)),(43,fun z_ _=>z_ = .pointer (some ⟨eb,12,none⟩)),(44,fun z_ _=>z_ = .agg #[.int .i64 t0,.int .i64 t1]),(45,fun z_ _=>z_ = .agg #[.int .i64 65536,.int .i64 65536]),(46,fun z_ w'=>∃ X_,z_ = .slice (some ⟨X_,0,none⟩) 2 2∧W0.heap.size ≤ X_∧w'.heap[X_]? = some (.cells #[.int .i64 t0,.int .i64 t1,.int .i64 65536,.int .i64 65536] 59 (0,0))),(47,fun z_ _=>z_ = .agg #[.int .i64 r0,.int .i64 r1]),(48,fun z_ _=>z_ = .agg #[.int .i64 r0,.int .i64 r1])]) 14 _ rfl (by kernel_rfl) (by kernel_rfl) (by kernel_rfl) (lk_steady _ ⟨steady_eq _,steady_eq _,steady_eq _,steady_eq _,steady_eq _,steady_eq _,steady_eq _,steady_eq _,steady_eq _,steady_eq _,steady_eq _,fun u w1 w2 hb ⟨X,e,h1,h2⟩=>⟨X,e,h1,(hb.block X (Array.getElem?_eq_some_iff.1 h2).1).trans h2⟩,steady_eq _,steady_eq _,trivial⟩) ?_ ?_
 ·refine ⟨?_,?_,?_,?_,?_,?_,?_,?_,?_,?_,?_,?_,?_,?_,?_,trivial⟩
  ·refine fun _=>ob_plain [0] rfl rfl fun _ g h=>?_
   have yy0:=seen_out (v:=.pointer (some ⟨eb,0,none⟩)) rfl rfl h.1
   exact tvS (by simp [go_sem,yy0]) rfl
  ·refine fun _=>ob_plain [35] rfl rfl fun _ g h=>?_
   obtain ⟨_,yy0,rfl⟩:=seen_in rfl h.1
   exact tvS (by simp [go_sem,yy0]) rfl
  ·refine fun _=>ob_plain [36] rfl rfl fun _ g h=>?_
   obtain ⟨_,yy0,rfl⟩:=seen_in rfl h.1
   exact tvS (by simp [go_sem,yy0]) rfl
  ·refine fun _=>ob_plain [37] rfl rfl fun _ g h=>?_
   obtain ⟨_,yy0,rfl⟩:=seen_in rfl h.1
   exact tvS (by simp [go_sem,yy0]) rfl
  ·refine fun _=>ob_plain [38] rfl rfl fun _ g h=>?_
   obtain ⟨_,yy0,rfl⟩:=seen_in rfl h.1
   exact tvS (by simp [go_sem,yy0,e0 g]) rfl
  ·refine fun _=>ob_plain [2] rfl rfl fun _ g h=>?_
   have yy0:=seen_out (v:=.int .i64 (k:Int)) rfl rfl h.1
   exact tvS (by simp [go_sem,yy0]) rfl
  ·refine fun _=>ob_plain [0] rfl rfl fun _ g h=>?_
   have yy0:=seen_out (v:=.pointer (some ⟨eb,0,none⟩)) rfl rfl h.1
   exact tvS (by simp [go_sem,yy0]) rfl
  ·refine fun _=>ob_plain [41] rfl rfl fun _ g h=>?_
   obtain ⟨_,yy0,rfl⟩:=seen_in rfl h.1
   exact tvS (by simp [go_sem,yy0]) rfl
  ·refine fun _=>ob_plain [42] rfl rfl fun _ g h=>?_
   obtain ⟨_,yy0,rfl⟩:=seen_in rfl h.1
   exact tvS (by simp [go_sem,yy0]) rfl
  ·refine fun _=>ob_plain [43] rfl rfl fun _ g h=>?_
   obtain ⟨_,yy0,rfl⟩:=seen_in rfl h.1
   exact tvS (by simp [go_sem,yy0,e12 g,e13 g]) rfl
  ·refine fun _=>ob_plain [] rfl rfl fun _ g h=>?_
   refine tupon_enter (f:=75) (args:=#[.int .i64 65536]) (by simp [go_sem]) rfl ?_
   exact (pt1_ok g.w).mono fun e w' ⟨he,hB⟩=>⟨_,he,hB,rfl⟩
  ·refine fun _=>ob_plain [44,45] rfl rfl fun _ g h=>?_
   obtain ⟨_,yy0,rfl⟩:=seen_in rfl h.1
   obtain ⟨_,yy1,rfl⟩:=seen_in rfl h.2.1
   exact tupon_value (v:=.slice (some ⟨g.w.heap.size,0,none⟩) 2 2) (w1:=g.w.alloc (.cells #[.int .i64 t0,.int .i64 t1,.int .i64 65536,.int .i64 65536] 59)) (by simp [go_sem,yy0,yy1]) ((Below.refl _ _).alloc (Nat.le_refl _) _) ⟨_,rfl,g.h.size,World.alloc_heap_new _ _⟩
  ·refine fun _=>ob_plain [40,46] rfl rfl fun _ g h=>?_
   obtain ⟨_,yy0,rfl⟩:=seen_in rfl h.1
   obtain ⟨_,yy1,⟨X46,rfl,hX46,hI46⟩⟩:=seen_in rfl h.2.1
   refine tupon_enter (f:=165) (args:=#[.int .i64 (k:Int),.slice (some ⟨X46,0,none⟩) 2 2]) (by simp [go_sem,yy0,yy1]) rfl ?_
   exact (KF.out g.w (.slice (some ⟨X46,0,none⟩) 2 2) (rx_blk (n:=2) (l:=[(t0,t1),(65536,65536)]) encB_len hI46 rfl rfl (by simp only [List.length_cons,List.length_nil,maxLen]; omega))).mono fun e w' ⟨he,hB⟩=>⟨_,he,hB,rfl⟩
  ·refine fun _=>ob_plain [39,47] rfl rfl fun _ g h=>?_
   obtain ⟨_,yy0,rfl⟩:=seen_in rfl h.1
   obtain ⟨_,yy1,rfl⟩:=seen_in rfl h.2.1
   refine tupon_enter (f:=148) (args:=#[.agg #[.int .i64 r0,.int .i64 r1]]) (by simp [go_sem,yy0,yy1]) rfl ?_
   exact (same_ok r0 r1 g.w).mono fun e w' ⟨he,hB⟩=>⟨_,he,hB,rfl⟩
  ·exact fun h=>absurd rfl h
 rintro w5 hB _ rfl _ rfl _ rfl _ rfl _ rfl _ rfl _ rfl _ rfl _ rfl _ rfl _ rfl _ ⟨X46,rfl,hX46,hI46⟩ _ rfl _ rfl
 simp only [Act.put,List.setIfInBounds_toArray,List.set_cons_succ,List.set_cons_zero,List.filterMap_nil]
 clear e0 e1 e2 e3 e4 e5 e6 e7 e8 e9 e10 e11 e12 e13 e14 e15 z0 z1 z2 z3 z4
 have hx:=HR.out.grow hB
 have HB9:=below_then HW.out hB
 have q0:=heapN_cellj hx (k:=0) rfl
 have q1:=heapN_cellj hx (k:=1) rfl
 have y0:w5.frozen? ⟨w.heap.size,0,none⟩ = false:=by simp [World.frozen?,show w5.heap[w.heap.size]? = _ from hx]
 have y1:w5.frozen? ⟨w.heap.size,1,none⟩ = false:=by simp [World.frozen?,show w5.heap[w.heap.size]? = _ from hx]
 refine ⟨_,by simp [go_sem,q0,y0,q1,y1]; rfl,?_⟩
 have HW9:=Lib.hid ((HB9.setCell (p:=⟨w.heap.size,0,none⟩) (by dsimp only; omega) (.int .i64 r0)).setCell (p:=⟨w.heap.size,1,none⟩) (by dsimp only; omega) (.int .i64 r1))
 have hs9:=cellsT_setN (o:=1) (u:=.int .i64 r1) (cellsT_setN (o:=0) (u:=.int .i64 r0) hx)
 have x0:=heapN_cellj hs9 (k:=0) (u:=.int .i64 r0) rfl
 have x1:=heapN_cellj hs9 (k:=1) (u:=.int .i64 r1) rfl
 clear hs9 hx q0 q1 y0 y1
 go_wp2_with (fail)
 exact bodyPost_ret (v:=.agg #[.int .i64 r0,.int .i64 r1]) (by simp [results,Tryz.results147,go_sem,x0,x1]) rfl ⟨rfl,HW9.out⟩
set_option maxHeartbeats 16000000 in
theorem next_var (w:World) (eb:Nat) (N:Int) (pl:Option Addr) (cl:Nat) (po:Option Addr) (no co:Nat) (t0 t1:Int) (sv rv:Value) (L:List Is) (st rows:List (List (Int × Int))) (i k:Nat) (b:Int) (a1:Nat) (lo hi:Int) (hU:ExW w eb N pl cl po no co t0 t1 sv rv L st rows) (hx:L[i]? = some ⟨2,(a1:Int),b,lo,hi⟩) (hk:k ≤ 100) (rx:List (Int × Int)) (hrx:st[a1]? = some rx) (hkx:k < rx.length) (r0 r1:Int) (hres:gI rx k = (r0,r1)) :
  Calls Tryz.prog 147 #[.pointer (some ⟨eb,0,none⟩),.int .i64 i,.int .i64 k] w fun e w'=>e = .returned (.agg #[.int .i64 r0,.int .i64 r1])∧Below w.heap.size w w':=by
 obtain ⟨ps,cs,rfl⟩:=hU.hs.cut
 obtain ⟨pv,cv,rfl⟩:=hU.hr.cut
 obtain ⟨bl,ol,hpl,hbl,rdl⟩:=is_rd hU.hl hx
 subst hpl
 have hil:(i:Int) < L.length:=by have:=(List.getElem?_eq_some_iff.1 hx).1; omega
 obtain ⟨bs,os,ux,hpx,hbx,rdtx⟩:=hU.hs.rd grows_rx hrx
 subst hpx
 obtain ⟨px,cx,ex⟩:=(rdtx ⟨w,Below.refl _ _⟩).2.2.cut
 subst ex
 have hnx:(a1:Int) < st.length:=by have:=(List.getElem?_eq_some_iff.1 hrx).1; omega
 have hE:Below w.heap.size w ((w.alloc (.cells #[.int .i64 0,.int .i64 0] 59)).alloc (.cells #[.int .i64 2,.int .i64 (a1:Int),.int .i64 b,.int .i64 lo,.int .i64 hi] 112)):=allocs_below [.cells #[.int .i64 0,.int .i64 0] 59,.cells #[.int .i64 2,.int .i64 (a1:Int),.int .i64 b,.int .i64 lo,.int .i64 hi] 112] w
 have HR:=Lib.hid (show Blk ((w.alloc (.cells #[.int .i64 0,.int .i64 0] 59)).alloc (.cells #[.int .i64 2,.int .i64 (a1:Int),.int .i64 b,.int .i64 lo,.int .i64 hi] 112)) (w.heap.size) (.cells #[.int .i64 0,.int .i64 0] 59) from allocs_at [.cells #[.int .i64 0,.int .i64 0] 59,.cells #[.int .i64 2,.int .i64 (a1:Int),.int .i64 b,.int .i64 lo,.int .i64 hi] 112] w 0 _ rfl)
 have HX:=Lib.hid (show Blk ((w.alloc (.cells #[.int .i64 0,.int .i64 0] 59)).alloc (.cells #[.int .i64 2,.int .i64 (a1:Int),.int .i64 b,.int .i64 lo,.int .i64 hi] 112)) (w.heap.size+1) (.cells #[.int .i64 2,.int .i64 (a1:Int),.int .i64 b,.int .i64 lo,.int .i64 hi] 112) from allocs_at [.cells #[.int .i64 0,.int .i64 0] 59,.cells #[.int .i64 2,.int .i64 (a1:Int),.int .i64 b,.int .i64 lo,.int .i64 hi] 112] w 1 _ rfl)
 have hE1:Below w.heap.size w (w.alloc (.cells #[.int .i64 0,.int .i64 0] 59)):=allocs_below [.cells #[.int .i64 0,.int .i64 0] 59] w
 have HE:=Lib.hid (hU.blk.grow hE)
 have he1:=hU.blk.grow hE1
 unfold eC at HE he1
 have e10:=heapN_cellj he1 (k:=10) rfl
 obtain ⟨x0,x1,x2,x3,x4⟩:=rdl ⟨_,hE1⟩
 dsimp only at x0 x1 x2 x3 x4
 have z0:=heapN_cellj HX.out (k:=0) rfl
 have RTx:=Lib.hid (fun g:Grown ((w.alloc (.cells #[.int .i64 0,.int .i64 0] 59)).alloc (.cells #[.int .i64 2,.int .i64 (a1:Int),.int .i64 b,.int .i64 lo,.int .i64 hi] 112))=>show g.w.cell? ⟨bs,os+a1,none⟩ = some (.slice px rx.length cx) from (rdtx ⟨g.w,below_then hE g.h⟩).2.1)
 have RVx:=Lib.hid (show Vx ((w.alloc (.cells #[.int .i64 0,.int .i64 0] 59)).alloc (.cells #[.int .i64 2,.int .i64 (a1:Int),.int .i64 b,.int .i64 lo,.int .i64 hi] 112)) (.slice px rx.length cx) rx from (rdtx ⟨_,hE⟩).2.2)
 have HW:=Lib.hid hE
 clear hE hE1 he1 rdl hU rdtx hbx hrx
 obtain ⟨bx,ox,hpx,hbx,rdx⟩:=vx_rd RVx.out (g_of hkx)
 subst hpx
 have hk2:(k:Int) < rx.length:=by omega
 go_enter Tryz.func147,Tryz.ntmps147
 go_wp2_with (fail)
 generalize hW0:World.alloc (World.alloc w _) _ = W0 at *
 clear hW0 e10 x0 x1 x2 x3 x4 z0
 have e0:=fun g:Grown W0=>heapN_cellj (HE.out.grow g.h) (k:=0) rfl
 have e1:=fun g:Grown W0=>heapN_cellj (HE.out.grow g.h) (k:=1) rfl
 have e2:=fun g:Grown W0=>heapN_cellj (HE.out.grow g.h) (k:=2) rfl
 have e3:=fun g:Grown W0=>heapN_cellj (HE.out.grow g.h) (k:=3) rfl
 have e4:=fun g:Grown W0=>heapN_cellj (HE.out.grow g.h) (k:=4) rfl
 have e5:=fun g:Grown W0=>heapN_cellj (HE.out.grow g.h) (k:=5) rfl
 have e6:=fun g:Grown W0=>heapN_cellj (HE.out.grow g.h) (k:=6) rfl
 have e7:=fun g:Grown W0=>heapN_cellj (HE.out.grow g.h) (k:=7) rfl
 have e8:=fun g:Grown W0=>heapN_cellj (HE.out.grow g.h) (k:=8) rfl
 have e9:=fun g:Grown W0=>heapN_cellj (HE.out.grow g.h) (k:=9) rfl
 have e10:=fun g:Grown W0=>heapN_cellj (HE.out.grow g.h) (k:=10) rfl
 have e11:=fun g:Grown W0=>heapN_cellj (HE.out.grow g.h) (k:=11) rfl
 have e12:=fun g:Grown W0=>heapN_cellj (HE.out.grow g.h) (k:=12) rfl
 have e13:=fun g:Grown W0=>heapN_cellj (HE.out.grow g.h) (k:=13) rfl
 have e14:=fun g:Grown W0=>heapN_cellj (HE.out.grow g.h) (k:=14) rfl
 have e15:=fun g:Grown W0=>heapN_cellj (HE.out.grow g.h) (k:=15) rfl
 have z0:=fun g:Grown W0=>heapN_cellj (HX.out.grow g.h) (k:=0) rfl
 have z1:=fun g:Grown W0=>heapN_cellj (HX.out.grow g.h) (k:=1) rfl
 have z2:=fun g:Grown W0=>heapN_cellj (HX.out.grow g.h) (k:=2) rfl
 have z3:=fun g:Grown W0=>heapN_cellj (HX.out.grow g.h) (k:=3) rfl
 have z4:=fun g:Grown W0=>heapN_cellj (HX.out.grow g.h) (k:=4) rfl
 have rtx:=RTx.out
 have f0:=fun g:Grown W0=>(rdx g).1
 have f1:=fun g:Grown W0=>(rdx g).2
 rw [hres] at f0 f1
 dsimp only at f0 f1
 refine region_pred_l (lk [(51,fun z_ _=>z_ = .pointer (some ⟨eb,0,none⟩)),(52,fun z_ _=>z_ = .pointer (some ⟨eb,0,none⟩)),(53,fun z_ _=>z_ = .pointer (some ⟨eb,14,none⟩)),(54,fun z_ _=>z_ = .slice (some ⟨bs,os,none⟩) st.length cs),(55,fun z_ _=>z_ = .pointer (some ⟨w.heap.size+1,1,none⟩)),(56,fun z_ _=>z_ = .int .i64 (a1:Int)),(57,fun z_ _=>z_ = .pointer (some ⟨bs,os+a1,none⟩)),(58,fun z_ _=>z_ = .slice (some ⟨bx,ox,none⟩) rx.length cx),(59,fun z_ _=>z_ = .int .i64 (k:Int)),(60,fun z_ _=>z_ = .pointer (some ⟨bx,ox+k * 2,none⟩)),(61,fun z_ _=>z_ = .agg #[.int .i64 r0,.int .i64 r1])]) 11 _ rfl (by kernel_rfl) (by kernel_rfl) (by kernel_rfl) (lk_steady _ ⟨steady_eq _,steady_eq _,steady_eq _,steady_eq _,steady_eq _,steady_eq _,steady_eq _,steady_eq _,steady_eq _,steady_eq _,steady_eq _,trivial⟩) ?_ ?_
 ·refine ⟨?_,?_,?_,?_,?_,?_,?_,?_,?_,?_,?_,?_,trivial⟩
  ·refine fun _=>ob_plain [0] rfl rfl fun _ g h=>?_
   have yy0:=seen_out (v:=.pointer (some ⟨eb,0,none⟩)) rfl rfl h.1
   exact tvS (by simp [go_sem,yy0]) rfl
  ·refine fun _=>ob_plain [51] rfl rfl fun _ g h=>?_
   obtain ⟨_,yy0,rfl⟩:=seen_in rfl h.1
   exact tvS (by simp [go_sem,yy0]) rfl
  ·refine fun _=>ob_plain [52] rfl rfl fun _ g h=>?_
   obtain ⟨_,yy0,rfl⟩:=seen_in rfl h.1
   exact tvS (by simp [go_sem,yy0]) rfl
  ·refine fun _=>ob_plain [53] rfl rfl fun _ g h=>?_
   obtain ⟨_,yy0,rfl⟩:=seen_in rfl h.1
   exact tvS (by simp [go_sem,yy0,e14 g]) rfl
  ·refine fun _=>ob_plain [7] rfl rfl fun _ g h=>?_
   have yy0:=seen_out (v:=.pointer (some ⟨w.heap.size+1,0,none⟩)) rfl rfl h.1
   exact tvS (by simp [go_sem,yy0]) rfl
  ·refine fun _=>ob_plain [55] rfl rfl fun _ g h=>?_
   obtain ⟨_,yy0,rfl⟩:=seen_in rfl h.1
   exact tvS (by simp [go_sem,yy0,z1 g]) rfl
  ·refine fun _=>ob_plain [54,56] rfl rfl fun _ g h=>?_
   obtain ⟨_,yy0,rfl⟩:=seen_in rfl h.1
   obtain ⟨_,yy1,rfl⟩:=seen_in rfl h.2.1
   exact tvS (by simp [go_sem,yy0,yy1,hnx]) rfl
  ·refine fun _=>ob_plain [57] rfl rfl fun _ g h=>?_
   obtain ⟨_,yy0,rfl⟩:=seen_in rfl h.1
   exact tvS (by simp [go_sem,yy0,rtx g]) rfl
  ·refine fun _=>ob_plain [2] rfl rfl fun _ g h=>?_
   have yy0:=seen_out (v:=.int .i64 (k:Int)) rfl rfl h.1
   exact tvS (by simp [go_sem,yy0]) rfl
  ·refine fun _=>ob_plain [58,59] rfl rfl fun _ g h=>?_
   obtain ⟨_,yy0,rfl⟩:=seen_in rfl h.1
   obtain ⟨_,yy1,rfl⟩:=seen_in rfl h.2.1
   exact tvS (by simp [go_sem,yy0,yy1,hk2]) rfl
  ·refine fun _=>ob_plain [60] rfl rfl fun _ g h=>?_
   obtain ⟨_,yy0,rfl⟩:=seen_in rfl h.1
   exact tvS (by simp [go_sem,yy0,f0 g,f1 g]) rfl
  ·exact fun h=>absurd rfl h
 rintro w5 hB _ rfl _ rfl _ rfl _ rfl _ rfl _ rfl _ rfl _ rfl _ rfl _ rfl _ rfl
 simp only [Act.put,List.setIfInBounds_toArray,List.set_cons_succ,List.set_cons_zero,List.filterMap_nil]
 clear e0 e1 e2 e3 e4 e5 e6 e7 e8 e9 e10 e11 e12 e13 e14 e15 z0 z1 z2 z3 z4 f0 f1 rtx
 have hx:=HR.out.grow hB
 have HB9:=below_then HW.out hB
 have q0:=heapN_cellj hx (k:=0) rfl
 have q1:=heapN_cellj hx (k:=1) rfl
 have y0:w5.frozen? ⟨w.heap.size,0,none⟩ = false:=by simp [World.frozen?,show w5.heap[w.heap.size]? = _ from hx]
 have y1:w5.frozen? ⟨w.heap.size,1,none⟩ = false:=by simp [World.frozen?,show w5.heap[w.heap.size]? = _ from hx]
 refine ⟨_,by simp [go_sem,q0,y0,q1,y1]; rfl,?_⟩
 have HW9:=Lib.hid ((HB9.setCell (p:=⟨w.heap.size,0,none⟩) (by dsimp only; omega) (.int .i64 r0)).setCell (p:=⟨w.heap.size,1,none⟩) (by dsimp only; omega) (.int .i64 r1))
 have hs9:=cellsT_setN (o:=1) (u:=.int .i64 r1) (cellsT_setN (o:=0) (u:=.int .i64 r0) hx)
 have x0:=heapN_cellj hs9 (k:=0) (u:=.int .i64 r0) rfl
 have x1:=heapN_cellj hs9 (k:=1) (u:=.int .i64 r1) rfl
 clear hs9 hx q0 q1 y0 y1
 go_wp2_with (fail)
 exact bodyPost_ret (v:=.agg #[.int .i64 r0,.int .i64 r1]) (by simp [results,Tryz.results147,go_sem,x0,x1]) rfl ⟨rfl,HW9.out⟩
set_option maxHeartbeats 16000000 in
theorem next_neg (w:World) (eb:Nat) (N:Int) (pl:Option Addr) (cl:Nat) (po:Option Addr) (no co:Nat) (t0 t1:Int) (sv rv:Value) (L:List Is) (st rows:List (List (Int × Int))) (i k:Nat) (a1 b1:Nat) (lo hi:Int) (hU:ExW w eb N pl cl po no co t0 t1 sv rv L st rows) (hx:L[i]? = some ⟨4,(a1:Int),(b1:Int),lo,hi⟩) (hk:k ≤ 100) (ra:List (Int × Int)) (hra:rows[a1]? = some ra) (rb:List (Int × Int)) (hrb:rows[b1]? = some rb) (hka:k < ra.length) (vA:AV ra) (r0 r1:Int) (hres:opI 4 (gI ra k) (gI rb k) = (r0,r1)) :
  Calls Tryz.prog 147 #[.pointer (some ⟨eb,0,none⟩),.int .i64 i,.int .i64 k] w fun e w'=>e = .returned (.agg #[.int .i64 r0,.int .i64 r1])∧Below w.heap.size w w':=by
 obtain ⟨ps,cs,rfl⟩:=hU.hs.cut
 obtain ⟨pv,cv,rfl⟩:=hU.hr.cut
 obtain ⟨bl,ol,hpl,hbl,rdl⟩:=is_rd hU.hl hx
 subst hpl
 have hil:(i:Int) < L.length:=by have:=(List.getElem?_eq_some_iff.1 hx).1; omega
 obtain ⟨bv,ov,ua,hpa,hba,rdta⟩:=hU.hr.rd grows_rx hra
 subst hpa
 obtain ⟨pa,ca,ea⟩:=(rdta ⟨w,Below.refl _ _⟩).2.2.cut
 subst ea
 have hna:(a1:Int) < rows.length:=by have:=(List.getElem?_eq_some_iff.1 hra).1; omega
 obtain ⟨bb9,ob9,ub,hpb,hbb,rdtb⟩:=hU.hr.rd grows_rx hrb
 simp only [Option.some.injEq,Addr.mk.injEq,and_true] at hpb
 obtain ⟨rfl,rfl⟩:=hpb
 obtain ⟨pb,cb,eb⟩:=(rdtb ⟨w,Below.refl _ _⟩).2.2.cut
 subst eb
 have hnb:(b1:Int) < rows.length:=by have:=(List.getElem?_eq_some_iff.1 hrb).1; omega
 have hE:Below w.heap.size w ((w.alloc (.cells #[.int .i64 0,.int .i64 0] 59)).alloc (.cells #[.int .i64 4,.int .i64 (a1:Int),.int .i64 (b1:Int),.int .i64 lo,.int .i64 hi] 112)):=allocs_below [.cells #[.int .i64 0,.int .i64 0] 59,.cells #[.int .i64 4,.int .i64 (a1:Int),.int .i64 (b1:Int),.int .i64 lo,.int .i64 hi] 112] w
 have HR:=Lib.hid (show Blk ((w.alloc (.cells #[.int .i64 0,.int .i64 0] 59)).alloc (.cells #[.int .i64 4,.int .i64 (a1:Int),.int .i64 (b1:Int),.int .i64 lo,.int .i64 hi] 112)) (w.heap.size) (.cells #[.int .i64 0,.int .i64 0] 59) from allocs_at [.cells #[.int .i64 0,.int .i64 0] 59,.cells #[.int .i64 4,.int .i64 (a1:Int),.int .i64 (b1:Int),.int .i64 lo,.int .i64 hi] 112] w 0 _ rfl)
 have HX:=Lib.hid (show Blk ((w.alloc (.cells #[.int .i64 0,.int .i64 0] 59)).alloc (.cells #[.int .i64 4,.int .i64 (a1:Int),.int .i64 (b1:Int),.int .i64 lo,.int .i64 hi] 112)) (w.heap.size+1) (.cells #[.int .i64 4,.int .i64 (a1:Int),.int .i64 (b1:Int),.int .i64 lo,.int .i64 hi] 112) from allocs_at [.cells #[.int .i64 0,.int .i64 0] 59,.cells #[.int .i64 4,.int .i64 (a1:Int),.int .i64 (b1:Int),.int .i64 lo,.int .i64 hi] 112] w 1 _ rfl)
 have hE1:Below w.heap.size w (w.alloc (.cells #[.int .i64 0,.int .i64 0] 59)):=allocs_below [.cells #[.int .i64 0,.int .i64 0] 59] w
 have HE:=Lib.hid (hU.blk.grow hE)
 have he1:=hU.blk.grow hE1
 unfold eC at HE he1
 have e10:=heapN_cellj he1 (k:=10) rfl
 obtain ⟨x0,x1,x2,x3,x4⟩:=rdl ⟨_,hE1⟩
 dsimp only at x0 x1 x2 x3 x4
 have z0:=heapN_cellj HX.out (k:=0) rfl
 have RTa:=Lib.hid (fun g:Grown ((w.alloc (.cells #[.int .i64 0,.int .i64 0] 59)).alloc (.cells #[.int .i64 4,.int .i64 (a1:Int),.int .i64 (b1:Int),.int .i64 lo,.int .i64 hi] 112))=>show g.w.cell? ⟨bv,ov+a1,none⟩ = some (.slice pa ra.length ca) from (rdta ⟨g.w,below_then hE g.h⟩).2.1)
 have RVa:=Lib.hid (show Vx ((w.alloc (.cells #[.int .i64 0,.int .i64 0] 59)).alloc (.cells #[.int .i64 4,.int .i64 (a1:Int),.int .i64 (b1:Int),.int .i64 lo,.int .i64 hi] 112)) (.slice pa ra.length ca) ra from (rdta ⟨_,hE⟩).2.2)
 have RTb:=Lib.hid (fun g:Grown ((w.alloc (.cells #[.int .i64 0,.int .i64 0] 59)).alloc (.cells #[.int .i64 4,.int .i64 (a1:Int),.int .i64 (b1:Int),.int .i64 lo,.int .i64 hi] 112))=>show g.w.cell? ⟨bv,ov+b1,none⟩ = some (.slice pb rb.length cb) from (rdtb ⟨g.w,below_then hE g.h⟩).2.1)
 have RVb:=Lib.hid (show Vx ((w.alloc (.cells #[.int .i64 0,.int .i64 0] 59)).alloc (.cells #[.int .i64 4,.int .i64 (a1:Int),.int .i64 (b1:Int),.int .i64 lo,.int .i64 hi] 112)) (.slice pb rb.length cb) rb from (rdtb ⟨_,hE⟩).2.2)
 have HW:=Lib.hid hE
 clear hE hE1 he1 rdl hU rdta hba hra rdtb hbb hrb
 obtain ⟨ba,oa,hpa,hba,rda⟩:=vx_rd RVa.out (g_of hka)
 subst hpa
 have v2:=gI_vi vA k
 generalize gI ra k = xa at *
 obtain ⟨a0,a9⟩:=xa
 have i4:(k:Int) < ra.length:=by omega
 have KO:=Lib.hid (fun w=>iv_neg a0 a9 w ⟨v2.bd.1,v2.bd.2.1,v2.bd.2.2.1,v2.bd.2.2.2.1⟩)
 obtain ⟨e2,e3⟩:=Prod.mk.inj ((op_neg a0 a9 _).symm.trans hres)
 rw [e2,e3] at KO
 clear hres e2 e3 v2 vA
 go_enter Tryz.func147,Tryz.ntmps147
 go_wp2_with (fail)
 generalize hW0:World.alloc (World.alloc w _) _ = W0 at *
 clear hW0 e10 x0 x1 x2 x3 x4 z0
 have e0:=fun g:Grown W0=>heapN_cellj (HE.out.grow g.h) (k:=0) rfl
 have e1:=fun g:Grown W0=>heapN_cellj (HE.out.grow g.h) (k:=1) rfl
 have e2:=fun g:Grown W0=>heapN_cellj (HE.out.grow g.h) (k:=2) rfl
 have e3:=fun g:Grown W0=>heapN_cellj (HE.out.grow g.h) (k:=3) rfl
 have e4:=fun g:Grown W0=>heapN_cellj (HE.out.grow g.h) (k:=4) rfl
 have e5:=fun g:Grown W0=>heapN_cellj (HE.out.grow g.h) (k:=5) rfl
 have e6:=fun g:Grown W0=>heapN_cellj (HE.out.grow g.h) (k:=6) rfl
 have e7:=fun g:Grown W0=>heapN_cellj (HE.out.grow g.h) (k:=7) rfl
 have e8:=fun g:Grown W0=>heapN_cellj (HE.out.grow g.h) (k:=8) rfl
 have e9:=fun g:Grown W0=>heapN_cellj (HE.out.grow g.h) (k:=9) rfl
 have e10:=fun g:Grown W0=>heapN_cellj (HE.out.grow g.h) (k:=10) rfl
 have e11:=fun g:Grown W0=>heapN_cellj (HE.out.grow g.h) (k:=11) rfl
 have e12:=fun g:Grown W0=>heapN_cellj (HE.out.grow g.h) (k:=12) rfl
 have e13:=fun g:Grown W0=>heapN_cellj (HE.out.grow g.h) (k:=13) rfl
 have e14:=fun g:Grown W0=>heapN_cellj (HE.out.grow g.h) (k:=14) rfl
 have e15:=fun g:Grown W0=>heapN_cellj (HE.out.grow g.h) (k:=15) rfl
 have z0:=fun g:Grown W0=>heapN_cellj (HX.out.grow g.h) (k:=0) rfl
 have z1:=fun g:Grown W0=>heapN_cellj (HX.out.grow g.h) (k:=1) rfl
 have z2:=fun g:Grown W0=>heapN_cellj (HX.out.grow g.h) (k:=2) rfl
 have z3:=fun g:Grown W0=>heapN_cellj (HX.out.grow g.h) (k:=3) rfl
 have z4:=fun g:Grown W0=>heapN_cellj (HX.out.grow g.h) (k:=4) rfl
 have rta:=RTa.out
 have rtb:=RTb.out
 refine region_pred (lk [(62,fun z_ _=>z_ = .pointer (some ⟨eb,0,none⟩)),(63,fun z_ _=>z_ = .pointer (some ⟨eb,0,none⟩)),(64,fun z_ _=>z_ = .pointer (some ⟨eb,15,none⟩)),(65,fun z_ _=>z_ = .slice (some ⟨bv,ov,none⟩) rows.length cv),(66,fun z_ _=>z_ = .pointer (some ⟨w.heap.size+1,1,none⟩)),(67,fun z_ _=>z_ = .int .i64 (a1:Int)),(68,fun z_ _=>z_ = .pointer (some ⟨bv,ov+a1,none⟩)),(69,fun z_ _=>z_ = .slice (some ⟨ba,oa,none⟩) ra.length ca),(70,fun z_ _=>z_ = .pointer (some ⟨eb,0,none⟩)),(71,fun z_ _=>z_ = .pointer (some ⟨eb,0,none⟩)),(72,fun z_ _=>z_ = .pointer (some ⟨eb,15,none⟩)),(73,fun z_ _=>z_ = .slice (some ⟨bv,ov,none⟩) rows.length cv),(74,fun z_ _=>z_ = .pointer (some ⟨w.heap.size+1,2,none⟩)),(75,fun z_ _=>z_ = .int .i64 (b1:Int)),(76,fun z_ _=>z_ = .pointer (some ⟨bv,ov+b1,none⟩)),(77,fun z_ _=>z_ = .slice pb rb.length cb),(8,fun z_ _=>z_ = .slice (some ⟨ba,oa,none⟩) ra.length ca),(9,fun z_ _=>z_ = .slice pb rb.length cb)]) (by kernel_rfl) (by kernel_rfl) (lk_steady _ ⟨steady_eq _,steady_eq _,steady_eq _,steady_eq _,steady_eq _,steady_eq _,steady_eq _,steady_eq _,steady_eq _,steady_eq _,steady_eq _,steady_eq _,steady_eq _,steady_eq _,steady_eq _,steady_eq _,steady_eq _,steady_eq _,trivial⟩) ?_ ?_
 ·refine ⟨?_,?_,?_,?_,?_,?_,?_,?_,?_,?_,?_,?_,?_,?_,?_,?_,?_,?_,trivial⟩
  ·refine ob_plain [0] rfl rfl fun aa g h=>?_
   have yy0:=seen_out (v:=.pointer (some ⟨eb,0,none⟩)) rfl rfl h.1
   exact tvS (by simp [go_sem,yy0]) rfl
  ·refine ob_plain [62] rfl rfl fun aa g h=>?_
   obtain ⟨_,yy0,rfl⟩:=seen_in rfl h.1
   exact tvS (by simp [go_sem,yy0]) rfl
  ·refine ob_plain [63] rfl rfl fun aa g h=>?_
   obtain ⟨_,yy0,rfl⟩:=seen_in rfl h.1
   exact tvS (by simp [go_sem,yy0]) rfl
  ·refine ob_plain [64] rfl rfl fun aa g h=>?_
   obtain ⟨_,yy0,rfl⟩:=seen_in rfl h.1
   exact tvS (by simp [go_sem,yy0,e15 g]) rfl
  ·refine ob_plain [7] rfl rfl fun aa g h=>?_
   have yy0:=seen_out (v:=.pointer (some ⟨w.heap.size+1,0,none⟩)) rfl rfl h.1
   exact tvS (by simp [go_sem,yy0]) rfl
  ·refine ob_plain [66] rfl rfl fun aa g h=>?_
   obtain ⟨_,yy0,rfl⟩:=seen_in rfl h.1
   exact tvS (by simp [go_sem,yy0,z1 g]) rfl
  ·refine ob_plain [65,67] rfl rfl fun aa g h=>?_
   obtain ⟨_,yy0,rfl⟩:=seen_in rfl h.1
   obtain ⟨_,yy1,rfl⟩:=seen_in rfl h.2.1
   exact tvS (by simp [go_sem,yy0,yy1,hna]) rfl
  ·refine ob_plain [68] rfl rfl fun aa g h=>?_
   obtain ⟨_,yy0,rfl⟩:=seen_in rfl h.1
   exact tvS (by simp [go_sem,yy0,rta g]) rfl
  ·refine ob_plain [0] rfl rfl fun aa g h=>?_
   have yy0:=seen_out (v:=.pointer (some ⟨eb,0,none⟩)) rfl rfl h.1
   exact tvS (by simp [go_sem,yy0]) rfl
  ·refine ob_plain [70] rfl rfl fun aa g h=>?_
   obtain ⟨_,yy0,rfl⟩:=seen_in rfl h.1
   exact tvS (by simp [go_sem,yy0]) rfl
  ·refine ob_plain [71] rfl rfl fun aa g h=>?_
   obtain ⟨_,yy0,rfl⟩:=seen_in rfl h.1
   exact tvS (by simp [go_sem,yy0]) rfl
  ·refine ob_plain [72] rfl rfl fun aa g h=>?_
   obtain ⟨_,yy0,rfl⟩:=seen_in rfl h.1
   exact tvS (by simp [go_sem,yy0,e15 g]) rfl
  ·refine ob_plain [7] rfl rfl fun aa g h=>?_
   have yy0:=seen_out (v:=.pointer (some ⟨w.heap.size+1,0,none⟩)) rfl rfl h.1
   exact tvS (by simp [go_sem,yy0]) rfl
  ·refine ob_plain [74] rfl rfl fun aa g h=>?_
   obtain ⟨_,yy0,rfl⟩:=seen_in rfl h.1
   exact tvS (by simp [go_sem,yy0,z2 g]) rfl
  ·refine ob_plain [73,75] rfl rfl fun aa g h=>?_
   obtain ⟨_,yy0,rfl⟩:=seen_in rfl h.1
   obtain ⟨_,yy1,rfl⟩:=seen_in rfl h.2.1
   exact tvS (by simp [go_sem,yy0,yy1,hnb]) rfl
  ·refine ob_plain [76] rfl rfl fun aa g h=>?_
   obtain ⟨_,yy0,rfl⟩:=seen_in rfl h.1
   exact tvS (by simp [go_sem,yy0,rtb g]) rfl
  ·refine ob_plain [69] rfl rfl fun aa g h=>?_
   obtain ⟨_,yy0,rfl⟩:=seen_in rfl h.1
   exact tvS (by simp [go_sem,yy0]) rfl
  ·refine ob_plain [77] rfl rfl fun aa g h=>?_
   obtain ⟨_,yy0,rfl⟩:=seen_in rfl h.1
   exact tvS (by simp [go_sem,yy0]) rfl
 rintro w5 hB _ rfl _ rfl _ rfl _ rfl _ rfl _ rfl _ rfl _ rfl _ rfl _ rfl _ rfl _ rfl _ rfl _ rfl _ rfl _ rfl _ rfl _ rfl
 simp only [Act.put,List.setIfInBounds_toArray,List.set_cons_succ,List.set_cons_zero,List.filterMap_nil,finP]
 have HB5:=Lib.hid hB
 have HW5:=Lib.hid (below_then HW.out hB)
 have HE5:=Lib.hid (HE.out.grow hB)
 have HX5:=Lib.hid (HX.out.grow hB)
 have HR5:=Lib.hid (HR.out.grow hB)
 have RVa5:=Lib.hid (RVa.out.grow hB)
 have RVb5:=Lib.hid (RVb.out.grow hB)
 clear hB e0 e1 e2 e3 e4 e5 e6 e7 e8 e9 e10 e11 e12 e13 e14 e15 z0 z1 z2 z3 z4 rta rtb
 have z0:=heapN_cellj HX5.out (k:=0) rfl
 go_wp2_with (fail)
 clear z0
 have e0:=fun g:Grown w5=>heapN_cellj (HE5.out.grow g.h) (k:=0) rfl
 have e1:=fun g:Grown w5=>heapN_cellj (HE5.out.grow g.h) (k:=1) rfl
 have e2:=fun g:Grown w5=>heapN_cellj (HE5.out.grow g.h) (k:=2) rfl
 have e3:=fun g:Grown w5=>heapN_cellj (HE5.out.grow g.h) (k:=3) rfl
 have e4:=fun g:Grown w5=>heapN_cellj (HE5.out.grow g.h) (k:=4) rfl
 have e5:=fun g:Grown w5=>heapN_cellj (HE5.out.grow g.h) (k:=5) rfl
 have e6:=fun g:Grown w5=>heapN_cellj (HE5.out.grow g.h) (k:=6) rfl
 have e7:=fun g:Grown w5=>heapN_cellj (HE5.out.grow g.h) (k:=7) rfl
 have e8:=fun g:Grown w5=>heapN_cellj (HE5.out.grow g.h) (k:=8) rfl
 have e9:=fun g:Grown w5=>heapN_cellj (HE5.out.grow g.h) (k:=9) rfl
 have e10:=fun g:Grown w5=>heapN_cellj (HE5.out.grow g.h) (k:=10) rfl
 have e11:=fun g:Grown w5=>heapN_cellj (HE5.out.grow g.h) (k:=11) rfl
 have e12:=fun g:Grown w5=>heapN_cellj (HE5.out.grow g.h) (k:=12) rfl
 have e13:=fun g:Grown w5=>heapN_cellj (HE5.out.grow g.h) (k:=13) rfl
 have e14:=fun g:Grown w5=>heapN_cellj (HE5.out.grow g.h) (k:=14) rfl
 have e15:=fun g:Grown w5=>heapN_cellj (HE5.out.grow g.h) (k:=15) rfl
 have f0:=fun g:Grown w5=>(rda ⟨g.w,below_then HB5.out g.h⟩).1
 have f1:=fun g:Grown w5=>(rda ⟨g.w,below_then HB5.out g.h⟩).2
 dsimp only at f0 f1
 refine region_pred_l (lk [(82,fun z_ _=>z_ = .pointer (some ⟨eb,0,none⟩)),(83,fun z_ _=>z_ = .pointer (some ⟨eb,0,none⟩)),(84,fun z_ _=>z_ = .pointer (some ⟨eb,0,none⟩)),(85,fun z_ _=>z_ = .pointer (some ⟨eb,2,none⟩)),(86,fun z_ _=>z_ = .func (.func 149) #[] #[]),(87,fun z_ _=>z_ = .slice (some ⟨ba,oa,none⟩) ra.length ca),(88,fun z_ _=>z_ = .int .i64 (k:Int)),(89,fun z_ _=>z_ = .pointer (some ⟨ba,oa+k * 2,none⟩)),(90,fun z_ _=>z_ = .agg #[.int .i64 a0,.int .i64 a9]),(91,fun z_ _=>z_ = .agg #[.int .i64 r0,.int .i64 r1])]) 10 _ rfl (by kernel_rfl) (by kernel_rfl) (by kernel_rfl) (lk_steady _ ⟨steady_eq _,steady_eq _,steady_eq _,steady_eq _,steady_eq _,steady_eq _,steady_eq _,steady_eq _,steady_eq _,steady_eq _,trivial⟩) ?_ ?_
 ·refine ⟨?_,?_,?_,?_,?_,?_,?_,?_,?_,?_,?_,trivial⟩
  ·refine fun _=>ob_plain [0] rfl rfl fun _ g h=>?_
   have yy0:=seen_out (v:=.pointer (some ⟨eb,0,none⟩)) rfl rfl h.1
   exact tvS (by simp [go_sem,yy0]) rfl
  ·refine fun _=>ob_plain [82] rfl rfl fun _ g h=>?_
   obtain ⟨_,yy0,rfl⟩:=seen_in rfl h.1
   exact tvS (by simp [go_sem,yy0]) rfl
  ·refine fun _=>ob_plain [83] rfl rfl fun _ g h=>?_
   obtain ⟨_,yy0,rfl⟩:=seen_in rfl h.1
   exact tvS (by simp [go_sem,yy0]) rfl
  ·refine fun _=>ob_plain [84] rfl rfl fun _ g h=>?_
   obtain ⟨_,yy0,rfl⟩:=seen_in rfl h.1
   exact tvS (by simp [go_sem,yy0]) rfl
  ·refine fun _=>ob_plain [85] rfl rfl fun _ g h=>?_
   obtain ⟨_,yy0,rfl⟩:=seen_in rfl h.1
   exact tvS (by simp [go_sem,yy0,e2 g]) rfl
  ·refine fun _=>ob_plain [8] rfl rfl fun _ g h=>?_
   have yy0:=seen_out (v:=.slice (some ⟨ba,oa,none⟩) ra.length ca) rfl rfl h.1
   exact tvS (by simp [go_sem,yy0]) rfl
  ·refine fun _=>ob_plain [2] rfl rfl fun _ g h=>?_
   have yy0:=seen_out (v:=.int .i64 (k:Int)) rfl rfl h.1
   exact tvS (by simp [go_sem,yy0]) rfl
  ·refine fun _=>ob_plain [87,88] rfl rfl fun _ g h=>?_
   obtain ⟨_,yy0,rfl⟩:=seen_in rfl h.1
   obtain ⟨_,yy1,rfl⟩:=seen_in rfl h.2.1
   exact tvS (by simp [go_sem,yy0,yy1,i4]) rfl
  ·refine fun _=>ob_plain [89] rfl rfl fun _ g h=>?_
   obtain ⟨_,yy0,rfl⟩:=seen_in rfl h.1
   exact tvS (by simp [go_sem,yy0,f0 g,f1 g]) rfl
  ·refine fun _=>ob_plain [86,90] rfl rfl fun _ g h=>?_
   obtain ⟨_,yy0,rfl⟩:=seen_in rfl h.1
   obtain ⟨_,yy1,rfl⟩:=seen_in rfl h.2.1
   refine tupon_enter (f:=149) (args:=#[.agg #[.int .i64 a0,.int .i64 a9]]) (by simp [go_sem,yy0,yy1]) rfl ?_
   exact (KO.out g.w).mono fun e w' ⟨he,hB⟩=>⟨_,he,hB,rfl⟩
  ·exact fun h=>absurd rfl h
 rintro w7 hB _ rfl _ rfl _ rfl _ rfl _ rfl _ rfl _ rfl _ rfl _ rfl _ rfl
 simp only [Act.put,List.setIfInBounds_toArray,List.set_cons_succ,List.set_cons_zero,List.filterMap_nil]
 clear f0 f1 e0 e1 e2 e3 e4 e5 e6 e7 e8 e9 e10 e11 e12 e13 e14 e15
 have hx:=HR5.out.grow hB
 have HB9:=below_then HW5.out hB
 have q0:=heapN_cellj hx (k:=0) rfl
 have q1:=heapN_cellj hx (k:=1) rfl
 have y0:w7.frozen? ⟨w.heap.size,0,none⟩ = false:=by simp [World.frozen?,show w7.heap[w.heap.size]? = _ from hx]
 have y1:w7.frozen? ⟨w.heap.size,1,none⟩ = false:=by simp [World.frozen?,show w7.heap[w.heap.size]? = _ from hx]
 refine ⟨_,by simp [go_sem,q0,y0,q1,y1]; rfl,?_⟩
 have HW9:=Lib.hid ((HB9.setCell (p:=⟨w.heap.size,0,none⟩) (by dsimp only; omega) (.int .i64 r0)).setCell (p:=⟨w.heap.size,1,none⟩) (by dsimp only; omega) (.int .i64 r1))
 have hs9:=cellsT_setN (o:=1) (u:=.int .i64 r1) (cellsT_setN (o:=0) (u:=.int .i64 r0) hx)
 have x0:=heapN_cellj hs9 (k:=0) (u:=.int .i64 r0) rfl
 have x1:=heapN_cellj hs9 (k:=1) (u:=.int .i64 r1) rfl
 clear hs9 hx q0 q1 y0 y1
 go_wp2_with (fail)
 exact bodyPost_ret (v:=.agg #[.int .i64 r0,.int .i64 r1]) (by simp [results,Tryz.results147,go_sem,x0,x1]) rfl ⟨rfl,HW9.out⟩
set_option maxHeartbeats 16000000 in
theorem next_add (w:World) (eb:Nat) (N:Int) (pl:Option Addr) (cl:Nat) (po:Option Addr) (no co:Nat) (t0 t1:Int) (sv rv:Value) (L:List Is) (st rows:List (List (Int × Int))) (i k:Nat) (a1 b1:Nat) (lo hi:Int) (hU:ExW w eb N pl cl po no co t0 t1 sv rv L st rows) (hx:L[i]? = some ⟨7,(a1:Int),(b1:Int),lo,hi⟩) (hk:k ≤ 100) (ra:List (Int × Int)) (hra:rows[a1]? = some ra) (rb:List (Int × Int)) (hrb:rows[b1]? = some rb) (hka:k < ra.length) (vA:AV ra) (hkb:k < rb.length) (vB:AV rb) (r0 r1:Int) (hres:opI 7 (gI ra k) (gI rb k) = (r0,r1)) :
  Calls Tryz.prog 147 #[.pointer (some ⟨eb,0,none⟩),.int .i64 i,.int .i64 k] w fun e w'=>e = .returned (.agg #[.int .i64 r0,.int .i64 r1])∧Below w.heap.size w w':=by
 obtain ⟨ps,cs,rfl⟩:=hU.hs.cut
 obtain ⟨pv,cv,rfl⟩:=hU.hr.cut
 obtain ⟨bl,ol,hpl,hbl,rdl⟩:=is_rd hU.hl hx
 subst hpl
 have hil:(i:Int) < L.length:=by have:=(List.getElem?_eq_some_iff.1 hx).1; omega
 obtain ⟨bv,ov,ua,hpa,hba,rdta⟩:=hU.hr.rd grows_rx hra
 subst hpa
 obtain ⟨pa,ca,ea⟩:=(rdta ⟨w,Below.refl _ _⟩).2.2.cut
 subst ea
 have hna:(a1:Int) < rows.length:=by have:=(List.getElem?_eq_some_iff.1 hra).1; omega
 obtain ⟨bb9,ob9,ub,hpb,hbb,rdtb⟩:=hU.hr.rd grows_rx hrb
 simp only [Option.some.injEq,Addr.mk.injEq,and_true] at hpb
 obtain ⟨rfl,rfl⟩:=hpb
 obtain ⟨pb,cb,eb⟩:=(rdtb ⟨w,Below.refl _ _⟩).2.2.cut
 subst eb
 have hnb:(b1:Int) < rows.length:=by have:=(List.getElem?_eq_some_iff.1 hrb).1; omega
 have hE:Below w.heap.size w ((w.alloc (.cells #[.int .i64 0,.int .i64 0] 59)).alloc (.cells #[.int .i64 7,.int .i64 (a1:Int),.int .i64 (b1:Int),.int .i64 lo,.int .i64 hi] 112)):=allocs_below [.cells #[.int .i64 0,.int .i64 0] 59,.cells #[.int .i64 7,.int .i64 (a1:Int),.int .i64 (b1:Int),.int .i64 lo,.int .i64 hi] 112] w
 have HR:=Lib.hid (show Blk ((w.alloc (.cells #[.int .i64 0,.int .i64 0] 59)).alloc (.cells #[.int .i64 7,.int .i64 (a1:Int),.int .i64 (b1:Int),.int .i64 lo,.int .i64 hi] 112)) (w.heap.size) (.cells #[.int .i64 0,.int .i64 0] 59) from allocs_at [.cells #[.int .i64 0,.int .i64 0] 59,.cells #[.int .i64 7,.int .i64 (a1:Int),.int .i64 (b1:Int),.int .i64 lo,.int .i64 hi] 112] w 0 _ rfl)
 have HX:=Lib.hid (show Blk ((w.alloc (.cells #[.int .i64 0,.int .i64 0] 59)).alloc (.cells #[.int .i64 7,.int .i64 (a1:Int),.int .i64 (b1:Int),.int .i64 lo,.int .i64 hi] 112)) (w.heap.size+1) (.cells #[.int .i64 7,.int .i64 (a1:Int),.int .i64 (b1:Int),.int .i64 lo,.int .i64 hi] 112) from allocs_at [.cells #[.int .i64 0,.int .i64 0] 59,.cells #[.int .i64 7,.int .i64 (a1:Int),.int .i64 (b1:Int),.int .i64 lo,.int .i64 hi] 112] w 1 _ rfl)
 have hE1:Below w.heap.size w (w.alloc (.cells #[.int .i64 0,.int .i64 0] 59)):=allocs_below [.cells #[.int .i64 0,.int .i64 0] 59] w
 have HE:=Lib.hid (hU.blk.grow hE)
 have he1:=hU.blk.grow hE1
 unfold eC at HE he1
 have e10:=heapN_cellj he1 (k:=10) rfl
 obtain ⟨x0,x1,x2,x3,x4⟩:=rdl ⟨_,hE1⟩
 dsimp only at x0 x1 x2 x3 x4
 have z0:=heapN_cellj HX.out (k:=0) rfl
 have RTa:=Lib.hid (fun g:Grown ((w.alloc (.cells #[.int .i64 0,.int .i64 0] 59)).alloc (.cells #[.int .i64 7,.int .i64 (a1:Int),.int .i64 (b1:Int),.int .i64 lo,.int .i64 hi] 112))=>show g.w.cell? ⟨bv,ov+a1,none⟩ = some (.slice pa ra.length ca) from (rdta ⟨g.w,below_then hE g.h⟩).2.1)
 have RVa:=Lib.hid (show Vx ((w.alloc (.cells #[.int .i64 0,.int .i64 0] 59)).alloc (.cells #[.int .i64 7,.int .i64 (a1:Int),.int .i64 (b1:Int),.int .i64 lo,.int .i64 hi] 112)) (.slice pa ra.length ca) ra from (rdta ⟨_,hE⟩).2.2)
 have RTb:=Lib.hid (fun g:Grown ((w.alloc (.cells #[.int .i64 0,.int .i64 0] 59)).alloc (.cells #[.int .i64 7,.int .i64 (a1:Int),.int .i64 (b1:Int),.int .i64 lo,.int .i64 hi] 112))=>show g.w.cell? ⟨bv,ov+b1,none⟩ = some (.slice pb rb.length cb) from (rdtb ⟨g.w,below_then hE g.h⟩).2.1)
 have RVb:=Lib.hid (show Vx ((w.alloc (.cells #[.int .i64 0,.int .i64 0] 59)).alloc (.cells #[.int .i64 7,.int .i64 (a1:Int),.int .i64 (b1:Int),.int .i64 lo,.int .i64 hi] 112)) (.slice pb rb.length cb) rb from (rdtb ⟨_,hE⟩).2.2)
 have HW:=Lib.hid hE
 clear hE hE1 he1 rdl hU rdta hba hra rdtb hbb hrb
 obtain ⟨ba,oa,hpa,hba,rda⟩:=vx_rd RVa.out (g_of hka)
 subst hpa
 have v2:=gI_vi vA k
 generalize gI ra k = xa at *
 obtain ⟨a0,a9⟩:=xa
 have i4:(k:Int) < ra.length:=by omega
 obtain ⟨bb,ob,hpb,hbb,rdb⟩:=vx_rd RVb.out (g_of hkb)
 subst hpb
 have v3:=gI_vi vB k
 obtain ⟨xb,hxb⟩:∃ x,gI rb k = x:=⟨_,rfl⟩
 rw [hxb] at rdb v3 hres
 clear hxb
 obtain ⟨b0,b9⟩:=xb
 have i5:(k:Int) < rb.length:=by omega
 have KO:=Lib.hid (fun w=>iv_add a0 a9 b0 b9 w v2 v3)
 obtain ⟨e2,e3⟩:=Prod.mk.inj ((op_add a0 a9 b0 b9).symm.trans hres)
 rw [e2,e3] at KO
 clear hres e2 e3 v2 vA v3 vB
 go_enter Tryz.func147,Tryz.ntmps147
 go_wp2_with (fail)
 generalize hW0:World.alloc (World.alloc w _) _ = W0 at *
 clear hW0 e10 x0 x1 x2 x3 x4 z0
 have e0:=fun g:Grown W0=>heapN_cellj (HE.out.grow g.h) (k:=0) rfl
 have e1:=fun g:Grown W0=>heapN_cellj (HE.out.grow g.h) (k:=1) rfl
 have e2:=fun g:Grown W0=>heapN_cellj (HE.out.grow g.h) (k:=2) rfl
 have e3:=fun g:Grown W0=>heapN_cellj (HE.out.grow g.h) (k:=3) rfl
 have e4:=fun g:Grown W0=>heapN_cellj (HE.out.grow g.h) (k:=4) rfl
 have e5:=fun g:Grown W0=>heapN_cellj (HE.out.grow g.h) (k:=5) rfl
 have e6:=fun g:Grown W0=>heapN_cellj (HE.out.grow g.h) (k:=6) rfl
 have e7:=fun g:Grown W0=>heapN_cellj (HE.out.grow g.h) (k:=7) rfl
 have e8:=fun g:Grown W0=>heapN_cellj (HE.out.grow g.h) (k:=8) rfl
 have e9:=fun g:Grown W0=>heapN_cellj (HE.out.grow g.h) (k:=9) rfl
 have e10:=fun g:Grown W0=>heapN_cellj (HE.out.grow g.h) (k:=10) rfl
 have e11:=fun g:Grown W0=>heapN_cellj (HE.out.grow g.h) (k:=11) rfl
 have e12:=fun g:Grown W0=>heapN_cellj (HE.out.grow g.h) (k:=12) rfl
 have e13:=fun g:Grown W0=>heapN_cellj (HE.out.grow g.h) (k:=13) rfl
 have e14:=fun g:Grown W0=>heapN_cellj (HE.out.grow g.h) (k:=14) rfl
 have e15:=fun g:Grown W0=>heapN_cellj (HE.out.grow g.h) (k:=15) rfl
 have z0:=fun g:Grown W0=>heapN_cellj (HX.out.grow g.h) (k:=0) rfl
 have z1:=fun g:Grown W0=>heapN_cellj (HX.out.grow g.h) (k:=1) rfl
 have z2:=fun g:Grown W0=>heapN_cellj (HX.out.grow g.h) (k:=2) rfl
 have z3:=fun g:Grown W0=>heapN_cellj (HX.out.grow g.h) (k:=3) rfl
 have z4:=fun g:Grown W0=>heapN_cellj (HX.out.grow g.h) (k:=4) rfl
 have rta:=RTa.out
 have rtb:=RTb.out
 refine region_pred (lk [(62,fun z_ _=>z_ = .pointer (some ⟨eb,0,none⟩)),(63,fun z_ _=>z_ = .pointer (some ⟨eb,0,none⟩)),(64,fun z_ _=>z_ = .pointer (some ⟨eb,15,none⟩)),(65,fun z_ _=>z_ = .slice (some ⟨bv,ov,none⟩) rows.length cv),(66,fun z_ _=>z_ = .pointer (some ⟨w.heap.size+1,1,none⟩)),(67,fun z_ _=>z_ = .int .i64 (a1:Int)),(68,fun z_ _=>z_ = .pointer (some ⟨bv,ov+a1,none⟩)),(69,fun z_ _=>z_ = .slice (some ⟨ba,oa,none⟩) ra.length ca),(70,fun z_ _=>z_ = .pointer (some ⟨eb,0,none⟩)),(71,fun z_ _=>z_ = .pointer (some ⟨eb,0,none⟩)),(72,fun z_ _=>z_ = .pointer (some ⟨eb,15,none⟩)),(73,fun z_ _=>z_ = .slice (some ⟨bv,ov,none⟩) rows.length cv),(74,fun z_ _=>z_ = .pointer (some ⟨w.heap.size+1,2,none⟩)),(75,fun z_ _=>z_ = .int .i64 (b1:Int)),(76,fun z_ _=>z_ = .pointer (some ⟨bv,ov+b1,none⟩)),(77,fun z_ _=>z_ = .slice (some ⟨bb,ob,none⟩) rb.length cb),(8,fun z_ _=>z_ = .slice (some ⟨ba,oa,none⟩) ra.length ca),(9,fun z_ _=>z_ = .slice (some ⟨bb,ob,none⟩) rb.length cb)]) (by kernel_rfl) (by kernel_rfl) (lk_steady _ ⟨steady_eq _,steady_eq _,steady_eq _,steady_eq _,steady_eq _,steady_eq _,steady_eq _,steady_eq _,steady_eq _,steady_eq _,steady_eq _,steady_eq _,steady_eq _,steady_eq _,steady_eq _,steady_eq _,steady_eq _,steady_eq _,trivial⟩) ?_ ?_
 ·refine ⟨?_,?_,?_,?_,?_,?_,?_,?_,?_,?_,?_,?_,?_,?_,?_,?_,?_,?_,trivial⟩
  ·refine ob_plain [0] rfl rfl fun aa g h=>?_
   have yy0:=seen_out (v:=.pointer (some ⟨eb,0,none⟩)) rfl rfl h.1
   exact tvS (by simp [go_sem,yy0]) rfl
  ·refine ob_plain [62] rfl rfl fun aa g h=>?_
   obtain ⟨_,yy0,rfl⟩:=seen_in rfl h.1
   exact tvS (by simp [go_sem,yy0]) rfl
  ·refine ob_plain [63] rfl rfl fun aa g h=>?_
   obtain ⟨_,yy0,rfl⟩:=seen_in rfl h.1
   exact tvS (by simp [go_sem,yy0]) rfl
  ·refine ob_plain [64] rfl rfl fun aa g h=>?_
   obtain ⟨_,yy0,rfl⟩:=seen_in rfl h.1
   exact tvS (by simp [go_sem,yy0,e15 g]) rfl
  ·refine ob_plain [7] rfl rfl fun aa g h=>?_
   have yy0:=seen_out (v:=.pointer (some ⟨w.heap.size+1,0,none⟩)) rfl rfl h.1
   exact tvS (by simp [go_sem,yy0]) rfl
  ·refine ob_plain [66] rfl rfl fun aa g h=>?_
   obtain ⟨_,yy0,rfl⟩:=seen_in rfl h.1
   exact tvS (by simp [go_sem,yy0,z1 g]) rfl
  ·refine ob_plain [65,67] rfl rfl fun aa g h=>?_
   obtain ⟨_,yy0,rfl⟩:=seen_in rfl h.1
   obtain ⟨_,yy1,rfl⟩:=seen_in rfl h.2.1
   exact tvS (by simp [go_sem,yy0,yy1,hna]) rfl
  ·refine ob_plain [68] rfl rfl fun aa g h=>?_
   obtain ⟨_,yy0,rfl⟩:=seen_in rfl h.1
   exact tvS (by simp [go_sem,yy0,rta g]) rfl
  ·refine ob_plain [0] rfl rfl fun aa g h=>?_
   have yy0:=seen_out (v:=.pointer (some ⟨eb,0,none⟩)) rfl rfl h.1
   exact tvS (by simp [go_sem,yy0]) rfl
  ·refine ob_plain [70] rfl rfl fun aa g h=>?_
   obtain ⟨_,yy0,rfl⟩:=seen_in rfl h.1
   exact tvS (by simp [go_sem,yy0]) rfl
  ·refine ob_plain [71] rfl rfl fun aa g h=>?_
   obtain ⟨_,yy0,rfl⟩:=seen_in rfl h.1
   exact tvS (by simp [go_sem,yy0]) rfl
  ·refine ob_plain [72] rfl rfl fun aa g h=>?_
   obtain ⟨_,yy0,rfl⟩:=seen_in rfl h.1
   exact tvS (by simp [go_sem,yy0,e15 g]) rfl
  ·refine ob_plain [7] rfl rfl fun aa g h=>?_
   have yy0:=seen_out (v:=.pointer (some ⟨w.heap.size+1,0,none⟩)) rfl rfl h.1
   exact tvS (by simp [go_sem,yy0]) rfl
  ·refine ob_plain [74] rfl rfl fun aa g h=>?_
   obtain ⟨_,yy0,rfl⟩:=seen_in rfl h.1
   exact tvS (by simp [go_sem,yy0,z2 g]) rfl
  ·refine ob_plain [73,75] rfl rfl fun aa g h=>?_
   obtain ⟨_,yy0,rfl⟩:=seen_in rfl h.1
   obtain ⟨_,yy1,rfl⟩:=seen_in rfl h.2.1
   exact tvS (by simp [go_sem,yy0,yy1,hnb]) rfl
  ·refine ob_plain [76] rfl rfl fun aa g h=>?_
   obtain ⟨_,yy0,rfl⟩:=seen_in rfl h.1
   exact tvS (by simp [go_sem,yy0,rtb g]) rfl
  ·refine ob_plain [69] rfl rfl fun aa g h=>?_
   obtain ⟨_,yy0,rfl⟩:=seen_in rfl h.1
   exact tvS (by simp [go_sem,yy0]) rfl
  ·refine ob_plain [77] rfl rfl fun aa g h=>?_
   obtain ⟨_,yy0,rfl⟩:=seen_in rfl h.1
   exact tvS (by simp [go_sem,yy0]) rfl
 rintro w5 hB _ rfl _ rfl _ rfl _ rfl _ rfl _ rfl _ rfl _ rfl _ rfl _ rfl _ rfl _ rfl _ rfl _ rfl _ rfl _ rfl _ rfl _ rfl
 simp only [Act.put,List.setIfInBounds_toArray,List.set_cons_succ,List.set_cons_zero,List.filterMap_nil,finP]
 have HB5:=Lib.hid hB
 have HW5:=Lib.hid (below_then HW.out hB)
 have HE5:=Lib.hid (HE.out.grow hB)
 have HX5:=Lib.hid (HX.out.grow hB)
 have HR5:=Lib.hid (HR.out.grow hB)
 have RVa5:=Lib.hid (RVa.out.grow hB)
 have RVb5:=Lib.hid (RVb.out.grow hB)
 clear hB e0 e1 e2 e3 e4 e5 e6 e7 e8 e9 e10 e11 e12 e13 e14 e15 z0 z1 z2 z3 z4 rta rtb
 have z0:=heapN_cellj HX5.out (k:=0) rfl
 go_wp2_with (fail)
 clear z0
 have e0:=fun g:Grown w5=>heapN_cellj (HE5.out.grow g.h) (k:=0) rfl
 have e1:=fun g:Grown w5=>heapN_cellj (HE5.out.grow g.h) (k:=1) rfl
 have e2:=fun g:Grown w5=>heapN_cellj (HE5.out.grow g.h) (k:=2) rfl
 have e3:=fun g:Grown w5=>heapN_cellj (HE5.out.grow g.h) (k:=3) rfl
 have e4:=fun g:Grown w5=>heapN_cellj (HE5.out.grow g.h) (k:=4) rfl
 have e5:=fun g:Grown w5=>heapN_cellj (HE5.out.grow g.h) (k:=5) rfl
 have e6:=fun g:Grown w5=>heapN_cellj (HE5.out.grow g.h) (k:=6) rfl
 have e7:=fun g:Grown w5=>heapN_cellj (HE5.out.grow g.h) (k:=7) rfl
 have e8:=fun g:Grown w5=>heapN_cellj (HE5.out.grow g.h) (k:=8) rfl
 have e9:=fun g:Grown w5=>heapN_cellj (HE5.out.grow g.h) (k:=9) rfl
 have e10:=fun g:Grown w5=>heapN_cellj (HE5.out.grow g.h) (k:=10) rfl
 have e11:=fun g:Grown w5=>heapN_cellj (HE5.out.grow g.h) (k:=11) rfl
 have e12:=fun g:Grown w5=>heapN_cellj (HE5.out.grow g.h) (k:=12) rfl
 have e13:=fun g:Grown w5=>heapN_cellj (HE5.out.grow g.h) (k:=13) rfl
 have e14:=fun g:Grown w5=>heapN_cellj (HE5.out.grow g.h) (k:=14) rfl
 have e15:=fun g:Grown w5=>heapN_cellj (HE5.out.grow g.h) (k:=15) rfl
 have f0:=fun g:Grown w5=>(rda ⟨g.w,below_then HB5.out g.h⟩).1
 have f1:=fun g:Grown w5=>(rda ⟨g.w,below_then HB5.out g.h⟩).2
 dsimp only at f0 f1
 have l0:=fun g:Grown w5=>(rdb ⟨g.w,below_then HB5.out g.h⟩).1
 have l1:=fun g:Grown w5=>(rdb ⟨g.w,below_then HB5.out g.h⟩).2
 dsimp only at l0 l1
 refine region_pred_l (lk [(94,fun z_ _=>z_ = .pointer (some ⟨eb,0,none⟩)),(95,fun z_ _=>z_ = .pointer (some ⟨eb,0,none⟩)),(96,fun z_ _=>z_ = .pointer (some ⟨eb,0,none⟩)),(97,fun z_ _=>z_ = .pointer (some ⟨eb,4,none⟩)),(98,fun z_ _=>z_ = .func (.func 143) #[] #[]),(99,fun z_ _=>z_ = .slice (some ⟨ba,oa,none⟩) ra.length ca),(100,fun z_ _=>z_ = .int .i64 (k:Int)),(101,fun z_ _=>z_ = .pointer (some ⟨ba,oa+k * 2,none⟩)),(102,fun z_ _=>z_ = .agg #[.int .i64 a0,.int .i64 a9]),(103,fun z_ _=>z_ = .slice (some ⟨bb,ob,none⟩) rb.length cb),(104,fun z_ _=>z_ = .int .i64 (k:Int)),(105,fun z_ _=>z_ = .pointer (some ⟨bb,ob+k * 2,none⟩)),(106,fun z_ _=>z_ = .agg #[.int .i64 b0,.int .i64 b9]),(107,fun z_ _=>z_ = .agg #[.int .i64 r0,.int .i64 r1])]) 14 _ rfl (by kernel_rfl) (by kernel_rfl) (by kernel_rfl) (lk_steady _ ⟨steady_eq _,steady_eq _,steady_eq _,steady_eq _,steady_eq _,steady_eq _,steady_eq _,steady_eq _,steady_eq _,steady_eq _,steady_eq _,steady_eq _,steady_eq _,steady_eq _,trivial⟩) ?_ ?_
 ·refine ⟨?_,?_,?_,?_,?_,?_,?_,?_,?_,?_,?_,?_,?_,?_,?_,trivial⟩
  ·refine fun _=>ob_plain [0] rfl rfl fun _ g h=>?_
   have yy0:=seen_out (v:=.pointer (some ⟨eb,0,none⟩)) rfl rfl h.1
   exact tvS (by simp [go_sem,yy0]) rfl
  ·refine fun _=>ob_plain [94] rfl rfl fun _ g h=>?_
   obtain ⟨_,yy0,rfl⟩:=seen_in rfl h.1
   exact tvS (by simp [go_sem,yy0]) rfl
  ·refine fun _=>ob_plain [95] rfl rfl fun _ g h=>?_
   obtain ⟨_,yy0,rfl⟩:=seen_in rfl h.1
   exact tvS (by simp [go_sem,yy0]) rfl
  ·refine fun _=>ob_plain [96] rfl rfl fun _ g h=>?_
   obtain ⟨_,yy0,rfl⟩:=seen_in rfl h.1
   exact tvS (by simp [go_sem,yy0]) rfl
  ·refine fun _=>ob_plain [97] rfl rfl fun _ g h=>?_
   obtain ⟨_,yy0,rfl⟩:=seen_in rfl h.1
   exact tvS (by simp [go_sem,yy0,e4 g]) rfl
  ·refine fun _=>ob_plain [8] rfl rfl fun _ g h=>?_
   have yy0:=seen_out (v:=.slice (some ⟨ba,oa,none⟩) ra.length ca) rfl rfl h.1
   exact tvS (by simp [go_sem,yy0]) rfl
  ·refine fun _=>ob_plain [2] rfl rfl fun _ g h=>?_
   have yy0:=seen_out (v:=.int .i64 (k:Int)) rfl rfl h.1
   exact tvS (by simp [go_sem,yy0]) rfl
  ·refine fun _=>ob_plain [99,100] rfl rfl fun _ g h=>?_
   obtain ⟨_,yy0,rfl⟩:=seen_in rfl h.1
   obtain ⟨_,yy1,rfl⟩:=seen_in rfl h.2.1
   exact tvS (by simp [go_sem,yy0,yy1,i4]) rfl
  ·refine fun _=>ob_plain [101] rfl rfl fun _ g h=>?_
   obtain ⟨_,yy0,rfl⟩:=seen_in rfl h.1
   exact tvS (by simp [go_sem,yy0,f0 g,f1 g]) rfl
  ·refine fun _=>ob_plain [9] rfl rfl fun _ g h=>?_
   have yy0:=seen_out (v:=.slice (some ⟨bb,ob,none⟩) rb.length cb) rfl rfl h.1
   exact tvS (by simp [go_sem,yy0]) rfl
  ·refine fun _=>ob_plain [2] rfl rfl fun _ g h=>?_
   have yy0:=seen_out (v:=.int .i64 (k:Int)) rfl rfl h.1
   exact tvS (by simp [go_sem,yy0]) rfl
  ·refine fun _=>ob_plain [103,104] rfl rfl fun _ g h=>?_
   obtain ⟨_,yy0,rfl⟩:=seen_in rfl h.1
   obtain ⟨_,yy1,rfl⟩:=seen_in rfl h.2.1
   exact tvS (by simp [go_sem,yy0,yy1,i5]) rfl
  ·refine fun _=>ob_plain [105] rfl rfl fun _ g h=>?_
   obtain ⟨_,yy0,rfl⟩:=seen_in rfl h.1
   exact tvS (by simp [go_sem,yy0,l0 g,l1 g]) rfl
  ·refine fun _=>ob_plain [98,102,106] rfl rfl fun _ g h=>?_
   obtain ⟨_,yy0,rfl⟩:=seen_in rfl h.1
   obtain ⟨_,yy1,rfl⟩:=seen_in rfl h.2.1
   obtain ⟨_,yy2,rfl⟩:=seen_in rfl h.2.2.1
   refine tupon_enter (f:=143) (args:=#[.agg #[.int .i64 a0,.int .i64 a9],.agg #[.int .i64 b0,.int .i64 b9]]) (by simp [go_sem,yy0,yy1,yy2]) rfl ?_
   exact (KO.out g.w).mono fun e w' ⟨he,hB⟩=>⟨_,he,hB,rfl⟩
  ·exact fun h=>absurd rfl h
 rintro w7 hB _ rfl _ rfl _ rfl _ rfl _ rfl _ rfl _ rfl _ rfl _ rfl _ rfl _ rfl _ rfl _ rfl _ rfl
 simp only [Act.put,List.setIfInBounds_toArray,List.set_cons_succ,List.set_cons_zero,List.filterMap_nil]
 clear f0 f1 l0 l1 e0 e1 e2 e3 e4 e5 e6 e7 e8 e9 e10 e11 e12 e13 e14 e15
 have hx:=HR5.out.grow hB
 have HB9:=below_then HW5.out hB
 have q0:=heapN_cellj hx (k:=0) rfl
 have q1:=heapN_cellj hx (k:=1) rfl
 have y0:w7.frozen? ⟨w.heap.size,0,none⟩ = false:=by simp [World.frozen?,show w7.heap[w.heap.size]? = _ from hx]
 have y1:w7.frozen? ⟨w.heap.size,1,none⟩ = false:=by simp [World.frozen?,show w7.heap[w.heap.size]? = _ from hx]
 refine ⟨_,by simp [go_sem,q0,y0,q1,y1]; rfl,?_⟩
 have HW9:=Lib.hid ((HB9.setCell (p:=⟨w.heap.size,0,none⟩) (by dsimp only; omega) (.int .i64 r0)).setCell (p:=⟨w.heap.size,1,none⟩) (by dsimp only; omega) (.int .i64 r1))
 have hs9:=cellsT_setN (o:=1) (u:=.int .i64 r1) (cellsT_setN (o:=0) (u:=.int .i64 r0) hx)
 have x0:=heapN_cellj hs9 (k:=0) (u:=.int .i64 r0) rfl
 have x1:=heapN_cellj hs9 (k:=1) (u:=.int .i64 r1) rfl
 clear hs9 hx q0 q1 y0 y1
 go_wp2_with (fail)
 exact bodyPost_ret (v:=.agg #[.int .i64 r0,.int .i64 r1]) (by simp [results,Tryz.results147,go_sem,x0,x1]) rfl ⟨rfl,HW9.out⟩
set_option maxHeartbeats 16000000 in
theorem next_sub (w:World) (eb:Nat) (N:Int) (pl:Option Addr) (cl:Nat) (po:Option Addr) (no co:Nat) (t0 t1:Int) (sv rv:Value) (L:List Is) (st rows:List (List (Int × Int))) (i k:Nat) (a1 b1:Nat) (lo hi:Int) (hU:ExW w eb N pl cl po no co t0 t1 sv rv L st rows) (hx:L[i]? = some ⟨8,(a1:Int),(b1:Int),lo,hi⟩) (hk:k ≤ 100) (ra:List (Int × Int)) (hra:rows[a1]? = some ra) (rb:List (Int × Int)) (hrb:rows[b1]? = some rb) (hka:k < ra.length) (vA:AV ra) (hkb:k < rb.length) (vB:AV rb) (r0 r1:Int) (hres:opI 8 (gI ra k) (gI rb k) = (r0,r1)) :
  Calls Tryz.prog 147 #[.pointer (some ⟨eb,0,none⟩),.int .i64 i,.int .i64 k] w fun e w'=>e = .returned (.agg #[.int .i64 r0,.int .i64 r1])∧Below w.heap.size w w':=by
 obtain ⟨ps,cs,rfl⟩:=hU.hs.cut
 obtain ⟨pv,cv,rfl⟩:=hU.hr.cut
 obtain ⟨bl,ol,hpl,hbl,rdl⟩:=is_rd hU.hl hx
 subst hpl
 have hil:(i:Int) < L.length:=by have:=(List.getElem?_eq_some_iff.1 hx).1; omega
 obtain ⟨bv,ov,ua,hpa,hba,rdta⟩:=hU.hr.rd grows_rx hra
 subst hpa
 obtain ⟨pa,ca,ea⟩:=(rdta ⟨w,Below.refl _ _⟩).2.2.cut
 subst ea
 have hna:(a1:Int) < rows.length:=by have:=(List.getElem?_eq_some_iff.1 hra).1; omega
 obtain ⟨bb9,ob9,ub,hpb,hbb,rdtb⟩:=hU.hr.rd grows_rx hrb
 simp only [Option.some.injEq,Addr.mk.injEq,and_true] at hpb
 obtain ⟨rfl,rfl⟩:=hpb
 obtain ⟨pb,cb,eb⟩:=(rdtb ⟨w,Below.refl _ _⟩).2.2.cut
 subst eb
 have hnb:(b1:Int) < rows.length:=by have:=(List.getElem?_eq_some_iff.1 hrb).1; omega
 have hE:Below w.heap.size w ((w.alloc (.cells #[.int .i64 0,.int .i64 0] 59)).alloc (.cells #[.int .i64 8,.int .i64 (a1:Int),.int .i64 (b1:Int),.int .i64 lo,.int .i64 hi] 112)):=allocs_below [.cells #[.int .i64 0,.int .i64 0] 59,.cells #[.int .i64 8,.int .i64 (a1:Int),.int .i64 (b1:Int),.int .i64 lo,.int .i64 hi] 112] w
 have HR:=Lib.hid (show Blk ((w.alloc (.cells #[.int .i64 0,.int .i64 0] 59)).alloc (.cells #[.int .i64 8,.int .i64 (a1:Int),.int .i64 (b1:Int),.int .i64 lo,.int .i64 hi] 112)) (w.heap.size) (.cells #[.int .i64 0,.int .i64 0] 59) from allocs_at [.cells #[.int .i64 0,.int .i64 0] 59,.cells #[.int .i64 8,.int .i64 (a1:Int),.int .i64 (b1:Int),.int .i64 lo,.int .i64 hi] 112] w 0 _ rfl)
 have HX:=Lib.hid (show Blk ((w.alloc (.cells #[.int .i64 0,.int .i64 0] 59)).alloc (.cells #[.int .i64 8,.int .i64 (a1:Int),.int .i64 (b1:Int),.int .i64 lo,.int .i64 hi] 112)) (w.heap.size+1) (.cells #[.int .i64 8,.int .i64 (a1:Int),.int .i64 (b1:Int),.int .i64 lo,.int .i64 hi] 112) from allocs_at [.cells #[.int .i64 0,.int .i64 0] 59,.cells #[.int .i64 8,.int .i64 (a1:Int),.int .i64 (b1:Int),.int .i64 lo,.int .i64 hi] 112] w 1 _ rfl)
 have hE1:Below w.heap.size w (w.alloc (.cells #[.int .i64 0,.int .i64 0] 59)):=allocs_below [.cells #[.int .i64 0,.int .i64 0] 59] w
 have HE:=Lib.hid (hU.blk.grow hE)
 have he1:=hU.blk.grow hE1
 unfold eC at HE he1
 have e10:=heapN_cellj he1 (k:=10) rfl
 obtain ⟨x0,x1,x2,x3,x4⟩:=rdl ⟨_,hE1⟩
 dsimp only at x0 x1 x2 x3 x4
 have z0:=heapN_cellj HX.out (k:=0) rfl
 have RTa:=Lib.hid (fun g:Grown ((w.alloc (.cells #[.int .i64 0,.int .i64 0] 59)).alloc (.cells #[.int .i64 8,.int .i64 (a1:Int),.int .i64 (b1:Int),.int .i64 lo,.int .i64 hi] 112))=>show g.w.cell? ⟨bv,ov+a1,none⟩ = some (.slice pa ra.length ca) from (rdta ⟨g.w,below_then hE g.h⟩).2.1)
 have RVa:=Lib.hid (show Vx ((w.alloc (.cells #[.int .i64 0,.int .i64 0] 59)).alloc (.cells #[.int .i64 8,.int .i64 (a1:Int),.int .i64 (b1:Int),.int .i64 lo,.int .i64 hi] 112)) (.slice pa ra.length ca) ra from (rdta ⟨_,hE⟩).2.2)
 have RTb:=Lib.hid (fun g:Grown ((w.alloc (.cells #[.int .i64 0,.int .i64 0] 59)).alloc (.cells #[.int .i64 8,.int .i64 (a1:Int),.int .i64 (b1:Int),.int .i64 lo,.int .i64 hi] 112))=>show g.w.cell? ⟨bv,ov+b1,none⟩ = some (.slice pb rb.length cb) from (rdtb ⟨g.w,below_then hE g.h⟩).2.1)
 have RVb:=Lib.hid (show Vx ((w.alloc (.cells #[.int .i64 0,.int .i64 0] 59)).alloc (.cells #[.int .i64 8,.int .i64 (a1:Int),.int .i64 (b1:Int),.int .i64 lo,.int .i64 hi] 112)) (.slice pb rb.length cb) rb from (rdtb ⟨_,hE⟩).2.2)
 have HW:=Lib.hid hE
 clear hE hE1 he1 rdl hU rdta hba hra rdtb hbb hrb
 obtain ⟨ba,oa,hpa,hba,rda⟩:=vx_rd RVa.out (g_of hka)
 subst hpa
 have v2:=gI_vi vA k
 generalize gI ra k = xa at *
 obtain ⟨a0,a9⟩:=xa
 have i4:(k:Int) < ra.length:=by omega
 obtain ⟨bb,ob,hpb,hbb,rdb⟩:=vx_rd RVb.out (g_of hkb)
 subst hpb
 have v3:=gI_vi vB k
 obtain ⟨xb,hxb⟩:∃ x,gI rb k = x:=⟨_,rfl⟩
 rw [hxb] at rdb v3 hres
 clear hxb
 obtain ⟨b0,b9⟩:=xb
 have i5:(k:Int) < rb.length:=by omega
 have KO:=Lib.hid (fun w=>iv_sub a0 a9 b0 b9 w v2 v3)
 obtain ⟨e2,e3⟩:=Prod.mk.inj ((op_sub a0 a9 b0 b9).symm.trans hres)
 rw [e2,e3] at KO
 clear hres e2 e3 v2 vA v3 vB
 go_enter Tryz.func147,Tryz.ntmps147
 go_wp2_with (fail)
 generalize hW0:World.alloc (World.alloc w _) _ = W0 at *
 clear hW0 e10 x0 x1 x2 x3 x4 z0
 have e0:=fun g:Grown W0=>heapN_cellj (HE.out.grow g.h) (k:=0) rfl
 have e1:=fun g:Grown W0=>heapN_cellj (HE.out.grow g.h) (k:=1) rfl
 have e2:=fun g:Grown W0=>heapN_cellj (HE.out.grow g.h) (k:=2) rfl
 have e3:=fun g:Grown W0=>heapN_cellj (HE.out.grow g.h) (k:=3) rfl
 have e4:=fun g:Grown W0=>heapN_cellj (HE.out.grow g.h) (k:=4) rfl
 have e5:=fun g:Grown W0=>heapN_cellj (HE.out.grow g.h) (k:=5) rfl
 have e6:=fun g:Grown W0=>heapN_cellj (HE.out.grow g.h) (k:=6) rfl
 have e7:=fun g:Grown W0=>heapN_cellj (HE.out.grow g.h) (k:=7) rfl
 have e8:=fun g:Grown W0=>heapN_cellj (HE.out.grow g.h) (k:=8) rfl
 have e9:=fun g:Grown W0=>heapN_cellj (HE.out.grow g.h) (k:=9) rfl
 have e10:=fun g:Grown W0=>heapN_cellj (HE.out.grow g.h) (k:=10) rfl
 have e11:=fun g:Grown W0=>heapN_cellj (HE.out.grow g.h) (k:=11) rfl
 have e12:=fun g:Grown W0=>heapN_cellj (HE.out.grow g.h) (k:=12) rfl
 have e13:=fun g:Grown W0=>heapN_cellj (HE.out.grow g.h) (k:=13) rfl
 have e14:=fun g:Grown W0=>heapN_cellj (HE.out.grow g.h) (k:=14) rfl
 have e15:=fun g:Grown W0=>heapN_cellj (HE.out.grow g.h) (k:=15) rfl
 have z0:=fun g:Grown W0=>heapN_cellj (HX.out.grow g.h) (k:=0) rfl
 have z1:=fun g:Grown W0=>heapN_cellj (HX.out.grow g.h) (k:=1) rfl
 have z2:=fun g:Grown W0=>heapN_cellj (HX.out.grow g.h) (k:=2) rfl
 have z3:=fun g:Grown W0=>heapN_cellj (HX.out.grow g.h) (k:=3) rfl
 have z4:=fun g:Grown W0=>heapN_cellj (HX.out.grow g.h) (k:=4) rfl
 have rta:=RTa.out
 have rtb:=RTb.out
 refine region_pred (lk [(62,fun z_ _=>z_ = .pointer (some ⟨eb,0,none⟩)),(63,fun z_ _=>z_ = .pointer (some ⟨eb,0,none⟩)),(64,fun z_ _=>z_ = .pointer (some ⟨eb,15,none⟩)),(65,fun z_ _=>z_ = .slice (some ⟨bv,ov,none⟩) rows.length cv),(66,fun z_ _=>z_ = .pointer (some ⟨w.heap.size+1,1,none⟩)),(67,fun z_ _=>z_ = .int .i64 (a1:Int)),(68,fun z_ _=>z_ = .pointer (some ⟨bv,ov+a1,none⟩)),(69,fun z_ _=>z_ = .slice (some ⟨ba,oa,none⟩) ra.length ca),(70,fun z_ _=>z_ = .pointer (some ⟨eb,0,none⟩)),(71,fun z_ _=>z_ = .pointer (some ⟨eb,0,none⟩)),(72,fun z_ _=>z_ = .pointer (some ⟨eb,15,none⟩)),(73,fun z_ _=>z_ = .slice (some ⟨bv,ov,none⟩) rows.length cv),(74,fun z_ _=>z_ = .pointer (some ⟨w.heap.size+1,2,none⟩)),(75,fun z_ _=>z_ = .int .i64 (b1:Int)),(76,fun z_ _=>z_ = .pointer (some ⟨bv,ov+b1,none⟩)),(77,fun z_ _=>z_ = .slice (some ⟨bb,ob,none⟩) rb.length cb),(8,fun z_ _=>z_ = .slice (some ⟨ba,oa,none⟩) ra.length ca),(9,fun z_ _=>z_ = .slice (some ⟨bb,ob,none⟩) rb.length cb)]) (by kernel_rfl) (by kernel_rfl) (lk_steady _ ⟨steady_eq _,steady_eq _,steady_eq _,steady_eq _,steady_eq _,steady_eq _,steady_eq _,steady_eq _,steady_eq _,steady_eq _,steady_eq _,steady_eq _,steady_eq _,steady_eq _,steady_eq _,steady_eq _,steady_eq _,steady_eq _,trivial⟩) ?_ ?_
 ·refine ⟨?_,?_,?_,?_,?_,?_,?_,?_,?_,?_,?_,?_,?_,?_,?_,?_,?_,?_,trivial⟩
  ·refine ob_plain [0] rfl rfl fun aa g h=>?_
   have yy0:=seen_out (v:=.pointer (some ⟨eb,0,none⟩)) rfl rfl h.1
   exact tvS (by simp [go_sem,yy0]) rfl
  ·refine ob_plain [62] rfl rfl fun aa g h=>?_
   obtain ⟨_,yy0,rfl⟩:=seen_in rfl h.1
   exact tvS (by simp [go_sem,yy0]) rfl
  ·refine ob_plain [63] rfl rfl fun aa g h=>?_
   obtain ⟨_,yy0,rfl⟩:=seen_in rfl h.1
   exact tvS (by simp [go_sem,yy0]) rfl
  ·refine ob_plain [64] rfl rfl fun aa g h=>?_
   obtain ⟨_,yy0,rfl⟩:=seen_in rfl h.1
   exact tvS (by simp [go_sem,yy0,e15 g]) rfl
  ·refine ob_plain [7] rfl rfl fun aa g h=>?_
   have yy0:=seen_out (v:=.pointer (some ⟨w.heap.size+1,0,none⟩)) rfl rfl h.1
   exact tvS (by simp [go_sem,yy0]) rfl
  ·refine ob_plain [66] rfl rfl fun aa g h=>?_
   obtain ⟨_,yy0,rfl⟩:=seen_in rfl h.1
   exact tvS (by simp [go_sem,yy0,z1 g]) rfl
  ·refine ob_plain [65,67] rfl rfl fun aa g h=>?_
   obtain ⟨_,yy0,rfl⟩:=seen_in rfl h.1
   obtain ⟨_,yy1,rfl⟩:=seen_in rfl h.2.1
   exact tvS (by simp [go_sem,yy0,yy1,hna]) rfl
  ·refine ob_plain [68] rfl rfl fun aa g h=>?_
   obtain ⟨_,yy0,rfl⟩:=seen_in rfl h.1
   exact tvS (by simp [go_sem,yy0,rta g]) rfl
  ·refine ob_plain [0] rfl rfl fun aa g h=>?_
   have yy0:=seen_out (v:=.pointer (some ⟨eb,0,none⟩)) rfl rfl h.1
   exact tvS (by simp [go_sem,yy0]) rfl
  ·refine ob_plain [70] rfl rfl fun aa g h=>?_
   obtain ⟨_,yy0,rfl⟩:=seen_in rfl h.1
   exact tvS (by simp [go_sem,yy0]) rfl
  ·refine ob_plain [71] rfl rfl fun aa g h=>?_
   obtain ⟨_,yy0,rfl⟩:=seen_in rfl h.1
   exact tvS (by simp [go_sem,yy0]) rfl
  ·refine ob_plain [72] rfl rfl fun aa g h=>?_
   obtain ⟨_,yy0,rfl⟩:=seen_in rfl h.1
   exact tvS (by simp [go_sem,yy0,e15 g]) rfl
  ·refine ob_plain [7] rfl rfl fun aa g h=>?_
   have yy0:=seen_out (v:=.pointer (some ⟨w.heap.size+1,0,none⟩)) rfl rfl h.1
   exact tvS (by simp [go_sem,yy0]) rfl
  ·refine ob_plain [74] rfl rfl fun aa g h=>?_
   obtain ⟨_,yy0,rfl⟩:=seen_in rfl h.1
   exact tvS (by simp [go_sem,yy0,z2 g]) rfl
  ·refine ob_plain [73,75] rfl rfl fun aa g h=>?_
   obtain ⟨_,yy0,rfl⟩:=seen_in rfl h.1
   obtain ⟨_,yy1,rfl⟩:=seen_in rfl h.2.1
   exact tvS (by simp [go_sem,yy0,yy1,hnb]) rfl
  ·refine ob_plain [76] rfl rfl fun aa g h=>?_
   obtain ⟨_,yy0,rfl⟩:=seen_in rfl h.1
   exact tvS (by simp [go_sem,yy0,rtb g]) rfl
  ·refine ob_plain [69] rfl rfl fun aa g h=>?_
   obtain ⟨_,yy0,rfl⟩:=seen_in rfl h.1
   exact tvS (by simp [go_sem,yy0]) rfl
  ·refine ob_plain [77] rfl rfl fun aa g h=>?_
   obtain ⟨_,yy0,rfl⟩:=seen_in rfl h.1
   exact tvS (by simp [go_sem,yy0]) rfl
 rintro w5 hB _ rfl _ rfl _ rfl _ rfl _ rfl _ rfl _ rfl _ rfl _ rfl _ rfl _ rfl _ rfl _ rfl _ rfl _ rfl _ rfl _ rfl _ rfl
 simp only [Act.put,List.setIfInBounds_toArray,List.set_cons_succ,List.set_cons_zero,List.filterMap_nil,finP]
 have HB5:=Lib.hid hB
 have HW5:=Lib.hid (below_then HW.out hB)
 have HE5:=Lib.hid (HE.out.grow hB)
 have HX5:=Lib.hid (HX.out.grow hB)
 have HR5:=Lib.hid (HR.out.grow hB)
 have RVa5:=Lib.hid (RVa.out.grow hB)
 have RVb5:=Lib.hid (RVb.out.grow hB)
 clear hB e0 e1 e2 e3 e4 e5 e6 e7 e8 e9 e10 e11 e12 e13 e14 e15 z0 z1 z2 z3 z4 rta rtb
 have z0:=heapN_cellj HX5.out (k:=0) rfl
 go_wp2_with (fail)
 clear z0
 have e0:=fun g:Grown w5=>heapN_cellj (HE5.out.grow g.h) (k:=0) rfl
 have e1:=fun g:Grown w5=>heapN_cellj (HE5.out.grow g.h) (k:=1) rfl
 have e2:=fun g:Grown w5=>heapN_cellj (HE5.out.grow g.h) (k:=2) rfl
 have e3:=fun g:Grown w5=>heapN_cellj (HE5.out.grow g.h) (k:=3) rfl
 have e4:=fun g:Grown w5=>heapN_cellj (HE5.out.grow g.h) (k:=4) rfl
 have e5:=fun g:Grown w5=>heapN_cellj (HE5.out.grow g.h) (k:=5) rfl
 have e6:=fun g:Grown w5=>heapN_cellj (HE5.out.grow g.h) (k:=6) rfl
 have e7:=fun g:Grown w5=>heapN_cellj (HE5.out.grow g.h) (k:=7) rfl
 have e8:=fun g:Grown w5=>heapN_cellj (HE5.out.grow g.h) (k:=8) rfl
 have e9:=fun g:Grown w5=>heapN_cellj (HE5.out.grow g.h) (k:=9) rfl
 have e10:=fun g:Grown w5=>heapN_cellj (HE5.out.grow g.h) (k:=10) rfl
 have e11:=fun g:Grown w5=>heapN_cellj (HE5.out.grow g.h) (k:=11) rfl
 have e12:=fun g:Grown w5=>heapN_cellj (HE5.out.grow g.h) (k:=12) rfl
 have e13:=fun g:Grown w5=>heapN_cellj (HE5.out.grow g.h) (k:=13) rfl
 have e14:=fun g:Grown w5=>heapN_cellj (HE5.out.grow g.h) (k:=14) rfl
 have e15:=fun g:Grown w5=>heapN_cellj (HE5.out.grow g.h) (k:=15) rfl
 have f0:=fun g:Grown w5=>(rda ⟨g.w,below_then HB5.out g.h⟩).1
 have f1:=fun g:Grown w5=>(rda ⟨g.w,below_then HB5.out g.h⟩).2
 dsimp only at f0 f1
 have l0:=fun g:Grown w5=>(rdb ⟨g.w,below_then HB5.out g.h⟩).1
 have l1:=fun g:Grown w5=>(rdb ⟨g.w,below_then HB5.out g.h⟩).2
 dsimp only at l0 l1
 refine region_pred_l (lk [(110,fun z_ _=>z_ = .pointer (some ⟨eb,0,none⟩)),(111,fun z_ _=>z_ = .pointer (some ⟨eb,0,none⟩)),(112,fun z_ _=>z_ = .pointer (some ⟨eb,0,none⟩)),(113,fun z_ _=>z_ = .pointer (some ⟨eb,5,none⟩)),(114,fun z_ _=>z_ = .func (.func 151) #[] #[]),(115,fun z_ _=>z_ = .slice (some ⟨ba,oa,none⟩) ra.length ca),(116,fun z_ _=>z_ = .int .i64 (k:Int)),(117,fun z_ _=>z_ = .pointer (some ⟨ba,oa+k * 2,none⟩)),(118,fun z_ _=>z_ = .agg #[.int .i64 a0,.int .i64 a9]),(119,fun z_ _=>z_ = .slice (some ⟨bb,ob,none⟩) rb.length cb),(120,fun z_ _=>z_ = .int .i64 (k:Int)),(121,fun z_ _=>z_ = .pointer (some ⟨bb,ob+k * 2,none⟩)),(122,fun z_ _=>z_ = .agg #[.int .i64 b0,.int .i64 b9]),(123,fun z_ _=>z_ = .agg #[.int .i64 r0,.int .i64 r1])]) 14 _ rfl (by kernel_rfl) (by kernel_rfl) (by kernel_rfl) (lk_steady _ ⟨steady_eq _,steady_eq _,steady_eq _,steady_eq _,steady_eq _,steady_eq _,steady_eq _,steady_eq _,steady_eq _,steady_eq _,steady_eq _,steady_eq _,steady_eq _,steady_eq _,trivial⟩) ?_ ?_
 ·refine ⟨?_,?_,?_,?_,?_,?_,?_,?_,?_,?_,?_,?_,?_,?_,?_,trivial⟩
  ·refine fun _=>ob_plain [0] rfl rfl fun _ g h=>?_
   have yy0:=seen_out (v:=.pointer (some ⟨eb,0,none⟩)) rfl rfl h.1
   exact tvS (by simp [go_sem,yy0]) rfl
  ·refine fun _=>ob_plain [110] rfl rfl fun _ g h=>?_
   obtain ⟨_,yy0,rfl⟩:=seen_in rfl h.1
   exact tvS (by simp [go_sem,yy0]) rfl
  ·refine fun _=>ob_plain [111] rfl rfl fun _ g h=>?_
   obtain ⟨_,yy0,rfl⟩:=seen_in rfl h.1
   exact tvS (by simp [go_sem,yy0]) rfl
  ·refine fun _=>ob_plain [112] rfl rfl fun _ g h=>?_
   obtain ⟨_,yy0,rfl⟩:=seen_in rfl h.1
   exact tvS (by simp [go_sem,yy0]) rfl
  ·refine fun _=>ob_plain [113] rfl rfl fun _ g h=>?_
   obtain ⟨_,yy0,rfl⟩:=seen_in rfl h.1
   exact tvS (by simp [go_sem,yy0,e5 g]) rfl
  ·refine fun _=>ob_plain [8] rfl rfl fun _ g h=>?_
   have yy0:=seen_out (v:=.slice (some ⟨ba,oa,none⟩) ra.length ca) rfl rfl h.1
   exact tvS (by simp [go_sem,yy0]) rfl
  ·refine fun _=>ob_plain [2] rfl rfl fun _ g h=>?_
   have yy0:=seen_out (v:=.int .i64 (k:Int)) rfl rfl h.1
   exact tvS (by simp [go_sem,yy0]) rfl
  ·refine fun _=>ob_plain [115,116] rfl rfl fun _ g h=>?_
   obtain ⟨_,yy0,rfl⟩:=seen_in rfl h.1
   obtain ⟨_,yy1,rfl⟩:=seen_in rfl h.2.1
   exact tvS (by simp [go_sem,yy0,yy1,i4]) rfl
  ·refine fun _=>ob_plain [117] rfl rfl fun _ g h=>?_
   obtain ⟨_,yy0,rfl⟩:=seen_in rfl h.1
   exact tvS (by simp [go_sem,yy0,f0 g,f1 g]) rfl
  ·refine fun _=>ob_plain [9] rfl rfl fun _ g h=>?_
   have yy0:=seen_out (v:=.slice (some ⟨bb,ob,none⟩) rb.length cb) rfl rfl h.1
   exact tvS (by simp [go_sem,yy0]) rfl
  ·refine fun _=>ob_plain [2] rfl rfl fun _ g h=>?_
   have yy0:=seen_out (v:=.int .i64 (k:Int)) rfl rfl h.1
   exact tvS (by simp [go_sem,yy0]) rfl
  ·refine fun _=>ob_plain [119,120] rfl rfl fun _ g h=>?_
   obtain ⟨_,yy0,rfl⟩:=seen_in rfl h.1
   obtain ⟨_,yy1,rfl⟩:=seen_in rfl h.2.1
   exact tvS (by simp [go_sem,yy0,yy1,i5]) rfl
  ·refine fun _=>ob_plain [121] rfl rfl fun _ g h=>?_
   obtain ⟨_,yy0,rfl⟩:=seen_in rfl h.1
   exact tvS (by simp [go_sem,yy0,l0 g,l1 g]) rfl
  ·refine fun _=>ob_plain [114,118,122] rfl rfl fun _ g h=>?_
   obtain ⟨_,yy0,rfl⟩:=seen_in rfl h.1
   obtain ⟨_,yy1,rfl⟩:=seen_in rfl h.2.1
   obtain ⟨_,yy2,rfl⟩:=seen_in rfl h.2.2.1
   refine tupon_enter (f:=151) (args:=#[.agg #[.int .i64 a0,.int .i64 a9],.agg #[.int .i64 b0,.int .i64 b9]]) (by simp [go_sem,yy0,yy1,yy2]) rfl ?_
   exact (KO.out g.w).mono fun e w' ⟨he,hB⟩=>⟨_,he,hB,rfl⟩
  ·exact fun h=>absurd rfl h
 rintro w7 hB _ rfl _ rfl _ rfl _ rfl _ rfl _ rfl _ rfl _ rfl _ rfl _ rfl _ rfl _ rfl _ rfl _ rfl
 simp only [Act.put,List.setIfInBounds_toArray,List.set_cons_succ,List.set_cons_zero,List.filterMap_nil]
 clear f0 f1 l0 l1 e0 e1 e2 e3 e4 e5 e6 e7 e8 e9 e10 e11 e12 e13 e14 e15
 have hx:=HR5.out.grow hB
 have HB9:=below_then HW5.out hB
 have q0:=heapN_cellj hx (k:=0) rfl
 have q1:=heapN_cellj hx (k:=1) rfl
 have y0:w7.frozen? ⟨w.heap.size,0,none⟩ = false:=by simp [World.frozen?,show w7.heap[w.heap.size]? = _ from hx]
 have y1:w7.frozen? ⟨w.heap.size,1,none⟩ = false:=by simp [World.frozen?,show w7.heap[w.heap.size]? = _ from hx]
 refine ⟨_,by simp [go_sem,q0,y0,q1,y1]; rfl,?_⟩
 have HW9:=Lib.hid ((HB9.setCell (p:=⟨w.heap.size,0,none⟩) (by dsimp only; omega) (.int .i64 r0)).setCell (p:=⟨w.heap.size,1,none⟩) (by dsimp only; omega) (.int .i64 r1))
 have hs9:=cellsT_setN (o:=1) (u:=.int .i64 r1) (cellsT_setN (o:=0) (u:=.int .i64 r0) hx)
 have x0:=heapN_cellj hs9 (k:=0) (u:=.int .i64 r0) rfl
 have x1:=heapN_cellj hs9 (k:=1) (u:=.int .i64 r1) rfl
 clear hs9 hx q0 q1 y0 y1
 go_wp2_with (fail)
 exact bodyPost_ret (v:=.agg #[.int .i64 r0,.int .i64 r1]) (by simp [results,Tryz.results147,go_sem,x0,x1]) rfl ⟨rfl,HW9.out⟩
set_option maxHeartbeats 16000000 in
theorem next_mul (w:World) (eb:Nat) (N:Int) (pl:Option Addr) (cl:Nat) (po:Option Addr) (no co:Nat) (t0 t1:Int) (sv rv:Value) (L:List Is) (st rows:List (List (Int × Int))) (i k:Nat) (a1 b1:Nat) (lo hi:Int) (hU:ExW w eb N pl cl po no co t0 t1 sv rv L st rows) (hx:L[i]? = some ⟨9,(a1:Int),(b1:Int),lo,hi⟩) (hk:k ≤ 100) (ra:List (Int × Int)) (hra:rows[a1]? = some ra) (rb:List (Int × Int)) (hrb:rows[b1]? = some rb) (hka:k < ra.length) (vA:AV ra) (hkb:k < rb.length) (vB:AV rb) (r0 r1:Int) (hres:cvI ra rb k 0 (k+1) = (r0,r1)) :
  Calls Tryz.prog 147 #[.pointer (some ⟨eb,0,none⟩),.int .i64 i,.int .i64 k] w fun e w'=>e = .returned (.agg #[.int .i64 r0,.int .i64 r1])∧Below w.heap.size w w':=by
 obtain ⟨ps,cs,rfl⟩:=hU.hs.cut
 obtain ⟨pv,cv,rfl⟩:=hU.hr.cut
 obtain ⟨bl,ol,hpl,hbl,rdl⟩:=is_rd hU.hl hx
 subst hpl
 have hil:(i:Int) < L.length:=by have:=(List.getElem?_eq_some_iff.1 hx).1; omega
 obtain ⟨bv,ov,ua,hpa,hba,rdta⟩:=hU.hr.rd grows_rx hra
 subst hpa
 obtain ⟨pa,ca,ea⟩:=(rdta ⟨w,Below.refl _ _⟩).2.2.cut
 subst ea
 have hna:(a1:Int) < rows.length:=by have:=(List.getElem?_eq_some_iff.1 hra).1; omega
 obtain ⟨bb9,ob9,ub,hpb,hbb,rdtb⟩:=hU.hr.rd grows_rx hrb
 simp only [Option.some.injEq,Addr.mk.injEq,and_true] at hpb
 obtain ⟨rfl,rfl⟩:=hpb
 obtain ⟨pb,cb,eb⟩:=(rdtb ⟨w,Below.refl _ _⟩).2.2.cut
 subst eb
 have hnb:(b1:Int) < rows.length:=by have:=(List.getElem?_eq_some_iff.1 hrb).1; omega
 have hE:Below w.heap.size w ((w.alloc (.cells #[.int .i64 0,.int .i64 0] 59)).alloc (.cells #[.int .i64 9,.int .i64 (a1:Int),.int .i64 (b1:Int),.int .i64 lo,.int .i64 hi] 112)):=allocs_below [.cells #[.int .i64 0,.int .i64 0] 59,.cells #[.int .i64 9,.int .i64 (a1:Int),.int .i64 (b1:Int),.int .i64 lo,.int .i64 hi] 112] w
 have HR:=Lib.hid (show Blk ((w.alloc (.cells #[.int .i64 0,.int .i64 0] 59)).alloc (.cells #[.int .i64 9,.int .i64 (a1:Int),.int .i64 (b1:Int),.int .i64 lo,.int .i64 hi] 112)) (w.heap.size) (.cells #[.int .i64 0,.int .i64 0] 59) from allocs_at [.cells #[.int .i64 0,.int .i64 0] 59,.cells #[.int .i64 9,.int .i64 (a1:Int),.int .i64 (b1:Int),.int .i64 lo,.int .i64 hi] 112] w 0 _ rfl)
 have HX:=Lib.hid (show Blk ((w.alloc (.cells #[.int .i64 0,.int .i64 0] 59)).alloc (.cells #[.int .i64 9,.int .i64 (a1:Int),.int .i64 (b1:Int),.int .i64 lo,.int .i64 hi] 112)) (w.heap.size+1) (.cells #[.int .i64 9,.int .i64 (a1:Int),.int .i64 (b1:Int),.int .i64 lo,.int .i64 hi] 112) from allocs_at [.cells #[.int .i64 0,.int .i64 0] 59,.cells #[.int .i64 9,.int .i64 (a1:Int),.int .i64 (b1:Int),.int .i64 lo,.int .i64 hi] 112] w 1 _ rfl)
 have hE1:Below w.heap.size w (w.alloc (.cells #[.int .i64 0,.int .i64 0] 59)):=allocs_below [.cells #[.int .i64 0,.int .i64 0] 59] w
 have HE:=Lib.hid (hU.blk.grow hE)
 have he1:=hU.blk.grow hE1
 unfold eC at HE he1
 have e10:=heapN_cellj he1 (k:=10) rfl
 obtain ⟨x0,x1,x2,x3,x4⟩:=rdl ⟨_,hE1⟩
 dsimp only at x0 x1 x2 x3 x4
 have z0:=heapN_cellj HX.out (k:=0) rfl
 have RTa:=Lib.hid (fun g:Grown ((w.alloc (.cells #[.int .i64 0,.int .i64 0] 59)).alloc (.cells #[.int .i64 9,.int .i64 (a1:Int),.int .i64 (b1:Int),.int .i64 lo,.int .i64 hi] 112))=>show g.w.cell? ⟨bv,ov+a1,none⟩ = some (.slice pa ra.length ca) from (rdta ⟨g.w,below_then hE g.h⟩).2.1)
 have RVa:=Lib.hid (show Vx ((w.alloc (.cells #[.int .i64 0,.int .i64 0] 59)).alloc (.cells #[.int .i64 9,.int .i64 (a1:Int),.int .i64 (b1:Int),.int .i64 lo,.int .i64 hi] 112)) (.slice pa ra.length ca) ra from (rdta ⟨_,hE⟩).2.2)
 have RTb:=Lib.hid (fun g:Grown ((w.alloc (.cells #[.int .i64 0,.int .i64 0] 59)).alloc (.cells #[.int .i64 9,.int .i64 (a1:Int),.int .i64 (b1:Int),.int .i64 lo,.int .i64 hi] 112))=>show g.w.cell? ⟨bv,ov+b1,none⟩ = some (.slice pb rb.length cb) from (rdtb ⟨g.w,below_then hE g.h⟩).2.1)
 have RVb:=Lib.hid (show Vx ((w.alloc (.cells #[.int .i64 0,.int .i64 0] 59)).alloc (.cells #[.int .i64 9,.int .i64 (a1:Int),.int .i64 (b1:Int),.int .i64 lo,.int .i64 hi] 112)) (.slice pb rb.length cb) rb from (rdtb ⟨_,hE⟩).2.2)
 have HW:=Lib.hid hE
 clear hE hE1 he1 rdl hU rdta hba hra rdtb hbb hrb
 have KO:=Lib.hid (fun w h1 h2=>conv_ok (.slice pa ra.length ca) (.slice pb rb.length cb) ra rb k 0 (k+1) k w h1 h2 vA vB (fun n hn=>by omega) (by omega) (by omega) (by omega) (by omega))
 rw [hres] at KO
 unfold domV at KO
 clear hres vA vB
 go_enter Tryz.func147,Tryz.ntmps147
 go_wp2_with (fail)
 generalize hW0:World.alloc (World.alloc w _) _ = W0 at *
 clear hW0 e10 x0 x1 x2 x3 x4 z0
 have e0:=fun g:Grown W0=>heapN_cellj (HE.out.grow g.h) (k:=0) rfl
 have e1:=fun g:Grown W0=>heapN_cellj (HE.out.grow g.h) (k:=1) rfl
 have e2:=fun g:Grown W0=>heapN_cellj (HE.out.grow g.h) (k:=2) rfl
 have e3:=fun g:Grown W0=>heapN_cellj (HE.out.grow g.h) (k:=3) rfl
 have e4:=fun g:Grown W0=>heapN_cellj (HE.out.grow g.h) (k:=4) rfl
 have e5:=fun g:Grown W0=>heapN_cellj (HE.out.grow g.h) (k:=5) rfl
 have e6:=fun g:Grown W0=>heapN_cellj (HE.out.grow g.h) (k:=6) rfl
 have e7:=fun g:Grown W0=>heapN_cellj (HE.out.grow g.h) (k:=7) rfl
 have e8:=fun g:Grown W0=>heapN_cellj (HE.out.grow g.h) (k:=8) rfl
 have e9:=fun g:Grown W0=>heapN_cellj (HE.out.grow g.h) (k:=9) rfl
 have e10:=fun g:Grown W0=>heapN_cellj (HE.out.grow g.h) (k:=10) rfl
 have e11:=fun g:Grown W0=>heapN_cellj (HE.out.grow g.h) (k:=11) rfl
 have e12:=fun g:Grown W0=>heapN_cellj (HE.out.grow g.h) (k:=12) rfl
 have e13:=fun g:Grown W0=>heapN_cellj (HE.out.grow g.h) (k:=13) rfl
 have e14:=fun g:Grown W0=>heapN_cellj (HE.out.grow g.h) (k:=14) rfl
 have e15:=fun g:Grown W0=>heapN_cellj (HE.out.grow g.h) (k:=15) rfl
 have z0:=fun g:Grown W0=>heapN_cellj (HX.out.grow g.h) (k:=0) rfl
 have z1:=fun g:Grown W0=>heapN_cellj (HX.out.grow g.h) (k:=1) rfl
 have z2:=fun g:Grown W0=>heapN_cellj (HX.out.grow g.h) (k:=2) rfl
 have z3:=fun g:Grown W0=>heapN_cellj (HX.out.grow g.h) (k:=3) rfl
 have z4:=fun g:Grown W0=>heapN_cellj (HX.out.grow g.h) (k:=4) rfl
 have rta:=RTa.out
 have rtb:=RTb.out
 refine region_pred (lk [(62,fun z_ _=>z_ = .pointer (some ⟨eb,0,none⟩)),(63,fun z_ _=>z_ = .pointer (some ⟨eb,0,none⟩)),(64,fun z_ _=>z_ = .pointer (some ⟨eb,15,none⟩)),(65,fun z_ _=>z_ = .slice (some ⟨bv,ov,none⟩) rows.length cv),(66,fun z_ _=>z_ = .pointer (some ⟨w.heap.size+1,1,none⟩)),(67,fun z_ _=>z_ = .int .i64 (a1:Int)),(68,fun z_ _=>z_ = .pointer (some ⟨bv,ov+a1,none⟩)),(69,fun z_ _=>z_ = .slice pa ra.length ca),(70,fun z_ _=>z_ = .pointer (some ⟨eb,0,none⟩)),(71,fun z_ _=>z_ = .pointer (some ⟨eb,0,none⟩)),(72,fun z_ _=>z_ = .pointer (some ⟨eb,15,none⟩)),(73,fun z_ _=>z_ = .slice (some ⟨bv,ov,none⟩) rows.length cv),(74,fun z_ _=>z_ = .pointer (some ⟨w.heap.size+1,2,none⟩)),(75,fun z_ _=>z_ = .int .i64 (b1:Int)),(76,fun z_ _=>z_ = .pointer (some ⟨bv,ov+b1,none⟩)),(77,fun z_ _=>z_ = .slice pb rb.length cb),(8,fun z_ _=>z_ = .slice pa ra.length ca),(9,fun z_ _=>z_ = .slice pb rb.length cb)]) (by kernel_rfl) (by kernel_rfl) (lk_steady _ ⟨steady_eq _,steady_eq _,steady_eq _,steady_eq _,steady_eq _,steady_eq _,steady_eq _,steady_eq _,steady_eq _,steady_eq _,steady_eq _,steady_eq _,steady_eq _,steady_eq _,steady_eq _,steady_eq _,steady_eq _,steady_eq _,trivial⟩) ?_ ?_
 ·refine ⟨?_,?_,?_,?_,?_,?_,?_,?_,?_,?_,?_,?_,?_,?_,?_,?_,?_,?_,trivial⟩
  ·refine ob_plain [0] rfl rfl fun aa g h=>?_
   have yy0:=seen_out (v:=.pointer (some ⟨eb,0,none⟩)) rfl rfl h.1
   exact tvS (by simp [go_sem,yy0]) rfl
  ·refine ob_plain [62] rfl rfl fun aa g h=>?_
   obtain ⟨_,yy0,rfl⟩:=seen_in rfl h.1
   exact tvS (by simp [go_sem,yy0]) rfl
  ·refine ob_plain [63] rfl rfl fun aa g h=>?_
   obtain ⟨_,yy0,rfl⟩:=seen_in rfl h.1
   exact tvS (by simp [go_sem,yy0]) rfl
  ·refine ob_plain [64] rfl rfl fun aa g h=>?_
   obtain ⟨_,yy0,rfl⟩:=seen_in rfl h.1
   exact tvS (by simp [go_sem,yy0,e15 g]) rfl
  ·refine ob_plain [7] rfl rfl fun aa g h=>?_
   have yy0:=seen_out (v:=.pointer (some ⟨w.heap.size+1,0,none⟩)) rfl rfl h.1
   exact tvS (by simp [go_sem,yy0]) rfl
  ·refine ob_plain [66] rfl rfl fun aa g h=>?_
   obtain ⟨_,yy0,rfl⟩:=seen_in rfl h.1
   exact tvS (by simp [go_sem,yy0,z1 g]) rfl
  ·refine ob_plain [65,67] rfl rfl fun aa g h=>?_
   obtain ⟨_,yy0,rfl⟩:=seen_in rfl h.1
   obtain ⟨_,yy1,rfl⟩:=seen_in rfl h.2.1
   exact tvS (by simp [go_sem,yy0,yy1,hna]) rfl
  ·refine ob_plain [68] rfl rfl fun aa g h=>?_
   obtain ⟨_,yy0,rfl⟩:=seen_in rfl h.1
   exact tvS (by simp [go_sem,yy0,rta g]) rfl
  ·refine ob_plain [0] rfl rfl fun aa g h=>?_
   have yy0:=seen_out (v:=.pointer (some ⟨eb,0,none⟩)) rfl rfl h.1
   exact tvS (by simp [go_sem,yy0]) rfl
  ·refine ob_plain [70] rfl rfl fun aa g h=>?_
   obtain ⟨_,yy0,rfl⟩:=seen_in rfl h.1
   exact tvS (by simp [go_sem,yy0]) rfl
  ·refine ob_plain [71] rfl rfl fun aa g h=>?_
   obtain ⟨_,yy0,rfl⟩:=seen_in rfl h.1
   exact tvS (by simp [go_sem,yy0]) rfl
  ·refine ob_plain [72] rfl rfl fun aa g h=>?_
   obtain ⟨_,yy0,rfl⟩:=seen_in rfl h.1
   exact tvS (by simp [go_sem,yy0,e15 g]) rfl
  ·refine ob_plain [7] rfl rfl fun aa g h=>?_
   have yy0:=seen_out (v:=.pointer (some ⟨w.heap.size+1,0,none⟩)) rfl rfl h.1
   exact tvS (by simp [go_sem,yy0]) rfl
  ·refine ob_plain [74] rfl rfl fun aa g h=>?_
   obtain ⟨_,yy0,rfl⟩:=seen_in rfl h.1
   exact tvS (by simp [go_sem,yy0,z2 g]) rfl
  ·refine ob_plain [73,75] rfl rfl fun aa g h=>?_
   obtain ⟨_,yy0,rfl⟩:=seen_in rfl h.1
   obtain ⟨_,yy1,rfl⟩:=seen_in rfl h.2.1
   exact tvS (by simp [go_sem,yy0,yy1,hnb]) rfl
  ·refine ob_plain [76] rfl rfl fun aa g h=>?_
   obtain ⟨_,yy0,rfl⟩:=seen_in rfl h.1
   exact tvS (by simp [go_sem,yy0,rtb g]) rfl
  ·refine ob_plain [69] rfl rfl fun aa g h=>?_
   obtain ⟨_,yy0,rfl⟩:=seen_in rfl h.1
   exact tvS (by simp [go_sem,yy0]) rfl
  ·refine ob_plain [77] rfl rfl fun aa g h=>?_
   obtain ⟨_,yy0,rfl⟩:=seen_in rfl h.1
   exact tvS (by simp [go_sem,yy0]) rfl
 rintro w5 hB _ rfl _ rfl _ rfl _ rfl _ rfl _ rfl _ rfl _ rfl _ rfl _ rfl _ rfl _ rfl _ rfl _ rfl _ rfl _ rfl _ rfl _ rfl
 simp only [Act.put,List.setIfInBounds_toArray,List.set_cons_succ,List.set_cons_zero,List.filterMap_nil,finP]
 have HB5:=Lib.hid hB
 have HW5:=Lib.hid (below_then HW.out hB)
 have HE5:=Lib.hid (HE.out.grow hB)
 have HX5:=Lib.hid (HX.out.grow hB)
 have HR5:=Lib.hid (HR.out.grow hB)
 have RVa5:=Lib.hid (RVa.out.grow hB)
 have RVb5:=Lib.hid (RVb.out.grow hB)
 clear hB e0 e1 e2 e3 e4 e5 e6 e7 e8 e9 e10 e11 e12 e13 e14 e15 z0 z1 z2 z3 z4 rta rtb
 have e0:=heapN_cellj HE5.out (k:=0) rfl
 have e1:=heapN_cellj HE5.out (k:=1) rfl
 have e2:=heapN_cellj HE5.out (k:=2) rfl
 have e3:=heapN_cellj HE5.out (k:=3) rfl
 have e4:=heapN_cellj HE5.out (k:=4) rfl
 have e5:=heapN_cellj HE5.out (k:=5) rfl
 have e6:=heapN_cellj HE5.out (k:=6) rfl
 have e7:=heapN_cellj HE5.out (k:=7) rfl
 have e8:=heapN_cellj HE5.out (k:=8) rfl
 have z0:=heapN_cellj HX5.out (k:=0) rfl
 go_wp2_with (fail)
 clear z0
 refine (KO.out _ RVa5.out RVb5.out).mono ?_
 rintro e w7 ⟨rfl,hB⟩
 clear e0 e1 e2 e3 e4 e5 e6 e7 e8
 have hx:=HR5.out.grow hB
 have HB9:=below_then HW5.out hB
 have q0:=heapN_cellj hx (k:=0) rfl
 have q1:=heapN_cellj hx (k:=1) rfl
 have y0:w7.frozen? ⟨w.heap.size,0,none⟩ = false:=by simp [World.frozen?,show w7.heap[w.heap.size]? = _ from hx]
 have y1:w7.frozen? ⟨w.heap.size,1,none⟩ = false:=by simp [World.frozen?,show w7.heap[w.heap.size]? = _ from hx]
 have HW9:=Lib.hid ((HB9.setCell (p:=⟨w.heap.size,0,none⟩) (by dsimp only; omega) (.int .i64 r0)).setCell (p:=⟨w.heap.size,1,none⟩) (by dsimp only; omega) (.int .i64 r1))
 have hs9:=cellsT_setN (o:=1) (u:=.int .i64 r1) (cellsT_setN (o:=0) (u:=.int .i64 r0) hx)
 have x0:=heapN_cellj hs9 (k:=0) (u:=.int .i64 r0) rfl
 have x1:=heapN_cellj hs9 (k:=1) (u:=.int .i64 r1) rfl
 clear hs9 hx
 go_wp2_with (fail)
 exact bodyPost_ret (v:=.agg #[.int .i64 r0,.int .i64 r1]) (by simp [results,Tryz.results147,go_sem,x0,x1]) rfl ⟨rfl,HW9.out⟩
set_option maxHeartbeats 16000000 in
theorem next_sqr (w:World) (eb:Nat) (N:Int) (pl:Option Addr) (cl:Nat) (po:Option Addr) (no co:Nat) (t0 t1:Int) (sv rv:Value) (L:List Is) (st rows:List (List (Int × Int))) (i k:Nat) (a1 b1:Nat) (lo hi:Int) (hU:ExW w eb N pl cl po no co t0 t1 sv rv L st rows) (hx:L[i]? = some ⟨5,(a1:Int),(b1:Int),lo,hi⟩) (hk:k ≤ 100) (ra:List (Int × Int)) (hra:rows[a1]? = some ra) (rb:List (Int × Int)) (hrb:rows[b1]? = some rb) (hka:k < ra.length) (vA:AV ra) (hsa:ra.length ≤ 1000) (r0 r1:Int) (hres:squI ra k = (r0,r1)) :
  Calls Tryz.prog 147 #[.pointer (some ⟨eb,0,none⟩),.int .i64 i,.int .i64 k] w fun e w'=>e = .returned (.agg #[.int .i64 r0,.int .i64 r1])∧Below w.heap.size w w':=by
 obtain ⟨ps,cs,rfl⟩:=hU.hs.cut
 obtain ⟨pv,cv,rfl⟩:=hU.hr.cut
 obtain ⟨bl,ol,hpl,hbl,rdl⟩:=is_rd hU.hl hx
 subst hpl
 have hil:(i:Int) < L.length:=by have:=(List.getElem?_eq_some_iff.1 hx).1; omega
 obtain ⟨bv,ov,ua,hpa,hba,rdta⟩:=hU.hr.rd grows_rx hra
 subst hpa
 obtain ⟨pa,ca,ea⟩:=(rdta ⟨w,Below.refl _ _⟩).2.2.cut
 subst ea
 have hna:(a1:Int) < rows.length:=by have:=(List.getElem?_eq_some_iff.1 hra).1; omega
 obtain ⟨bb9,ob9,ub,hpb,hbb,rdtb⟩:=hU.hr.rd grows_rx hrb
 simp only [Option.some.injEq,Addr.mk.injEq,and_true] at hpb
 obtain ⟨rfl,rfl⟩:=hpb
 obtain ⟨pb,cb,eb⟩:=(rdtb ⟨w,Below.refl _ _⟩).2.2.cut
 subst eb
 have hnb:(b1:Int) < rows.length:=by have:=(List.getElem?_eq_some_iff.1 hrb).1; omega
 have hE:Below w.heap.size w ((w.alloc (.cells #[.int .i64 0,.int .i64 0] 59)).alloc (.cells #[.int .i64 5,.int .i64 (a1:Int),.int .i64 (b1:Int),.int .i64 lo,.int .i64 hi] 112)):=allocs_below [.cells #[.int .i64 0,.int .i64 0] 59,.cells #[.int .i64 5,.int .i64 (a1:Int),.int .i64 (b1:Int),.int .i64 lo,.int .i64 hi] 112] w
 have HR:=Lib.hid (show Blk ((w.alloc (.cells #[.int .i64 0,.int .i64 0] 59)).alloc (.cells #[.int .i64 5,.int .i64 (a1:Int),.int .i64 (b1:Int),.int .i64 lo,.int .i64 hi] 112)) (w.heap.size) (.cells #[.int .i64 0,.int .i64 0] 59) from allocs_at [.cells #[.int .i64 0,.int .i64 0] 59,.cells #[.int .i64 5,.int .i64 (a1:Int),.int .i64 (b1:Int),.int .i64 lo,.int .i64 hi] 112] w 0 _ rfl)
 have HX:=Lib.hid (show Blk ((w.alloc (.cells #[.int .i64 0,.int .i64 0] 59)).alloc (.cells #[.int .i64 5,.int .i64 (a1:Int),.int .i64 (b1:Int),.int .i64 lo,.int .i64 hi] 112)) (w.heap.size+1) (.cells #[.int .i64 5,.int .i64 (a1:Int),.int .i64 (b1:Int),.int .i64 lo,.int .i64 hi] 112) from allocs_at [.cells #[.int .i64 0,.int .i64 0] 59,.cells #[.int .i64 5,.int .i64 (a1:Int),.int .i64 (b1:Int),.int .i64 lo,.int .i64 hi] 112] w 1 _ rfl)
 have hE1:Below w.heap.size w (w.alloc (.cells #[.int .i64 0,.int .i64 0] 59)):=allocs_below [.cells #[.int .i64 0,.int .i64 0] 59] w
 have HE:=Lib.hid (hU.blk.grow hE)
 have he1:=hU.blk.grow hE1
 unfold eC at HE he1
 have e10:=heapN_cellj he1 (k:=10) rfl
 obtain ⟨x0,x1,x2,x3,x4⟩:=rdl ⟨_,hE1⟩
 dsimp only at x0 x1 x2 x3 x4
 have z0:=heapN_cellj HX.out (k:=0) rfl
 have RTa:=Lib.hid (fun g:Grown ((w.alloc (.cells #[.int .i64 0,.int .i64 0] 59)).alloc (.cells #[.int .i64 5,.int .i64 (a1:Int),.int .i64 (b1:Int),.int .i64 lo,.int .i64 hi] 112))=>show g.w.cell? ⟨bv,ov+a1,none⟩ = some (.slice pa ra.length ca) from (rdta ⟨g.w,below_then hE g.h⟩).2.1)
 have RVa:=Lib.hid (show Vx ((w.alloc (.cells #[.int .i64 0,.int .i64 0] 59)).alloc (.cells #[.int .i64 5,.int .i64 (a1:Int),.int .i64 (b1:Int),.int .i64 lo,.int .i64 hi] 112)) (.slice pa ra.length ca) ra from (rdta ⟨_,hE⟩).2.2)
 have RTb:=Lib.hid (fun g:Grown ((w.alloc (.cells #[.int .i64 0,.int .i64 0] 59)).alloc (.cells #[.int .i64 5,.int .i64 (a1:Int),.int .i64 (b1:Int),.int .i64 lo,.int .i64 hi] 112))=>show g.w.cell? ⟨bv,ov+b1,none⟩ = some (.slice pb rb.length cb) from (rdtb ⟨g.w,below_then hE g.h⟩).2.1)
 have RVb:=Lib.hid (show Vx ((w.alloc (.cells #[.int .i64 0,.int .i64 0] 59)).alloc (.cells #[.int .i64 5,.int .i64 (a1:Int),.int .i64 (b1:Int),.int .i64 lo,.int .i64 hi] 112)) (.slice pb rb.length cb) rb from (rdtb ⟨_,hE⟩).2.2)
 have HW:=Lib.hid hE
 clear hE hE1 he1 rdl hU rdta hba hra rdtb hbb hrb
 have KO:=Lib.hid (fun w h1=>squared_ok (.slice pa ra.length ca) ra k w h1 vA hka hsa)
 rw [hres] at KO
 unfold domV at KO
 clear hres vA
 go_enter Tryz.func147,Tryz.ntmps147
 go_wp2_with (fail)
 generalize hW0:World.alloc (World.alloc w _) _ = W0 at *
 clear hW0 e10 x0 x1 x2 x3 x4 z0
 have e0:=fun g:Grown W0=>heapN_cellj (HE.out.grow g.h) (k:=0) rfl
 have e1:=fun g:Grown W0=>heapN_cellj (HE.out.grow g.h) (k:=1) rfl
 have e2:=fun g:Grown W0=>heapN_cellj (HE.out.grow g.h) (k:=2) rfl
 have e3:=fun g:Grown W0=>heapN_cellj (HE.out.grow g.h) (k:=3) rfl
 have e4:=fun g:Grown W0=>heapN_cellj (HE.out.grow g.h) (k:=4) rfl
 have e5:=fun g:Grown W0=>heapN_cellj (HE.out.grow g.h) (k:=5) rfl
 have e6:=fun g:Grown W0=>heapN_cellj (HE.out.grow g.h) (k:=6) rfl
 have e7:=fun g:Grown W0=>heapN_cellj (HE.out.grow g.h) (k:=7) rfl
 have e8:=fun g:Grown W0=>heapN_cellj (HE.out.grow g.h) (k:=8) rfl
 have e9:=fun g:Grown W0=>heapN_cellj (HE.out.grow g.h) (k:=9) rfl
 have e10:=fun g:Grown W0=>heapN_cellj (HE.out.grow g.h) (k:=10) rfl
 have e11:=fun g:Grown W0=>heapN_cellj (HE.out.grow g.h) (k:=11) rfl
 have e12:=fun g:Grown W0=>heapN_cellj (HE.out.grow g.h) (k:=12) rfl
 have e13:=fun g:Grown W0=>heapN_cellj (HE.out.grow g.h) (k:=13) rfl
 have e14:=fun g:Grown W0=>heapN_cellj (HE.out.grow g.h) (k:=14) rfl
 have e15:=fun g:Grown W0=>heapN_cellj (HE.out.grow g.h) (k:=15) rfl
 have z0:=fun g:Grown W0=>heapN_cellj (HX.out.grow g.h) (k:=0) rfl
 have z1:=fun g:Grown W0=>heapN_cellj (HX.out.grow g.h) (k:=1) rfl
 have z2:=fun g:Grown W0=>heapN_cellj (HX.out.grow g.h) (k:=2) rfl
 have z3:=fun g:Grown W0=>heapN_cellj (HX.out.grow g.h) (k:=3) rfl
 have z4:=fun g:Grown W0=>heapN_cellj (HX.out.grow g.h) (k:=4) rfl
 have rta:=RTa.out
 have rtb:=RTb.out
 refine region_pred (lk [(62,fun z_ _=>z_ = .pointer (some ⟨eb,0,none⟩)),(63,fun z_ _=>z_ = .pointer (some ⟨eb,0,none⟩)),(64,fun z_ _=>z_ = .pointer (some ⟨eb,15,none⟩)),(65,fun z_ _=>z_ = .slice (some ⟨bv,ov,none⟩) rows.length cv),(66,fun z_ _=>z_ = .pointer (some ⟨w.heap.size+1,1,none⟩)),(67,fun z_ _=>z_ = .int .i64 (a1:Int)),(68,fun z_ _=>z_ = .pointer (some ⟨bv,ov+a1,none⟩)),(69,fun z_ _=>z_ = .slice pa ra.length ca),(70,fun z_ _=>z_ = .pointer (some ⟨eb,0,none⟩)),(71,fun z_ _=>z_ = .pointer (some ⟨eb,0,none⟩)),(72,fun z_ _=>z_ = .pointer (some ⟨eb,15,none⟩)),(73,fun z_ _=>z_ = .slice (some ⟨bv,ov,none⟩) rows.length cv),(74,fun z_ _=>z_ = .pointer (some ⟨w.heap.size+1,2,none⟩)),(75,fun z_ _=>z_ = .int .i64 (b1:Int)),(76,fun z_ _=>z_ = .pointer (some ⟨bv,ov+b1,none⟩)),(77,fun z_ _=>z_ = .slice pb rb.length cb),(8,fun z_ _=>z_ = .slice pa ra.length ca),(9,fun z_ _=>z_ = .slice pb rb.length cb)]) (by kernel_rfl) (by kernel_rfl) (lk_steady _ ⟨steady_eq _,steady_eq _,steady_eq _,steady_eq _,steady_eq _,steady_eq _,steady_eq _,steady_eq _,steady_eq _,steady_eq _,steady_eq _,steady_eq _,steady_eq _,steady_eq _,steady_eq _,steady_eq _,steady_eq _,steady_eq _,trivial⟩) ?_ ?_
 ·refine ⟨?_,?_,?_,?_,?_,?_,?_,?_,?_,?_,?_,?_,?_,?_,?_,?_,?_,?_,trivial⟩
  ·refine ob_plain [0] rfl rfl fun aa g h=>?_
   have yy0:=seen_out (v:=.pointer (some ⟨eb,0,none⟩)) rfl rfl h.1
   exact tvS (by simp [go_sem,yy0]) rfl
  ·refine ob_plain [62] rfl rfl fun aa g h=>?_
   obtain ⟨_,yy0,rfl⟩:=seen_in rfl h.1
   exact tvS (by simp [go_sem,yy0]) rfl
  ·refine ob_plain [63] rfl rfl fun aa g h=>?_
   obtain ⟨_,yy0,rfl⟩:=seen_in rfl h.1
   exact tvS (by simp [go_sem,yy0]) rfl
  ·refine ob_plain [64] rfl rfl fun aa g h=>?_
   obtain ⟨_,yy0,rfl⟩:=seen_in rfl h.1
   exact tvS (by simp [go_sem,yy0,e15 g]) rfl
  ·refine ob_plain [7] rfl rfl fun aa g h=>?_
   have yy0:=seen_out (v:=.pointer (some ⟨w.heap.size+1,0,none⟩)) rfl rfl h.1
   exact tvS (by simp [go_sem,yy0]) rfl
  ·refine ob_plain [66] rfl rfl fun aa g h=>?_
   obtain ⟨_,yy0,rfl⟩:=seen_in rfl h.1
   exact tvS (by simp [go_sem,yy0,z1 g]) rfl
  ·refine ob_plain [65,67] rfl rfl fun aa g h=>?_
   obtain ⟨_,yy0,rfl⟩:=seen_in rfl h.1
   obtain ⟨_,yy1,rfl⟩:=seen_in rfl h.2.1
   exact tvS (by simp [go_sem,yy0,yy1,hna]) rfl
  ·refine ob_plain [68] rfl rfl fun aa g h=>?_
   obtain ⟨_,yy0,rfl⟩:=seen_in rfl h.1
   exact tvS (by simp [go_sem,yy0,rta g]) rfl
  ·refine ob_plain [0] rfl rfl fun aa g h=>?_
   have yy0:=seen_out (v:=.pointer (some ⟨eb,0,none⟩)) rfl rfl h.1
   exact tvS (by simp [go_sem,yy0]) rfl
  ·refine ob_plain [70] rfl rfl fun aa g h=>?_
   obtain ⟨_,yy0,rfl⟩:=seen_in rfl h.1
   exact tvS (by simp [go_sem,yy0]) rfl
  ·refine ob_plain [71] rfl rfl fun aa g h=>?_
   obtain ⟨_,yy0,rfl⟩:=seen_in rfl h.1
   exact tvS (by simp [go_sem,yy0]) rfl
  ·refine ob_plain [72] rfl rfl fun aa g h=>?_
   obtain ⟨_,yy0,rfl⟩:=seen_in rfl h.1
   exact tvS (by simp [go_sem,yy0,e15 g]) rfl
  ·refine ob_plain [7] rfl rfl fun aa g h=>?_
   have yy0:=seen_out (v:=.pointer (some ⟨w.heap.size+1,0,none⟩)) rfl rfl h.1
   exact tvS (by simp [go_sem,yy0]) rfl
  ·refine ob_plain [74] rfl rfl fun aa g h=>?_
   obtain ⟨_,yy0,rfl⟩:=seen_in rfl h.1
   exact tvS (by simp [go_sem,yy0,z2 g]) rfl
  ·refine ob_plain [73,75] rfl rfl fun aa g h=>?_
   obtain ⟨_,yy0,rfl⟩:=seen_in rfl h.1
   obtain ⟨_,yy1,rfl⟩:=seen_in rfl h.2.1
   exact tvS (by simp [go_sem,yy0,yy1,hnb]) rfl
  ·refine ob_plain [76] rfl rfl fun aa g h=>?_
   obtain ⟨_,yy0,rfl⟩:=seen_in rfl h.1
   exact tvS (by simp [go_sem,yy0,rtb g]) rfl
  ·refine ob_plain [69] rfl rfl fun aa g h=>?_
   obtain ⟨_,yy0,rfl⟩:=seen_in rfl h.1
   exact tvS (by simp [go_sem,yy0]) rfl
  ·refine ob_plain [77] rfl rfl fun aa g h=>?_
   obtain ⟨_,yy0,rfl⟩:=seen_in rfl h.1
   exact tvS (by simp [go_sem,yy0]) rfl
 rintro w5 hB _ rfl _ rfl _ rfl _ rfl _ rfl _ rfl _ rfl _ rfl _ rfl _ rfl _ rfl _ rfl _ rfl _ rfl _ rfl _ rfl _ rfl _ rfl
 simp only [Act.put,List.setIfInBounds_toArray,List.set_cons_succ,List.set_cons_zero,List.filterMap_nil,finP]
 have HB5:=Lib.hid hB
 have HW5:=Lib.hid (below_then HW.out hB)
 have HE5:=Lib.hid (HE.out.grow hB)
 have HX5:=Lib.hid (HX.out.grow hB)
 have HR5:=Lib.hid (HR.out.grow hB)
 have RVa5:=Lib.hid (RVa.out.grow hB)
 have RVb5:=Lib.hid (RVb.out.grow hB)
 clear hB e0 e1 e2 e3 e4 e5 e6 e7 e8 e9 e10 e11 e12 e13 e14 e15 z0 z1 z2 z3 z4 rta rtb
 have e0:=heapN_cellj HE5.out (k:=0) rfl
 have e1:=heapN_cellj HE5.out (k:=1) rfl
 have e2:=heapN_cellj HE5.out (k:=2) rfl
 have e3:=heapN_cellj HE5.out (k:=3) rfl
 have e4:=heapN_cellj HE5.out (k:=4) rfl
 have e5:=heapN_cellj HE5.out (k:=5) rfl
 have e6:=heapN_cellj HE5.out (k:=6) rfl
 have e7:=heapN_cellj HE5.out (k:=7) rfl
 have e8:=heapN_cellj HE5.out (k:=8) rfl
 have z0:=heapN_cellj HX5.out (k:=0) rfl
 go_wp2_with (fail)
 clear z0
 refine (KO.out _ RVa5.out).mono ?_
 rintro e w7 ⟨rfl,hB⟩
 clear e0 e1 e2 e3 e4 e5 e6 e7 e8
 have hx:=HR5.out.grow hB
 have HB9:=below_then HW5.out hB
 have q0:=heapN_cellj hx (k:=0) rfl
 have q1:=heapN_cellj hx (k:=1) rfl
 have y0:w7.frozen? ⟨w.heap.size,0,none⟩ = false:=by simp [World.frozen?,show w7.heap[w.heap.size]? = _ from hx]
 have y1:w7.frozen? ⟨w.heap.size,1,none⟩ = false:=by simp [World.frozen?,show w7.heap[w.heap.size]? = _ from hx]
 have HW9:=Lib.hid ((HB9.setCell (p:=⟨w.heap.size,0,none⟩) (by dsimp only; omega) (.int .i64 r0)).setCell (p:=⟨w.heap.size,1,none⟩) (by dsimp only; omega) (.int .i64 r1))
 have hs9:=cellsT_setN (o:=1) (u:=.int .i64 r1) (cellsT_setN (o:=0) (u:=.int .i64 r0) hx)
 have x0:=heapN_cellj hs9 (k:=0) (u:=.int .i64 r0) rfl
 have x1:=heapN_cellj hs9 (k:=1) (u:=.int .i64 r1) rfl
 clear hs9 hx
 go_wp2_with (fail)
 exact bodyPost_ret (v:=.agg #[.int .i64 r0,.int .i64 r1]) (by simp [results,Tryz.results147,go_sem,x0,x1]) rfl ⟨rfl,HW9.out⟩
set_option maxHeartbeats 16000000 in
theorem next_div (w:World) (eb:Nat) (N:Int) (pl:Option Addr) (cl:Nat) (po:Option Addr) (no co:Nat) (t0 t1:Int) (sv rv:Value) (L:List Is) (st rows:List (List (Int × Int))) (i k:Nat) (a1 b1:Nat) (lo hi:Int) (hU:ExW w eb N pl cl po no co t0 t1 sv rv L st rows) (hx:L[i]? = some ⟨10,(a1:Int),(b1:Int),lo,hi⟩) (hk:k ≤ 100) (ra:List (Int × Int)) (hra:rows[a1]? = some ra) (rb:List (Int × Int)) (hrb:rows[b1]? = some rb) (rq:List (Int × Int)) (hrq:rows[i]? = some rq) (vA:AV ra) (vB:AV rb) (vQ:AV rq) (hqa:rq.length < ra.length) (hqb:rq.length < rb.length) (hsa:ra.length ≤ 1000) (hsb:rb.length ≤ 1000) (hsq:rq.length ≤ 1000) (r0 r1:Int) (hres:qtI ra rb rq = (r0,r1)) :
  Calls Tryz.prog 147 #[.pointer (some ⟨eb,0,none⟩),.int .i64 i,.int .i64 k] w fun e w'=>e = .returned (.agg #[.int .i64 r0,.int .i64 r1])∧Below w.heap.size w w':=by
 obtain ⟨ps,cs,rfl⟩:=hU.hs.cut
 obtain ⟨pv,cv,rfl⟩:=hU.hr.cut
 obtain ⟨bl,ol,hpl,hbl,rdl⟩:=is_rd hU.hl hx
 subst hpl
 have hil:(i:Int) < L.length:=by have:=(List.getElem?_eq_some_iff.1 hx).1; omega
 obtain ⟨bv,ov,ua,hpa,hba,rdta⟩:=hU.hr.rd grows_rx hra
 subst hpa
 obtain ⟨pa,ca,ea⟩:=(rdta ⟨w,Below.refl _ _⟩).2.2.cut
 subst ea
 have hna:(a1:Int) < rows.length:=by have:=(List.getElem?_eq_some_iff.1 hra).1; omega
 obtain ⟨bb9,ob9,ub,hpb,hbb,rdtb⟩:=hU.hr.rd grows_rx hrb
 simp only [Option.some.injEq,Addr.mk.injEq,and_true] at hpb
 obtain ⟨rfl,rfl⟩:=hpb
 obtain ⟨pb,cb,eb⟩:=(rdtb ⟨w,Below.refl _ _⟩).2.2.cut
 subst eb
 have hnb:(b1:Int) < rows.length:=by have:=(List.getElem?_eq_some_iff.1 hrb).1; omega
 obtain ⟨bq9,oq9,uq,hpq,hbq,rdtq⟩:=hU.hr.rd grows_rx hrq
 simp only [Option.some.injEq,Addr.mk.injEq,and_true] at hpq
 obtain ⟨rfl,rfl⟩:=hpq
 obtain ⟨pq,cq,eq⟩:=(rdtq ⟨w,Below.refl _ _⟩).2.2.cut
 subst eq
 have hnq:(i:Int) < rows.length:=by have:=(List.getElem?_eq_some_iff.1 hrq).1; omega
 have hE:Below w.heap.size w ((w.alloc (.cells #[.int .i64 0,.int .i64 0] 59)).alloc (.cells #[.int .i64 10,.int .i64 (a1:Int),.int .i64 (b1:Int),.int .i64 lo,.int .i64 hi] 112)):=allocs_below [.cells #[.int .i64 0,.int .i64 0] 59,.cells #[.int .i64 10,.int .i64 (a1:Int),.int .i64 (b1:Int),.int .i64 lo,.int .i64 hi] 112] w
 have HR:=Lib.hid (show Blk ((w.alloc (.cells #[.int .i64 0,.int .i64 0] 59)).alloc (.cells #[.int .i64 10,.int .i64 (a1:Int),.int .i64 (b1:Int),.int .i64 lo,.int .i64 hi] 112)) (w.heap.size) (.cells #[.int .i64 0,.int .i64 0] 59) from allocs_at [.cells #[.int .i64 0,.int .i64 0] 59,.cells #[.int .i64 10,.int .i64 (a1:Int),.int .i64 (b1:Int),.int .i64 lo,.int .i64 hi] 112] w 0 _ rfl)
 have HX:=Lib.hid (show Blk ((w.alloc (.cells #[.int .i64 0,.int .i64 0] 59)).alloc (.cells #[.int .i64 10,.int .i64 (a1:Int),.int .i64 (b1:Int),.int .i64 lo,.int .i64 hi] 112)) (w.heap.size+1) (.cells #[.int .i64 10,.int .i64 (a1:Int),.int .i64 (b1:Int),.int .i64 lo,.int .i64 hi] 112) from allocs_at [.cells #[.int .i64 0,.int .i64 0] 59,.cells #[.int .i64 10,.int .i64 (a1:Int),.int .i64 (b1:Int),.int .i64 lo,.int .i64 hi] 112] w 1 _ rfl)
 have hE1:Below w.heap.size w (w.alloc (.cells #[.int .i64 0,.int .i64 0] 59)):=allocs_below [.cells #[.int .i64 0,.int .i64 0] 59] w
 have HE:=Lib.hid (hU.blk.grow hE)
 have he1:=hU.blk.grow hE1
 unfold eC at HE he1
 have e10:=heapN_cellj he1 (k:=10) rfl
 obtain ⟨x0,x1,x2,x3,x4⟩:=rdl ⟨_,hE1⟩
 dsimp only at x0 x1 x2 x3 x4
 have z0:=heapN_cellj HX.out (k:=0) rfl
 have RTa:=Lib.hid (fun g:Grown ((w.alloc (.cells #[.int .i64 0,.int .i64 0] 59)).alloc (.cells #[.int .i64 10,.int .i64 (a1:Int),.int .i64 (b1:Int),.int .i64 lo,.int .i64 hi] 112))=>show g.w.cell? ⟨bv,ov+a1,none⟩ = some (.slice pa ra.length ca) from (rdta ⟨g.w,below_then hE g.h⟩).2.1)
 have RVa:=Lib.hid (show Vx ((w.alloc (.cells #[.int .i64 0,.int .i64 0] 59)).alloc (.cells #[.int .i64 10,.int .i64 (a1:Int),.int .i64 (b1:Int),.int .i64 lo,.int .i64 hi] 112)) (.slice pa ra.length ca) ra from (rdta ⟨_,hE⟩).2.2)
 have RTb:=Lib.hid (fun g:Grown ((w.alloc (.cells #[.int .i64 0,.int .i64 0] 59)).alloc (.cells #[.int .i64 10,.int .i64 (a1:Int),.int .i64 (b1:Int),.int .i64 lo,.int .i64 hi] 112))=>show g.w.cell? ⟨bv,ov+b1,none⟩ = some (.slice pb rb.length cb) from (rdtb ⟨g.w,below_then hE g.h⟩).2.1)
 have RVb:=Lib.hid (show Vx ((w.alloc (.cells #[.int .i64 0,.int .i64 0] 59)).alloc (.cells #[.int .i64 10,.int .i64 (a1:Int),.int .i64 (b1:Int),.int .i64 lo,.int .i64 hi] 112)) (.slice pb rb.length cb) rb from (rdtb ⟨_,hE⟩).2.2)
 have RTq:=Lib.hid (fun g:Grown ((w.alloc (.cells #[.int .i64 0,.int .i64 0] 59)).alloc (.cells #[.int .i64 10,.int .i64 (a1:Int),.int .i64 (b1:Int),.int .i64 lo,.int .i64 hi] 112))=>show g.w.cell? ⟨bv,ov+i,none⟩ = some (.slice pq rq.length cq) from (rdtq ⟨g.w,below_then hE g.h⟩).2.1)
 have RVq:=Lib.hid (show Vx ((w.alloc (.cells #[.int .i64 0,.int .i64 0] 59)).alloc (.cells #[.int .i64 10,.int .i64 (a1:Int),.int .i64 (b1:Int),.int .i64 lo,.int .i64 hi] 112)) (.slice pq rq.length cq) rq from (rdtq ⟨_,hE⟩).2.2)
 have HW:=Lib.hid hE
 clear hE hE1 he1 rdl hU rdta hba hra rdtb hbb hrb rdtq hbq hrq
 have KR:=Lib.hid (fun v A w h hs=>ranges_ok v A w h hs)
 unfold domV at KR
 have KQ:=Lib.hid (fun va vb vq w h1 h2 h3=>quot_ok va vb vq ra rb rq w h1 h2 h3 vA vB vQ hqa hqb hsa)
 rw [hres] at KQ
 clear hres vA vB vQ
 go_enter Tryz.func147,Tryz.ntmps147
 go_wp2_with (fail)
 generalize hW0:World.alloc (World.alloc w _) _ = W0 at *
 clear hW0 e10 x0 x1 x2 x3 x4 z0
 have e0:=fun g:Grown W0=>heapN_cellj (HE.out.grow g.h) (k:=0) rfl
 have e1:=fun g:Grown W0=>heapN_cellj (HE.out.grow g.h) (k:=1) rfl
 have e2:=fun g:Grown W0=>heapN_cellj (HE.out.grow g.h) (k:=2) rfl
 have e3:=fun g:Grown W0=>heapN_cellj (HE.out.grow g.h) (k:=3) rfl
 have e4:=fun g:Grown W0=>heapN_cellj (HE.out.grow g.h) (k:=4) rfl
 have e5:=fun g:Grown W0=>heapN_cellj (HE.out.grow g.h) (k:=5) rfl
 have e6:=fun g:Grown W0=>heapN_cellj (HE.out.grow g.h) (k:=6) rfl
 have e7:=fun g:Grown W0=>heapN_cellj (HE.out.grow g.h) (k:=7) rfl
 have e8:=fun g:Grown W0=>heapN_cellj (HE.out.grow g.h) (k:=8) rfl
 have e9:=fun g:Grown W0=>heapN_cellj (HE.out.grow g.h) (k:=9) rfl
 have e10:=fun g:Grown W0=>heapN_cellj (HE.out.grow g.h) (k:=10) rfl
 have e11:=fun g:Grown W0=>heapN_cellj (HE.out.grow g.h) (k:=11) rfl
 have e12:=fun g:Grown W0=>heapN_cellj (HE.out.grow g.h) (k:=12) rfl
 have e13:=fun g:Grown W0=>heapN_cellj (HE.out.grow g.h) (k:=13) rfl
 have e14:=fun g:Grown W0=>heapN_cellj (HE.out.grow g.h) (k:=14) rfl
 have e15:=fun g:Grown W0=>heapN_cellj (HE.out.grow g.h) (k:=15) rfl
 have z0:=fun g:Grown W0=>heapN_cellj (HX.out.grow g.h) (k:=0) rfl
 have z1:=fun g:Grown W0=>heapN_cellj (HX.out.grow g.h) (k:=1) rfl
 have z2:=fun g:Grown W0=>heapN_cellj (HX.out.grow g.h) (k:=2) rfl
 have z3:=fun g:Grown W0=>heapN_cellj (HX.out.grow g.h) (k:=3) rfl
 have z4:=fun g:Grown W0=>heapN_cellj (HX.out.grow g.h) (k:=4) rfl
 have rta:=RTa.out
 have rtb:=RTb.out
 have rtq:=RTq.out
 refine region_pred (lk [(62,fun z_ _=>z_ = .pointer (some ⟨eb,0,none⟩)),(63,fun z_ _=>z_ = .pointer (some ⟨eb,0,none⟩)),(64,fun z_ _=>z_ = .pointer (some ⟨eb,15,none⟩)),(65,fun z_ _=>z_ = .slice (some ⟨bv,ov,none⟩) rows.length cv),(66,fun z_ _=>z_ = .pointer (some ⟨w.heap.size+1,1,none⟩)),(67,fun z_ _=>z_ = .int .i64 (a1:Int)),(68,fun z_ _=>z_ = .pointer (some ⟨bv,ov+a1,none⟩)),(69,fun z_ _=>z_ = .slice pa ra.length ca),(70,fun z_ _=>z_ = .pointer (some ⟨eb,0,none⟩)),(71,fun z_ _=>z_ = .pointer (some ⟨eb,0,none⟩)),(72,fun z_ _=>z_ = .pointer (some ⟨eb,15,none⟩)),(73,fun z_ _=>z_ = .slice (some ⟨bv,ov,none⟩) rows.length cv),(74,fun z_ _=>z_ = .pointer (some ⟨w.heap.size+1,2,none⟩)),(75,fun z_ _=>z_ = .int .i64 (b1:Int)),(76,fun z_ _=>z_ = .pointer (some ⟨bv,ov+b1,none⟩)),(77,fun z_ _=>z_ = .slice pb rb.length cb),(8,fun z_ _=>z_ = .slice pa ra.length ca),(9,fun z_ _=>z_ = .slice pb rb.length cb)]) (by kernel_rfl) (by kernel_rfl) (lk_steady _ ⟨steady_eq _,steady_eq _,steady_eq _,steady_eq _,steady_eq _,steady_eq _,steady_eq _,steady_eq _,steady_eq _,steady_eq _,steady_eq _,steady_eq _,steady_eq _,steady_eq _,steady_eq _,steady_eq _,steady_eq _,steady_eq _,trivial⟩) ?_ ?_
 ·refine ⟨?_,?_,?_,?_,?_,?_,?_,?_,?_,?_,?_,?_,?_,?_,?_,?_,?_,?_,trivial⟩
  ·refine ob_plain [0] rfl rfl fun aa g h=>?_
   have yy0:=seen_out (v:=.pointer (some ⟨eb,0,none⟩)) rfl rfl h.1
   exact tvS (by simp [go_sem,yy0]) rfl
  ·refine ob_plain [62] rfl rfl fun aa g h=>?_
   obtain ⟨_,yy0,rfl⟩:=seen_in rfl h.1
   exact tvS (by simp [go_sem,yy0]) rfl
  ·refine ob_plain [63] rfl rfl fun aa g h=>?_
   obtain ⟨_,yy0,rfl⟩:=seen_in rfl h.1
   exact tvS (by simp [go_sem,yy0]) rfl
  ·refine ob_plain [64] rfl rfl fun aa g h=>?_
   obtain ⟨_,yy0,rfl⟩:=seen_in rfl h.1
   exact tvS (by simp [go_sem,yy0,e15 g]) rfl
  ·refine ob_plain [7] rfl rfl fun aa g h=>?_
   have yy0:=seen_out (v:=.pointer (some ⟨w.heap.size+1,0,none⟩)) rfl rfl h.1
   exact tvS (by simp [go_sem,yy0]) rfl
  ·refine ob_plain [66] rfl rfl fun aa g h=>?_
   obtain ⟨_,yy0,rfl⟩:=seen_in rfl h.1
   exact tvS (by simp [go_sem,yy0,z1 g]) rfl
  ·refine ob_plain [65,67] rfl rfl fun aa g h=>?_
   obtain ⟨_,yy0,rfl⟩:=seen_in rfl h.1
   obtain ⟨_,yy1,rfl⟩:=seen_in rfl h.2.1
   exact tvS (by simp [go_sem,yy0,yy1,hna]) rfl
  ·refine ob_plain [68] rfl rfl fun aa g h=>?_
   obtain ⟨_,yy0,rfl⟩:=seen_in rfl h.1
   exact tvS (by simp [go_sem,yy0,rta g]) rfl
  ·refine ob_plain [0] rfl rfl fun aa g h=>?_
   have yy0:=seen_out (v:=.pointer (some ⟨eb,0,none⟩)) rfl rfl h.1
   exact tvS (by simp [go_sem,yy0]) rfl
  ·refine ob_plain [70] rfl rfl fun aa g h=>?_
   obtain ⟨_,yy0,rfl⟩:=seen_in rfl h.1
   exact tvS (by simp [go_sem,yy0]) rfl
  ·refine ob_plain [71] rfl rfl fun aa g h=>?_
   obtain ⟨_,yy0,rfl⟩:=seen_in rfl h.1
   exact tvS (by simp [go_sem,yy0]) rfl
  ·refine ob_plain [72] rfl rfl fun aa g h=>?_
   obtain ⟨_,yy0,rfl⟩:=seen_in rfl h.1
   exact tvS (by simp [go_sem,yy0,e15 g]) rfl
  ·refine ob_plain [7] rfl rfl fun aa g h=>?_
   have yy0:=seen_out (v:=.pointer (some ⟨w.heap.size+1,0,none⟩)) rfl rfl h.1
   exact tvS (by simp [go_sem,yy0]) rfl
  ·refine ob_plain [74] rfl rfl fun aa g h=>?_
   obtain ⟨_,yy0,rfl⟩:=seen_in rfl h.1
   exact tvS (by simp [go_sem,yy0,z2 g]) rfl
  ·refine ob_plain [73,75] rfl rfl fun aa g h=>?_
   obtain ⟨_,yy0,rfl⟩:=seen_in rfl h.1
   obtain ⟨_,yy1,rfl⟩:=seen_in rfl h.2.1
   exact tvS (by simp [go_sem,yy0,yy1,hnb]) rfl
  ·refine ob_plain [76] rfl rfl fun aa g h=>?_
   obtain ⟨_,yy0,rfl⟩:=seen_in rfl h.1
   exact tvS (by simp [go_sem,yy0,rtb g]) rfl
  ·refine ob_plain [69] rfl rfl fun aa g h=>?_
   obtain ⟨_,yy0,rfl⟩:=seen_in rfl h.1
   exact tvS (by simp [go_sem,yy0]) rfl
  ·refine ob_plain [77] rfl rfl fun aa g h=>?_
   obtain ⟨_,yy0,rfl⟩:=seen_in rfl h.1
   exact tvS (by simp [go_sem,yy0]) rfl
 rintro w5 hB _ rfl _ rfl _ rfl _ rfl _ rfl _ rfl _ rfl _ rfl _ rfl _ rfl _ rfl _ rfl _ rfl _ rfl _ rfl _ rfl _ rfl _ rfl
 simp only [Act.put,List.setIfInBounds_toArray,List.set_cons_succ,List.set_cons_zero,List.filterMap_nil,finP]
 have HB5:=Lib.hid hB
 have HW5:=Lib.hid (below_then HW.out hB)
 have HE5:=Lib.hid (HE.out.grow hB)
 have HX5:=Lib.hid (HX.out.grow hB)
 have HR5:=Lib.hid (HR.out.grow hB)
 have RVa5:=Lib.hid (RVa.out.grow hB)
 have RVb5:=Lib.hid (RVb.out.grow hB)
 have RVq5:=Lib.hid (RVq.out.grow hB)
 clear hB e0 e1 e2 e3 e4 e5 e6 e7 e8 e9 e10 e11 e12 e13 e14 e15 z0 z1 z2 z3 z4 rta rtb rtq
 have z0:=heapN_cellj HX5.out (k:=0) rfl
 go_wp2_with (fail)
 clear z0
 have e0:=fun g:Grown w5=>heapN_cellj (HE5.out.grow g.h) (k:=0) rfl
 have e1:=fun g:Grown w5=>heapN_cellj (HE5.out.grow g.h) (k:=1) rfl
 have e2:=fun g:Grown w5=>heapN_cellj (HE5.out.grow g.h) (k:=2) rfl
 have e3:=fun g:Grown w5=>heapN_cellj (HE5.out.grow g.h) (k:=3) rfl
 have e4:=fun g:Grown w5=>heapN_cellj (HE5.out.grow g.h) (k:=4) rfl
 have e5:=fun g:Grown w5=>heapN_cellj (HE5.out.grow g.h) (k:=5) rfl
 have e6:=fun g:Grown w5=>heapN_cellj (HE5.out.grow g.h) (k:=6) rfl
 have e7:=fun g:Grown w5=>heapN_cellj (HE5.out.grow g.h) (k:=7) rfl
 have e8:=fun g:Grown w5=>heapN_cellj (HE5.out.grow g.h) (k:=8) rfl
 have e9:=fun g:Grown w5=>heapN_cellj (HE5.out.grow g.h) (k:=9) rfl
 have e10:=fun g:Grown w5=>heapN_cellj (HE5.out.grow g.h) (k:=10) rfl
 have e11:=fun g:Grown w5=>heapN_cellj (HE5.out.grow g.h) (k:=11) rfl
 have e12:=fun g:Grown w5=>heapN_cellj (HE5.out.grow g.h) (k:=12) rfl
 have e13:=fun g:Grown w5=>heapN_cellj (HE5.out.grow g.h) (k:=13) rfl
 have e14:=fun g:Grown w5=>heapN_cellj (HE5.out.grow g.h) (k:=14) rfl
 have e15:=fun g:Grown w5=>heapN_cellj (HE5.out.grow g.h) (k:=15) rfl
 have rtq:=fun g:Grown w5=>show g.w.cell? ⟨bv,ov+i,none⟩ = some (.slice pq rq.length cq) from RTq.out ⟨g.w,below_then HB5.out g.h⟩
 refine region_pred_l (lk [(146,fun z_ _=>z_ = .pointer (some ⟨eb,0,none⟩)),(147,fun z_ _=>z_ = .pointer (some ⟨eb,0,none⟩)),(148,fun z_ _=>z_ = .pointer (some ⟨eb,0,none⟩)),(149,fun z_ _=>z_ = .pointer (some ⟨eb,0,none⟩)),(150,fun z_ _=>z_ = .func (.func 148) #[] #[]),(151,fun z_ _=>z_ = .pointer (some ⟨eb,0,none⟩)),(152,fun z_ _=>z_ = .pointer (some ⟨eb,0,none⟩)),(153,fun z_ _=>z_ = .pointer (some ⟨eb,0,none⟩)),(154,fun z_ _=>z_ = .agg #[.func (.func 148) #[] #[],.func (.func 148) #[] #[],.func (.func 149) #[] #[],.func (.func 150) #[] #[],.func (.func 143) #[] #[],.func (.func 151) #[] #[],.func (.func 144) #[] #[],.func (.func 144) #[] #[],.func (.func 152) #[] #[]]),(155,fun z_ _=>z_ = .slice pa ra.length ca),(156,fun z_ w'=>Vx w' z_ ra),(157,fun z_ _=>z_ = .pointer (some ⟨eb,0,none⟩)),(158,fun z_ _=>z_ = .pointer (some ⟨eb,0,none⟩)),(159,fun z_ _=>z_ = .pointer (some ⟨eb,0,none⟩)),(160,fun z_ _=>z_ = .agg #[.func (.func 148) #[] #[],.func (.func 148) #[] #[],.func (.func 149) #[] #[],.func (.func 150) #[] #[],.func (.func 143) #[] #[],.func (.func 151) #[] #[],.func (.func 144) #[] #[],.func (.func 144) #[] #[],.func (.func 152) #[] #[]]),(161,fun z_ _=>z_ = .slice pb rb.length cb),(162,fun z_ w'=>Vx w' z_ rb),(163,fun z_ _=>z_ = .pointer (some ⟨eb,0,none⟩)),(164,fun z_ _=>z_ = .pointer (some ⟨eb,0,none⟩)),(165,fun z_ _=>z_ = .pointer (some ⟨eb,0,none⟩)),(166,fun z_ _=>z_ = .agg #[.func (.func 148) #[] #[],.func (.func 148) #[] #[],.func (.func 149) #[] #[],.func (.func 150) #[] #[],.func (.func 143) #[] #[],.func (.func 151) #[] #[],.func (.func 144) #[] #[],.func (.func 144) #[] #[],.func (.func 152) #[] #[]]),(167,fun z_ _=>z_ = .pointer (some ⟨eb,0,none⟩)),(168,fun z_ _=>z_ = .pointer (some ⟨eb,0,none⟩)),(169,fun z_ _=>z_ = .pointer (some ⟨eb,15,none⟩)),(170,fun z_ _=>z_ = .slice (some ⟨bv,ov,none⟩) rows.length cv),(171,fun z_ _=>z_ = .int .i64 (i:Int)),(172,fun z_ _=>z_ = .pointer (some ⟨bv,ov+i,none⟩)),(173,fun z_ _=>z_ = .slice pq rq.length cq),(174,fun z_ w'=>Vx w' z_ rq),(175,fun z_ _=>z_ = .agg #[.int .i64 r0,.int .i64 r1]),(176,fun z_ _=>z_ = .agg #[.int .i64 r0,.int .i64 r1])]) 31 _ rfl (by kernel_rfl) (by kernel_rfl) (by kernel_rfl) (lk_steady _ ⟨steady_eq _,steady_eq _,steady_eq _,steady_eq _,steady_eq _,steady_eq _,steady_eq _,steady_eq _,steady_eq _,steady_eq _,fun u w1 w2 hb h=>h.grow hb,steady_eq _,steady_eq _,steady_eq _,steady_eq _,steady_eq _,fun u w1 w2 hb h=>h.grow hb,steady_eq _,steady_eq _,steady_eq _,steady_eq _,steady_eq _,steady_eq _,steady_eq _,steady_eq _,steady_eq _,steady_eq _,steady_eq _,fun u w1 w2 hb h=>h.grow hb,steady_eq _,steady_eq _,trivial⟩) ?_ ?_
 ·refine ⟨?_,?_,?_,?_,?_,?_,?_,?_,?_,?_,?_,?_,?_,?_,?_,?_,?_,?_,?_,?_,?_,?_,?_,?_,?_,?_,?_,?_,?_,?_,?_,?_,trivial⟩
  ·refine fun _=>ob_plain [0] rfl rfl fun _ g h=>?_
   have yy0:=seen_out (v:=.pointer (some ⟨eb,0,none⟩)) rfl rfl h.1
   exact tvS (by simp [go_sem,yy0]) rfl
  ·refine fun _=>ob_plain [146] rfl rfl fun _ g h=>?_
   obtain ⟨_,yy0,rfl⟩:=seen_in rfl h.1
   exact tvS (by simp [go_sem,yy0]) rfl
  ·refine fun _=>ob_plain [147] rfl rfl fun _ g h=>?_
   obtain ⟨_,yy0,rfl⟩:=seen_in rfl h.1
   exact tvS (by simp [go_sem,yy0]) rfl
  ·refine fun _=>ob_plain [148] rfl rfl fun _ g h=>?_
   obtain ⟨_,yy0,rfl⟩:=seen_in rfl h.1
   exact tvS (by simp [go_sem,yy0]) rfl
  ·refine fun _=>ob_plain [149] rfl rfl fun _ g h=>?_
   obtain ⟨_,yy0,rfl⟩:=seen_in rfl h.1
   exact tvS (by simp [go_sem,yy0,e0 g]) rfl
  ·refine fun _=>ob_plain [0] rfl rfl fun _ g h=>?_
   have yy0:=seen_out (v:=.pointer (some ⟨eb,0,none⟩)) rfl rfl h.1
   exact tvS (by simp [go_sem,yy0]) rfl
  ·refine fun _=>ob_plain [151] rfl rfl fun _ g h=>?_
   obtain ⟨_,yy0,rfl⟩:=seen_in rfl h.1
   exact tvS (by simp [go_sem,yy0]) rfl
  ·refine fun _=>ob_plain [152] rfl rfl fun _ g h=>?_
   obtain ⟨_,yy0,rfl⟩:=seen_in rfl h.1
   exact tvS (by simp [go_sem,yy0]) rfl
  ·refine fun _=>ob_plain [153] rfl rfl fun _ g h=>?_
   obtain ⟨_,yy0,rfl⟩:=seen_in rfl h.1
   exact tvS (by simp [go_sem,yy0,e0 g,e1 g,e2 g,e3 g,e4 g,e5 g,e6 g,e7 g,e8 g]) rfl
  ·refine fun _=>ob_plain [8] rfl rfl fun _ g h=>?_
   have yy0:=seen_out (v:=.slice pa ra.length ca) rfl rfl h.1
   exact tvS (by simp [go_sem,yy0]) rfl
  ·refine fun _=>ob_plain [154,155] rfl rfl fun _ g h=>?_
   obtain ⟨_,yy0,rfl⟩:=seen_in rfl h.1
   obtain ⟨_,yy1,rfl⟩:=seen_in rfl h.2.1
   refine tupon_enter (f:=169) (args:=#[.agg #[.func (.func 148) #[] #[],.func (.func 148) #[] #[],.func (.func 149) #[] #[],.func (.func 150) #[] #[],.func (.func 143) #[] #[],.func (.func 151) #[] #[],.func (.func 144) #[] #[],.func (.func 144) #[] #[],.func (.func 152) #[] #[]],.slice pa ra.length ca]) (by simp [go_sem,yy0,yy1]) rfl ?_
   exact (KR.out (.slice pa ra.length ca) ra g.w (RVa5.out.grow g.h) hsa).mono fun e w' ⟨u9,he,hv,hB⟩=>⟨_,he,hB,hv⟩
  ·refine fun _=>ob_plain [0] rfl rfl fun _ g h=>?_
   have yy0:=seen_out (v:=.pointer (some ⟨eb,0,none⟩)) rfl rfl h.1
   exact tvS (by simp [go_sem,yy0]) rfl
  ·refine fun _=>ob_plain [157] rfl rfl fun _ g h=>?_
   obtain ⟨_,yy0,rfl⟩:=seen_in rfl h.1
   exact tvS (by simp [go_sem,yy0]) rfl
  ·refine fun _=>ob_plain [158] rfl rfl fun _ g h=>?_
   obtain ⟨_,yy0,rfl⟩:=seen_in rfl h.1
   exact tvS (by simp [go_sem,yy0]) rfl
  ·refine fun _=>ob_plain [159] rfl rfl fun _ g h=>?_
   obtain ⟨_,yy0,rfl⟩:=seen_in rfl h.1
   exact tvS (by simp [go_sem,yy0,e0 g,e1 g,e2 g,e3 g,e4 g,e5 g,e6 g,e7 g,e8 g]) rfl
  ·refine fun _=>ob_plain [9] rfl rfl fun _ g h=>?_
   have yy0:=seen_out (v:=.slice pb rb.length cb) rfl rfl h.1
   exact tvS (by simp [go_sem,yy0]) rfl
  ·refine fun _=>ob_plain [160,161] rfl rfl fun _ g h=>?_
   obtain ⟨_,yy0,rfl⟩:=seen_in rfl h.1
   obtain ⟨_,yy1,rfl⟩:=seen_in rfl h.2.1
   refine tupon_enter (f:=169) (args:=#[.agg #[.func (.func 148) #[] #[],.func (.func 148) #[] #[],.func (.func 149) #[] #[],.func (.func 150) #[] #[],.func (.func 143) #[] #[],.func (.func 151) #[] #[],.func (.func 144) #[] #[],.func (.func 144) #[] #[],.func (.func 152) #[] #[]],.slice pb rb.length cb]) (by simp [go_sem,yy0,yy1]) rfl ?_
   exact (KR.out (.slice pb rb.length cb) rb g.w (RVb5.out.grow g.h) hsb).mono fun e w' ⟨u9,he,hv,hB⟩=>⟨_,he,hB,hv⟩
  ·refine fun _=>ob_plain [0] rfl rfl fun _ g h=>?_
   have yy0:=seen_out (v:=.pointer (some ⟨eb,0,none⟩)) rfl rfl h.1
   exact tvS (by simp [go_sem,yy0]) rfl
  ·refine fun _=>ob_plain [163] rfl rfl fun _ g h=>?_
   obtain ⟨_,yy0,rfl⟩:=seen_in rfl h.1
   exact tvS (by simp [go_sem,yy0]) rfl
  ·refine fun _=>ob_plain [164] rfl rfl fun _ g h=>?_
   obtain ⟨_,yy0,rfl⟩:=seen_in rfl h.1
   exact tvS (by simp [go_sem,yy0]) rfl
  ·refine fun _=>ob_plain [165] rfl rfl fun _ g h=>?_
   obtain ⟨_,yy0,rfl⟩:=seen_in rfl h.1
   exact tvS (by simp [go_sem,yy0,e0 g,e1 g,e2 g,e3 g,e4 g,e5 g,e6 g,e7 g,e8 g]) rfl
  ·refine fun _=>ob_plain [0] rfl rfl fun _ g h=>?_
   have yy0:=seen_out (v:=.pointer (some ⟨eb,0,none⟩)) rfl rfl h.1
   exact tvS (by simp [go_sem,yy0]) rfl
  ·refine fun _=>ob_plain [167] rfl rfl fun _ g h=>?_
   obtain ⟨_,yy0,rfl⟩:=seen_in rfl h.1
   exact tvS (by simp [go_sem,yy0]) rfl
  ·refine fun _=>ob_plain [168] rfl rfl fun _ g h=>?_
   obtain ⟨_,yy0,rfl⟩:=seen_in rfl h.1
   exact tvS (by simp [go_sem,yy0]) rfl
  ·refine fun _=>ob_plain [169] rfl rfl fun _ g h=>?_
   obtain ⟨_,yy0,rfl⟩:=seen_in rfl h.1
   exact tvS (by simp [go_sem,yy0,e15 g]) rfl
  ·refine fun _=>ob_plain [1] rfl rfl fun _ g h=>?_
   have yy0:=seen_out (v:=.int .i64 (i:Int)) rfl rfl h.1
   exact tvS (by simp [go_sem,yy0]) rfl
  ·refine fun _=>ob_plain [170,171] rfl rfl fun _ g h=>?_
   obtain ⟨_,yy0,rfl⟩:=seen_in rfl h.1
   obtain ⟨_,yy1,rfl⟩:=seen_in rfl h.2.1
   exact tvS (by simp [go_sem,yy0,yy1,hnq]) rfl
  ·refine fun _=>ob_plain [172] rfl rfl fun _ g h=>?_
   obtain ⟨_,yy0,rfl⟩:=seen_in rfl h.1
   exact tvS (by simp [go_sem,yy0,rtq g]) rfl
  ·refine fun _=>ob_plain [166,173] rfl rfl fun _ g h=>?_
   obtain ⟨_,yy0,rfl⟩:=seen_in rfl h.1
   obtain ⟨_,yy1,rfl⟩:=seen_in rfl h.2.1
   refine tupon_enter (f:=169) (args:=#[.agg #[.func (.func 148) #[] #[],.func (.func 148) #[] #[],.func (.func 149) #[] #[],.func (.func 150) #[] #[],.func (.func 143) #[] #[],.func (.func 151) #[] #[],.func (.func 144) #[] #[],.func (.func 144) #[] #[],.func (.func 152) #[] #[]],.slice pq rq.length cq]) (by simp [go_sem,yy0,yy1]) rfl ?_
   exact (KR.out (.slice pq rq.length cq) rq g.w (RVq5.out.grow g.h) hsq).mono fun e w' ⟨u9,he,hv,hB⟩=>⟨_,he,hB,hv⟩
  ·refine fun _=>ob_plain [156,162,174] rfl rfl fun _ g h=>?_
   obtain ⟨z156,yy0,hv156⟩:=seen_in rfl h.1
   obtain ⟨z162,yy1,hv162⟩:=seen_in rfl h.2.1
   obtain ⟨z174,yy2,hv174⟩:=seen_in rfl h.2.2.1
   refine tupon_enter (f:=168) (args:=#[z156,z162,z174]) (by simp [go_sem,yy0,yy1,yy2]) rfl ?_
   exact (KQ.out z156 z162 z174 g.w hv156 hv162 hv174).mono fun e w' ⟨he,hB⟩=>⟨_,he,hB,rfl⟩
  ·refine fun _=>ob_plain [150,175] rfl rfl fun _ g h=>?_
   obtain ⟨_,yy0,rfl⟩:=seen_in rfl h.1
   obtain ⟨_,yy1,rfl⟩:=seen_in rfl h.2.1
   refine tupon_enter (f:=148) (args:=#[.agg #[.int .i64 r0,.int .i64 r1]]) (by simp [go_sem,yy0,yy1]) rfl ?_
   exact (same_ok r0 r1 g.w).mono fun e w' ⟨he,hB⟩=>⟨_,he,hB,rfl⟩
  ·exact fun h=>absurd rfl h
 rintro w7 hB _ rfl _ rfl _ rfl _ rfl _ rfl _ rfl _ rfl _ rfl _ rfl _ rfl z156 hv156 _ rfl _ rfl _ rfl _ rfl _ rfl z162 hv162 _ rfl _ rfl _ rfl _ rfl _ rfl _ rfl _ rfl _ rfl _ rfl _ rfl _ rfl z174 hv174 _ rfl _ rfl
 simp only [Act.put,List.setIfInBounds_toArray,List.set_cons_succ,List.set_cons_zero,List.filterMap_nil]
 clear rtq hv156 hv162 hv174 e0 e1 e2 e3 e4 e5 e6 e7 e8 e9 e10 e11 e12 e13 e14 e15
 have hx:=HR5.out.grow hB
 have HB9:=below_then HW5.out hB
 have q0:=heapN_cellj hx (k:=0) rfl
 have q1:=heapN_cellj hx (k:=1) rfl
 have y0:w7.frozen? ⟨w.heap.size,0,none⟩ = false:=by simp [World.frozen?,show w7.heap[w.heap.size]? = _ from hx]
 have y1:w7.frozen? ⟨w.heap.size,1,none⟩ = false:=by simp [World.frozen?,show w7.heap[w.heap.size]? = _ from hx]
 refine ⟨_,by simp [go_sem,q0,y0,q1,y1]; rfl,?_⟩
 have HW9:=Lib.hid ((HB9.setCell (p:=⟨w.heap.size,0,none⟩) (by dsimp only; omega) (.int .i64 r0)).setCell (p:=⟨w.heap.size,1,none⟩) (by dsimp only; omega) (.int .i64 r1))
 have hs9:=cellsT_setN (o:=1) (u:=.int .i64 r1) (cellsT_setN (o:=0) (u:=.int .i64 r0) hx)
 have x0:=heapN_cellj hs9 (k:=0) (u:=.int .i64 r0) rfl
 have x1:=heapN_cellj hs9 (k:=1) (u:=.int .i64 r1) rfl
 clear hs9 hx q0 q1 y0 y1
 go_wp2_with (fail)
 exact bodyPost_ret (v:=.agg #[.int .i64 r0,.int .i64 r1]) (by simp [results,Tryz.results147,go_sem,x0,x1]) rfl ⟨rfl,HW9.out⟩
set_option maxHeartbeats 16000000 in
theorem next_sqrt (w:World) (eb:Nat) (N:Int) (pl:Option Addr) (cl:Nat) (po:Option Addr) (no co:Nat) (t0 t1:Int) (sv rv:Value) (L:List Is) (st rows:List (List (Int × Int))) (i k:Nat) (a1 b1:Nat) (lo hi:Int) (hU:ExW w eb N pl cl po no co t0 t1 sv rv L st rows) (hx:L[i]? = some ⟨6,(a1:Int),(b1:Int),lo,hi⟩) (hk:k ≤ 100) (ra:List (Int × Int)) (hra:rows[a1]? = some ra) (rb:List (Int × Int)) (hrb:rows[b1]? = some rb) (rq:List (Int × Int)) (hrq:rows[i]? = some rq) (vA:AV ra) (vQ:AV rq) (hqa:rq.length < ra.length) (hsa:ra.length ≤ 1000) (hsq:rq.length ≤ 1000) (r0 r1:Int) (hres:rnI ra rq = (r0,r1)) :
  Calls Tryz.prog 147 #[.pointer (some ⟨eb,0,none⟩),.int .i64 i,.int .i64 k] w fun e w'=>e = .returned (.agg #[.int .i64 r0,.int .i64 r1])∧Below w.heap.size w w':=by
 obtain ⟨ps,cs,rfl⟩:=hU.hs.cut
 obtain ⟨pv,cv,rfl⟩:=hU.hr.cut
 obtain ⟨bl,ol,hpl,hbl,rdl⟩:=is_rd hU.hl hx
 subst hpl
 have hil:(i:Int) < L.length:=by have:=(List.getElem?_eq_some_iff.1 hx).1; omega
 obtain ⟨bv,ov,ua,hpa,hba,rdta⟩:=hU.hr.rd grows_rx hra
 subst hpa
 obtain ⟨pa,ca,ea⟩:=(rdta ⟨w,Below.refl _ _⟩).2.2.cut
 subst ea
 have hna:(a1:Int) < rows.length:=by have:=(List.getElem?_eq_some_iff.1 hra).1; omega
 obtain ⟨bb9,ob9,ub,hpb,hbb,rdtb⟩:=hU.hr.rd grows_rx hrb
 simp only [Option.some.injEq,Addr.mk.injEq,and_true] at hpb
 obtain ⟨rfl,rfl⟩:=hpb
 obtain ⟨pb,cb,eb⟩:=(rdtb ⟨w,Below.refl _ _⟩).2.2.cut
 subst eb
 have hnb:(b1:Int) < rows.length:=by have:=(List.getElem?_eq_some_iff.1 hrb).1; omega
 obtain ⟨bq9,oq9,uq,hpq,hbq,rdtq⟩:=hU.hr.rd grows_rx hrq
 simp only [Option.some.injEq,Addr.mk.injEq,and_true] at hpq
 obtain ⟨rfl,rfl⟩:=hpq
 obtain ⟨pq,cq,eq⟩:=(rdtq ⟨w,Below.refl _ _⟩).2.2.cut
 subst eq
 have hnq:(i:Int) < rows.length:=by have:=(List.getElem?_eq_some_iff.1 hrq).1; omega
 have hE:Below w.heap.size w ((w.alloc (.cells #[.int .i64 0,.int .i64 0] 59)).alloc (.cells #[.int .i64 6,.int .i64 (a1:Int),.int .i64 (b1:Int),.int .i64 lo,.int .i64 hi] 112)):=allocs_below [.cells #[.int .i64 0,.int .i64 0] 59,.cells #[.int .i64 6,.int .i64 (a1:Int),.int .i64 (b1:Int),.int .i64 lo,.int .i64 hi] 112] w
 have HR:=Lib.hid (show Blk ((w.alloc (.cells #[.int .i64 0,.int .i64 0] 59)).alloc (.cells #[.int .i64 6,.int .i64 (a1:Int),.int .i64 (b1:Int),.int .i64 lo,.int .i64 hi] 112)) (w.heap.size) (.cells #[.int .i64 0,.int .i64 0] 59) from allocs_at [.cells #[.int .i64 0,.int .i64 0] 59,.cells #[.int .i64 6,.int .i64 (a1:Int),.int .i64 (b1:Int),.int .i64 lo,.int .i64 hi] 112] w 0 _ rfl)
 have HX:=Lib.hid (show Blk ((w.alloc (.cells #[.int .i64 0,.int .i64 0] 59)).alloc (.cells #[.int .i64 6,.int .i64 (a1:Int),.int .i64 (b1:Int),.int .i64 lo,.int .i64 hi] 112)) (w.heap.size+1) (.cells #[.int .i64 6,.int .i64 (a1:Int),.int .i64 (b1:Int),.int .i64 lo,.int .i64 hi] 112) from allocs_at [.cells #[.int .i64 0,.int .i64 0] 59,.cells #[.int .i64 6,.int .i64 (a1:Int),.int .i64 (b1:Int),.int .i64 lo,.int .i64 hi] 112] w 1 _ rfl)
 have hE1:Below w.heap.size w (w.alloc (.cells #[.int .i64 0,.int .i64 0] 59)):=allocs_below [.cells #[.int .i64 0,.int .i64 0] 59] w
 have HE:=Lib.hid (hU.blk.grow hE)
 have he1:=hU.blk.grow hE1
 unfold eC at HE he1
 have e10:=heapN_cellj he1 (k:=10) rfl
 obtain ⟨x0,x1,x2,x3,x4⟩:=rdl ⟨_,hE1⟩
 dsimp only at x0 x1 x2 x3 x4
 have z0:=heapN_cellj HX.out (k:=0) rfl
 have RTa:=Lib.hid (fun g:Grown ((w.alloc (.cells #[.int .i64 0,.int .i64 0] 59)).alloc (.cells #[.int .i64 6,.int .i64 (a1:Int),.int .i64 (b1:Int),.int .i64 lo,.int .i64 hi] 112))=>show g.w.cell? ⟨bv,ov+a1,none⟩ = some (.slice pa ra.length ca) from (rdta ⟨g.w,below_then hE g.h⟩).2.1)
 have RVa:=Lib.hid (show Vx ((w.alloc (.cells #[.int .i64 0,.int .i64 0] 59)).alloc (.cells #[.int .i64 6,.int .i64 (a1:Int),.int .i64 (b1:Int),.int .i64 lo,.int .i64 hi] 112)) (.slice pa ra.length ca) ra from (rdta ⟨_,hE⟩).2.2)
 have RTb:=Lib.hid (fun g:Grown ((w.alloc (.cells #[.int .i64 0,.int .i64 0] 59)).alloc (.cells #[.int .i64 6,.int .i64 (a1:Int),.int .i64 (b1:Int),.int .i64 lo,.int .i64 hi] 112))=>show g.w.cell? ⟨bv,ov+b1,none⟩ = some (.slice pb rb.length cb) from (rdtb ⟨g.w,below_then hE g.h⟩).2.1)
 have RVb:=Lib.hid (show Vx ((w.alloc (.cells #[.int .i64 0,.int .i64 0] 59)).alloc (.cells #[.int .i64 6,.int .i64 (a1:Int),.int .i64 (b1:Int),.int .i64 lo,.int .i64 hi] 112)) (.slice pb rb.length cb) rb from (rdtb ⟨_,hE⟩).2.2)
 have RTq:=Lib.hid (fun g:Grown ((w.alloc (.cells #[.int .i64 0,.int .i64 0] 59)).alloc (.cells #[.int .i64 6,.int .i64 (a1:Int),.int .i64 (b1:Int),.int .i64 lo,.int .i64 hi] 112))=>show g.w.cell? ⟨bv,ov+i,none⟩ = some (.slice pq rq.length cq) from (rdtq ⟨g.w,below_then hE g.h⟩).2.1)
 have RVq:=Lib.hid (show Vx ((w.alloc (.cells #[.int .i64 0,.int .i64 0] 59)).alloc (.cells #[.int .i64 6,.int .i64 (a1:Int),.int .i64 (b1:Int),.int .i64 lo,.int .i64 hi] 112)) (.slice pq rq.length cq) rq from (rdtq ⟨_,hE⟩).2.2)
 have HW:=Lib.hid hE
 clear hE hE1 he1 rdl hU rdta hba hra rdtb hbb hrb rdtq hbq hrq
 have KR:=Lib.hid (fun v A w h hs=>ranges_ok v A w h hs)
 unfold domV at KR
 have KQ:=Lib.hid (fun va vq w h1 h3=>sroot_ok va vq ra rq w h1 h3 vA vQ hqa hsa)
 rw [hres] at KQ
 clear hres vA vQ
 go_enter Tryz.func147,Tryz.ntmps147
 go_wp2_with (fail)
 generalize hW0:World.alloc (World.alloc w _) _ = W0 at *
 clear hW0 e10 x0 x1 x2 x3 x4 z0
 have e0:=fun g:Grown W0=>heapN_cellj (HE.out.grow g.h) (k:=0) rfl
 have e1:=fun g:Grown W0=>heapN_cellj (HE.out.grow g.h) (k:=1) rfl
 have e2:=fun g:Grown W0=>heapN_cellj (HE.out.grow g.h) (k:=2) rfl
 have e3:=fun g:Grown W0=>heapN_cellj (HE.out.grow g.h) (k:=3) rfl
 have e4:=fun g:Grown W0=>heapN_cellj (HE.out.grow g.h) (k:=4) rfl
 have e5:=fun g:Grown W0=>heapN_cellj (HE.out.grow g.h) (k:=5) rfl
 have e6:=fun g:Grown W0=>heapN_cellj (HE.out.grow g.h) (k:=6) rfl
 have e7:=fun g:Grown W0=>heapN_cellj (HE.out.grow g.h) (k:=7) rfl
 have e8:=fun g:Grown W0=>heapN_cellj (HE.out.grow g.h) (k:=8) rfl
 have e9:=fun g:Grown W0=>heapN_cellj (HE.out.grow g.h) (k:=9) rfl
 have e10:=fun g:Grown W0=>heapN_cellj (HE.out.grow g.h) (k:=10) rfl
 have e11:=fun g:Grown W0=>heapN_cellj (HE.out.grow g.h) (k:=11) rfl
 have e12:=fun g:Grown W0=>heapN_cellj (HE.out.grow g.h) (k:=12) rfl
 have e13:=fun g:Grown W0=>heapN_cellj (HE.out.grow g.h) (k:=13) rfl
 have e14:=fun g:Grown W0=>heapN_cellj (HE.out.grow g.h) (k:=14) rfl
 have e15:=fun g:Grown W0=>heapN_cellj (HE.out.grow g.h) (k:=15) rfl
 have z0:=fun g:Grown W0=>heapN_cellj (HX.out.grow g.h) (k:=0) rfl
 have z1:=fun g:Grown W0=>heapN_cellj (HX.out.grow g.h) (k:=1) rfl
 have z2:=fun g:Grown W0=>heapN_cellj (HX.out.grow g.h) (k:=2) rfl
 have z3:=fun g:Grown W0=>heapN_cellj (HX.out.grow g.h) (k:=3) rfl
 have z4:=fun g:Grown W0=>heapN_cellj (HX.out.grow g.h) (k:=4) rfl
 have rta:=RTa.out
 have rtb:=RTb.out
 have rtq:=RTq.out
 refine region_pred (lk [(62,fun z_ _=>z_ = .pointer (some ⟨eb,0,none⟩)),(63,fun z_ _=>z_ = .pointer (some ⟨eb,0,none⟩)),(64,fun z_ _=>z_ = .pointer (some ⟨eb,15,none⟩)),(65,fun z_ _=>z_ = .slice (some ⟨bv,ov,none⟩) rows.length cv),(66,fun z_ _=>z_ = .pointer (some ⟨w.heap.size+1,1,none⟩)),(67,fun z_ _=>z_ = .int .i64 (a1:Int)),(68,fun z_ _=>z_ = .pointer (some ⟨bv,ov+a1,none⟩)),(69,fun z_ _=>z_ = .slice pa ra.length ca),(70,fun z_ _=>z_ = .pointer (some ⟨eb,0,none⟩)),(71,fun z_ _=>z_ = .pointer (some ⟨eb,0,none⟩)),(72,fun z_ _=>z_ = .pointer (some ⟨eb,15,none⟩)),(73,fun z_ _=>z_ = .slice (some ⟨bv,ov,none⟩) rows.length cv),(74,fun z_ _=>z_ = .pointer (some ⟨w.heap.size+1,2,none⟩)),(75,fun z_ _=>z_ = .int .i64 (b1:Int)),(76,fun z_ _=>z_ = .pointer (some ⟨bv,ov+b1,none⟩)),(77,fun z_ _=>z_ = .slice pb rb.length cb),(8,fun z_ _=>z_ = .slice pa ra.length ca),(9,fun z_ _=>z_ = .slice pb rb.length cb)]) (by kernel_rfl) (by kernel_rfl) (lk_steady _ ⟨steady_eq _,steady_eq _,steady_eq _,steady_eq _,steady_eq _,steady_eq _,steady_eq _,steady_eq _,steady_eq _,steady_eq _,steady_eq _,steady_eq _,steady_eq _,steady_eq _,steady_eq _,steady_eq _,steady_eq _,steady_eq _,trivial⟩) ?_ ?_
 ·refine ⟨?_,?_,?_,?_,?_,?_,?_,?_,?_,?_,?_,?_,?_,?_,?_,?_,?_,?_,trivial⟩
  ·refine ob_plain [0] rfl rfl fun aa g h=>?_
   have yy0:=seen_out (v:=.pointer (some ⟨eb,0,none⟩)) rfl rfl h.1
   exact tvS (by simp [go_sem,yy0]) rfl
  ·refine ob_plain [62] rfl rfl fun aa g h=>?_
   obtain ⟨_,yy0,rfl⟩:=seen_in rfl h.1
   exact tvS (by simp [go_sem,yy0]) rfl
  ·refine ob_plain [63] rfl rfl fun aa g h=>?_
   obtain ⟨_,yy0,rfl⟩:=seen_in rfl h.1
   exact tvS (by simp [go_sem,yy0]) rfl
  ·refine ob_plain [64] rfl rfl fun aa g h=>?_
   obtain ⟨_,yy0,rfl⟩:=seen_in rfl h.1
   exact tvS (by simp [go_sem,yy0,e15 g]) rfl
  ·refine ob_plain [7] rfl rfl fun aa g h=>?_
   have yy0:=seen_out (v:=.pointer (some ⟨w.heap.size+1,0,none⟩)) rfl rfl h.1
   exact tvS (by simp [go_sem,yy0]) rfl
  ·refine ob_plain [66] rfl rfl fun aa g h=>?_
   obtain ⟨_,yy0,rfl⟩:=seen_in rfl h.1
   exact tvS (by simp [go_sem,yy0,z1 g]) rfl
  ·refine ob_plain [65,67] rfl rfl fun aa g h=>?_
   obtain ⟨_,yy0,rfl⟩:=seen_in rfl h.1
   obtain ⟨_,yy1,rfl⟩:=seen_in rfl h.2.1
   exact tvS (by simp [go_sem,yy0,yy1,hna]) rfl
  ·refine ob_plain [68] rfl rfl fun aa g h=>?_
   obtain ⟨_,yy0,rfl⟩:=seen_in rfl h.1
   exact tvS (by simp [go_sem,yy0,rta g]) rfl
  ·refine ob_plain [0] rfl rfl fun aa g h=>?_
   have yy0:=seen_out (v:=.pointer (some ⟨eb,0,none⟩)) rfl rfl h.1
   exact tvS (by simp [go_sem,yy0]) rfl
  ·refine ob_plain [70] rfl rfl fun aa g h=>?_
   obtain ⟨_,yy0,rfl⟩:=seen_in rfl h.1
   exact tvS (by simp [go_sem,yy0]) rfl
  ·refine ob_plain [71] rfl rfl fun aa g h=>?_
   obtain ⟨_,yy0,rfl⟩:=seen_in rfl h.1
   exact tvS (by simp [go_sem,yy0]) rfl
  ·refine ob_plain [72] rfl rfl fun aa g h=>?_
   obtain ⟨_,yy0,rfl⟩:=seen_in rfl h.1
   exact tvS (by simp [go_sem,yy0,e15 g]) rfl
  ·refine ob_plain [7] rfl rfl fun aa g h=>?_
   have yy0:=seen_out (v:=.pointer (some ⟨w.heap.size+1,0,none⟩)) rfl rfl h.1
   exact tvS (by simp [go_sem,yy0]) rfl
  ·refine ob_plain [74] rfl rfl fun aa g h=>?_
   obtain ⟨_,yy0,rfl⟩:=seen_in rfl h.1
   exact tvS (by simp [go_sem,yy0,z2 g]) rfl
  ·refine ob_plain [73,75] rfl rfl fun aa g h=>?_
   obtain ⟨_,yy0,rfl⟩:=seen_in rfl h.1
   obtain ⟨_,yy1,rfl⟩:=seen_in rfl h.2.1
   exact tvS (by simp [go_sem,yy0,yy1,hnb]) rfl
  ·refine ob_plain [76] rfl rfl fun aa g h=>?_
   obtain ⟨_,yy0,rfl⟩:=seen_in rfl h.1
   exact tvS (by simp [go_sem,yy0,rtb g]) rfl
  ·refine ob_plain [69] rfl rfl fun aa g h=>?_
   obtain ⟨_,yy0,rfl⟩:=seen_in rfl h.1
   exact tvS (by simp [go_sem,yy0]) rfl
  ·refine ob_plain [77] rfl rfl fun aa g h=>?_
   obtain ⟨_,yy0,rfl⟩:=seen_in rfl h.1
   exact tvS (by simp [go_sem,yy0]) rfl
 rintro w5 hB _ rfl _ rfl _ rfl _ rfl _ rfl _ rfl _ rfl _ rfl _ rfl _ rfl _ rfl _ rfl _ rfl _ rfl _ rfl _ rfl _ rfl _ rfl
 simp only [Act.put,List.setIfInBounds_toArray,List.set_cons_succ,List.set_cons_zero,List.filterMap_nil,finP]
 have HB5:=Lib.hid hB
 have HW5:=Lib.hid (below_then HW.out hB)
 have HE5:=Lib.hid (HE.out.grow hB)
 have HX5:=Lib.hid (HX.out.grow hB)
 have HR5:=Lib.hid (HR.out.grow hB)
 have RVa5:=Lib.hid (RVa.out.grow hB)
 have RVb5:=Lib.hid (RVb.out.grow hB)
 have RVq5:=Lib.hid (RVq.out.grow hB)
 clear hB e0 e1 e2 e3 e4 e5 e6 e7 e8 e9 e10 e11 e12 e13 e14 e15 z0 z1 z2 z3 z4 rta rtb rtq
 have z0:=heapN_cellj HX5.out (k:=0) rfl
 go_wp2_with (fail)
 clear z0
 have e0:=fun g:Grown w5=>heapN_cellj (HE5.out.grow g.h) (k:=0) rfl
 have e1:=fun g:Grown w5=>heapN_cellj (HE5.out.grow g.h) (k:=1) rfl
 have e2:=fun g:Grown w5=>heapN_cellj (HE5.out.grow g.h) (k:=2) rfl
 have e3:=fun g:Grown w5=>heapN_cellj (HE5.out.grow g.h) (k:=3) rfl
 have e4:=fun g:Grown w5=>heapN_cellj (HE5.out.grow g.h) (k:=4) rfl
 have e5:=fun g:Grown w5=>heapN_cellj (HE5.out.grow g.h) (k:=5) rfl
 have e6:=fun g:Grown w5=>heapN_cellj (HE5.out.grow g.h) (k:=6) rfl
 have e7:=fun g:Grown w5=>heapN_cellj (HE5.out.grow g.h) (k:=7) rfl
 have e8:=fun g:Grown w5=>heapN_cellj (HE5.out.grow g.h) (k:=8) rfl
 have e9:=fun g:Grown w5=>heapN_cellj (HE5.out.grow g.h) (k:=9) rfl
 have e10:=fun g:Grown w5=>heapN_cellj (HE5.out.grow g.h) (k:=10) rfl
 have e11:=fun g:Grown w5=>heapN_cellj (HE5.out.grow g.h) (k:=11) rfl
 have e12:=fun g:Grown w5=>heapN_cellj (HE5.out.grow g.h) (k:=12) rfl
 have e13:=fun g:Grown w5=>heapN_cellj (HE5.out.grow g.h) (k:=13) rfl
 have e14:=fun g:Grown w5=>heapN_cellj (HE5.out.grow g.h) (k:=14) rfl
 have e15:=fun g:Grown w5=>heapN_cellj (HE5.out.grow g.h) (k:=15) rfl
 have rtq:=fun g:Grown w5=>show g.w.cell? ⟨bv,ov+i,none⟩ = some (.slice pq rq.length cq) from RTq.out ⟨g.w,below_then HB5.out g.h⟩
 refine region_pred_l (lk [(177,fun z_ _=>z_ = .pointer (some ⟨eb,0,none⟩)),(178,fun z_ _=>z_ = .pointer (some ⟨eb,0,none⟩)),(179,fun z_ _=>z_ = .pointer (some ⟨eb,0,none⟩)),(180,fun z_ _=>z_ = .pointer (some ⟨eb,0,none⟩)),(181,fun z_ _=>z_ = .func (.func 148) #[] #[]),(182,fun z_ _=>z_ = .pointer (some ⟨eb,0,none⟩)),(183,fun z_ _=>z_ = .pointer (some ⟨eb,0,none⟩)),(184,fun z_ _=>z_ = .pointer (some ⟨eb,0,none⟩)),(185,fun z_ _=>z_ = .agg #[.func (.func 148) #[] #[],.func (.func 148) #[] #[],.func (.func 149) #[] #[],.func (.func 150) #[] #[],.func (.func 143) #[] #[],.func (.func 151) #[] #[],.func (.func 144) #[] #[],.func (.func 144) #[] #[],.func (.func 152) #[] #[]]),(186,fun z_ _=>z_ = .slice pa ra.length ca),(187,fun z_ w'=>Vx w' z_ ra),(188,fun z_ _=>z_ = .pointer (some ⟨eb,0,none⟩)),(189,fun z_ _=>z_ = .pointer (some ⟨eb,0,none⟩)),(190,fun z_ _=>z_ = .pointer (some ⟨eb,0,none⟩)),(191,fun z_ _=>z_ = .agg #[.func (.func 148) #[] #[],.func (.func 148) #[] #[],.func (.func 149) #[] #[],.func (.func 150) #[] #[],.func (.func 143) #[] #[],.func (.func 151) #[] #[],.func (.func 144) #[] #[],.func (.func 144) #[] #[],.func (.func 152) #[] #[]]),(192,fun z_ _=>z_ = .pointer (some ⟨eb,0,none⟩)),(193,fun z_ _=>z_ = .pointer (some ⟨eb,0,none⟩)),(194,fun z_ _=>z_ = .pointer (some ⟨eb,15,none⟩)),(195,fun z_ _=>z_ = .slice (some ⟨bv,ov,none⟩) rows.length cv),(196,fun z_ _=>z_ = .int .i64 (i:Int)),(197,fun z_ _=>z_ = .pointer (some ⟨bv,ov+i,none⟩)),(198,fun z_ _=>z_ = .slice pq rq.length cq),(199,fun z_ w'=>Vx w' z_ rq),(200,fun z_ _=>z_ = .agg #[.int .i64 r0,.int .i64 r1]),(201,fun z_ _=>z_ = .agg #[.int .i64 r0,.int .i64 r1])]) 25 _ rfl (by kernel_rfl) (by kernel_rfl) (by kernel_rfl) (lk_steady _ ⟨steady_eq _,steady_eq _,steady_eq _,steady_eq _,steady_eq _,steady_eq _,steady_eq _,steady_eq _,steady_eq _,steady_eq _,fun u w1 w2 hb h=>h.grow hb,steady_eq _,steady_eq _,steady_eq _,steady_eq _,steady_eq _,steady_eq _,steady_eq _,steady_eq _,steady_eq _,steady_eq _,steady_eq _,fun u w1 w2 hb h=>h.grow hb,steady_eq _,steady_eq _,trivial⟩) ?_ ?_
 ·refine ⟨?_,?_,?_,?_,?_,?_,?_,?_,?_,?_,?_,?_,?_,?_,?_,?_,?_,?_,?_,?_,?_,?_,?_,?_,?_,?_,trivial⟩
  ·refine fun _=>ob_plain [0] rfl rfl fun _ g h=>?_
   have yy0:=seen_out (v:=.pointer (some ⟨eb,0,none⟩)) rfl rfl h.1
   exact tvS (by simp [go_sem,yy0]) rfl
  ·refine fun _=>ob_plain [177] rfl rfl fun _ g h=>?_
   obtain ⟨_,yy0,rfl⟩:=seen_in rfl h.1
   exact tvS (by simp [go_sem,yy0]) rfl
  ·refine fun _=>ob_plain [178] rfl rfl fun _ g h=>?_
   obtain ⟨_,yy0,rfl⟩:=seen_in rfl h.1
   exact tvS (by simp [go_sem,yy0]) rfl
  ·refine fun _=>ob_plain [179] rfl rfl fun _ g h=>?_
   obtain ⟨_,yy0,rfl⟩:=seen_in rfl h.1
   exact tvS (by simp [go_sem,yy0]) rfl
  ·refine fun _=>ob_plain [180] rfl rfl fun _ g h=>?_
   obtain ⟨_,yy0,rfl⟩:=seen_in rfl h.1
   exact tvS (by simp [go_sem,yy0,e0 g]) rfl
  ·refine fun _=>ob_plain [0] rfl rfl fun _ g h=>?_
   have yy0:=seen_out (v:=.pointer (some ⟨eb,0,none⟩)) rfl rfl h.1
   exact tvS (by simp [go_sem,yy0]) rfl
  ·refine fun _=>ob_plain [182] rfl rfl fun _ g h=>?_
   obtain ⟨_,yy0,rfl⟩:=seen_in rfl h.1
   exact tvS (by simp [go_sem,yy0]) rfl
  ·refine fun _=>ob_plain [183] rfl rfl fun _ g h=>?_
   obtain ⟨_,yy0,rfl⟩:=seen_in rfl h.1
   exact tvS (by simp [go_sem,yy0]) rfl
  ·refine fun _=>ob_plain [184] rfl rfl fun _ g h=>?_
   obtain ⟨_,yy0,rfl⟩:=seen_in rfl h.1
   exact tvS (by simp [go_sem,yy0,e0 g,e1 g,e2 g,e3 g,e4 g,e5 g,e6 g,e7 g,e8 g]) rfl
  ·refine fun _=>ob_plain [8] rfl rfl fun _ g h=>?_
   have yy0:=seen_out (v:=.slice pa ra.length ca) rfl rfl h.1
   exact tvS (by simp [go_sem,yy0]) rfl
  ·refine fun _=>ob_plain [185,186] rfl rfl fun _ g h=>?_
   obtain ⟨_,yy0,rfl⟩:=seen_in rfl h.1
   obtain ⟨_,yy1,rfl⟩:=seen_in rfl h.2.1
   refine tupon_enter (f:=169) (args:=#[.agg #[.func (.func 148) #[] #[],.func (.func 148) #[] #[],.func (.func 149) #[] #[],.func (.func 150) #[] #[],.func (.func 143) #[] #[],.func (.func 151) #[] #[],.func (.func 144) #[] #[],.func (.func 144) #[] #[],.func (.func 152) #[] #[]],.slice pa ra.length ca]) (by simp [go_sem,yy0,yy1]) rfl ?_
   exact (KR.out (.slice pa ra.length ca) ra g.w (RVa5.out.grow g.h) hsa).mono fun e w' ⟨u9,he,hv,hB⟩=>⟨_,he,hB,hv⟩
  ·refine fun _=>ob_plain [0] rfl rfl fun _ g h=>?_
   have yy0:=seen_out (v:=.pointer (some ⟨eb,0,none⟩)) rfl rfl h.1
   exact tvS (by simp [go_sem,yy0]) rfl
  ·refine fun _=>ob_plain [188] rfl rfl fun _ g h=>?_
   obtain ⟨_,yy0,rfl⟩:=seen_in rfl h.1
   exact tvS (by simp [go_sem,yy0]) rfl
  ·refine fun _=>ob_plain [189] rfl rfl fun _ g h=>?_
   obtain ⟨_,yy0,rfl⟩:=seen_in rfl h.1
   exact tvS (by simp [go_sem,yy0]) rfl
  ·refine fun _=>ob_plain [190] rfl rfl fun _ g h=>?_
   obtain ⟨_,yy0,rfl⟩:=seen_in rfl h.1
   exact tvS (by simp [go_sem,yy0,e0 g,e1 g,e2 g,e3 g,e4 g,e5 g,e6 g,e7 g,e8 g]) rfl
  ·refine fun _=>ob_plain [0] rfl rfl fun _ g h=>?_
   have yy0:=seen_out (v:=.pointer (some ⟨eb,0,none⟩)) rfl rfl h.1
   exact tvS (by simp [go_sem,yy0]) rfl
  ·refine fun _=>ob_plain [192] rfl rfl fun _ g h=>?_
   obtain ⟨_,yy0,rfl⟩:=seen_in rfl h.1
   exact tvS (by simp [go_sem,yy0]) rfl
  ·refine fun _=>ob_plain [193] rfl rfl fun _ g h=>?_
   obtain ⟨_,yy0,rfl⟩:=seen_in rfl h.1
   exact tvS (by simp [go_sem,yy0]) rfl
  ·refine fun _=>ob_plain [194] rfl rfl fun _ g h=>?_
   obtain ⟨_,yy0,rfl⟩:=seen_in rfl h.1
   exact tvS (by simp [go_sem,yy0,e15 g]) rfl
  ·refine fun _=>ob_plain [1] rfl rfl fun _ g h=>?_
   have yy0:=seen_out (v:=.int .i64 (i:Int)) rfl rfl h.1
   exact tvS (by simp [go_sem,yy0]) rfl
  ·refine fun _=>ob_plain [195,196] rfl rfl fun _ g h=>?_
   obtain ⟨_,yy0,rfl⟩:=seen_in rfl h.1
   obtain ⟨_,yy1,rfl⟩:=seen_in rfl h.2.1
   exact tvS (by simp [go_sem,yy0,yy1,hnq]) rfl
  ·refine fun _=>ob_plain [197] rfl rfl fun _ g h=>?_
   obtain ⟨_,yy0,rfl⟩:=seen_in rfl h.1
   exact tvS (by simp [go_sem,yy0,rtq g]) rfl
  ·refine fun _=>ob_plain [191,198] rfl rfl fun _ g h=>?_
   obtain ⟨_,yy0,rfl⟩:=seen_in rfl h.1
   obtain ⟨_,yy1,rfl⟩:=seen_in rfl h.2.1
   refine tupon_enter (f:=169) (args:=#[.agg #[.func (.func 148) #[] #[],.func (.func 148) #[] #[],.func (.func 149) #[] #[],.func (.func 150) #[] #[],.func (.func 143) #[] #[],.func (.func 151) #[] #[],.func (.func 144) #[] #[],.func (.func 144) #[] #[],.func (.func 152) #[] #[]],.slice pq rq.length cq]) (by simp [go_sem,yy0,yy1]) rfl ?_
   exact (KR.out (.slice pq rq.length cq) rq g.w (RVq5.out.grow g.h) hsq).mono fun e w' ⟨u9,he,hv,hB⟩=>⟨_,he,hB,hv⟩
  ·refine fun _=>ob_plain [187,199] rfl rfl fun _ g h=>?_
   obtain ⟨z187,yy0,hv187⟩:=seen_in rfl h.1
   obtain ⟨z199,yy1,hv199⟩:=seen_in rfl h.2.1
   refine tupon_enter (f:=170) (args:=#[z187,z199]) (by simp [go_sem,yy0,yy1]) rfl ?_
   exact (KQ.out z187 z199 g.w hv187 hv199).mono fun e w' ⟨he,hB⟩=>⟨_,he,hB,rfl⟩
  ·refine fun _=>ob_plain [181,200] rfl rfl fun _ g h=>?_
   obtain ⟨_,yy0,rfl⟩:=seen_in rfl h.1
   obtain ⟨_,yy1,rfl⟩:=seen_in rfl h.2.1
   refine tupon_enter (f:=148) (args:=#[.agg #[.int .i64 r0,.int .i64 r1]]) (by simp [go_sem,yy0,yy1]) rfl ?_
   exact (same_ok r0 r1 g.w).mono fun e w' ⟨he,hB⟩=>⟨_,he,hB,rfl⟩
  ·exact fun h=>absurd rfl h
 rintro w7 hB _ rfl _ rfl _ rfl _ rfl _ rfl _ rfl _ rfl _ rfl _ rfl _ rfl z187 hv187 _ rfl _ rfl _ rfl _ rfl _ rfl _ rfl _ rfl _ rfl _ rfl _ rfl _ rfl z199 hv199 _ rfl _ rfl
 simp only [Act.put,List.setIfInBounds_toArray,List.set_cons_succ,List.set_cons_zero,List.filterMap_nil]
 clear rtq hv187 hv199 e0 e1 e2 e3 e4 e5 e6 e7 e8 e9 e10 e11 e12 e13 e14 e15
 have hx:=HR5.out.grow hB
 have HB9:=below_then HW5.out hB
 have q0:=heapN_cellj hx (k:=0) rfl
 have q1:=heapN_cellj hx (k:=1) rfl
 have y0:w7.frozen? ⟨w.heap.size,0,none⟩ = false:=by simp [World.frozen?,show w7.heap[w.heap.size]? = _ from hx]
 have y1:w7.frozen? ⟨w.heap.size,1,none⟩ = false:=by simp [World.frozen?,show w7.heap[w.heap.size]? = _ from hx]
 refine ⟨_,by simp [go_sem,q0,y0,q1,y1]; rfl,?_⟩
 have HW9:=Lib.hid ((HB9.setCell (p:=⟨w.heap.size,0,none⟩) (by dsimp only; omega) (.int .i64 r0)).setCell (p:=⟨w.heap.size,1,none⟩) (by dsimp only; omega) (.int .i64 r1))
 have hs9:=cellsT_setN (o:=1) (u:=.int .i64 r1) (cellsT_setN (o:=0) (u:=.int .i64 r0) hx)
 have x0:=heapN_cellj hs9 (k:=0) (u:=.int .i64 r0) rfl
 have x1:=heapN_cellj hs9 (k:=1) (u:=.int .i64 r1) rfl
 clear hs9 hx q0 q1 y0 y1
 go_wp2_with (fail)
 exact bodyPost_ret (v:=.agg #[.int .i64 r0,.int .i64 r1]) (by simp [results,Tryz.results147,go_sem,x0,x1]) rfl ⟨rfl,HW9.out⟩
end Go.Proofs.YtekjflfkbgklhaaGreat
