/-
 Se Sf AppB Sg Sh
-/
import Derived.Test.YtdfdpghdjlgghaaGreatKdq
import Derived.Test.YtdfdpghdjlgghaaGreatKdy
import Derived.Test.YtdfdpghdjlgghaaGreatKdz
import Derived.Maps.AppendAt
namespace Go.Proofs.YtdfdpghdjlgghaaGreat
open Go.ChangeShapes Go.WideShapes Go.ChangeAt Go.RowKit
set_option linter.unusedVariables false
set_option linter.unusedSimpArgs false
set_option maxRecDepth 100000
attribute [local irreducible] Calls
def eC (N:Int) (pl:Option Addr) (nl cl:Nat) (po:Option Addr) (no co:Nat) (t0 t1:Int) (sv rv:Value):Array Value:=#[.func (.func 169) #[] #[],.func (.func 169) #[] #[],.func (.func 170) #[] #[],.func (.func 171) #[] #[],.func (.func 165) #[] #[],.func (.func 172) #[] #[],.func (.func 166) #[] #[],.func (.func 166) #[] #[],.func (.func 173) #[] #[],.int .i64 N,.slice pl nl cl,.slice po no co,.int .i64 t0,.int .i64 t1,sv,rv]
structure ExW (w:World) (eb:Nat) (N:Int) (pl:Option Addr) (cl:Nat) (po:Option Addr) (no co:Nat) (t0 t1:Int) (sv rv:Value) (L:List Is) (st rows:List (List (Int × Int))):Prop where
 blk:Blk w eb (.cells (eC N pl L.length cl po no co t0 t1 sv rv) 214)
 hl:Ix w (.slice pl L.length cl) L
 hs:Lx Vx w sv st
 hr:Lx Vx w rv rows
theorem ExW.grow {w w':World} {eb:Nat} {N:Int} {pl:Option Addr} {cl:Nat} {po:Option Addr} {no co:Nat} {t0 t1:Int} {sv rv:Value} {L:List Is} {st rows:List (List (Int × Int))} (h:ExW w eb N pl cl po no co t0 t1 sv rv L st rows) (hB:Below w.heap.size w w'):ExW w' eb N pl cl po no co t0 t1 sv rv L st rows :=
 ⟨h.blk.grow hB,h.hl.grow hB,h.hs.grow grows_rx hB,h.hr.grow grows_rx hB⟩
set_option maxHeartbeats 16000000 in
theorem next_num (w:World) (eb:Nat) (N:Int) (pl:Option Addr) (cl:Nat) (po:Option Addr) (no co:Nat) (t0 t1:Int) (sv rv:Value) (L:List Is) (st rows:List (List (Int × Int))) (i k:Nat) (a b:Int) (lo hi:Int) (hU:ExW w eb N pl cl po no co t0 t1 sv rv L st rows) (hx:L[i]? = some ⟨1,a,b,lo,hi⟩) (hk:k ≤ 100) (r0 r1:Int) (hres:gI [(lo,hi)] k = (r0,r1)) :
  Calls Tryz.prog 168 #[.pointer (some ⟨eb,0,none⟩),.int .i64 i,.int .i64 k] w fun e w'=>e = .returned (.agg #[.int .i64 r0,.int .i64 r1])∧Below w.heap.size w w':=by
 obtain ⟨ps,cs,rfl⟩:=hU.hs.cut
 obtain ⟨pv,cv,rfl⟩:=hU.hr.cut
 obtain ⟨bl,ol,hpl,hbl,rdl⟩:=is_rd hU.hl hx
 subst hpl
 have hil:(i:Int) < L.length:=by have:=(List.getElem?_eq_some_iff.1 hx).1; omega
 have hE:Below w.heap.size w ((w.alloc (.cells #[.int .i64 0,.int .i64 0] 66)).alloc (.cells #[.int .i64 1,.int .i64 a,.int .i64 b,.int .i64 lo,.int .i64 hi] 75)):=allocs_below [.cells #[.int .i64 0,.int .i64 0] 66,.cells #[.int .i64 1,.int .i64 a,.int .i64 b,.int .i64 lo,.int .i64 hi] 75] w
 have HR:=Lib.hid (show Blk ((w.alloc (.cells #[.int .i64 0,.int .i64 0] 66)).alloc (.cells #[.int .i64 1,.int .i64 a,.int .i64 b,.int .i64 lo,.int .i64 hi] 75)) (w.heap.size) (.cells #[.int .i64 0,.int .i64 0] 66) from allocs_at [.cells #[.int .i64 0,.int .i64 0] 66,.cells #[.int .i64 1,.int .i64 a,.int .i64 b,.int .i64 lo,.int .i64 hi] 75] w 0 _ rfl)
 have HX:=Lib.hid (show Blk ((w.alloc (.cells #[.int .i64 0,.int .i64 0] 66)).alloc (.cells #[.int .i64 1,.int .i64 a,.int .i64 b,.int .i64 lo,.int .i64 hi] 75)) (w.heap.size+1) (.cells #[.int .i64 1,.int .i64 a,.int .i64 b,.int .i64 lo,.int .i64 hi] 75) from allocs_at [.cells #[.int .i64 0,.int .i64 0] 66,.cells #[.int .i64 1,.int .i64 a,.int .i64 b,.int .i64 lo,.int .i64 hi] 75] w 1 _ rfl)
 have hE1:Below w.heap.size w (w.alloc (.cells #[.int .i64 0,.int .i64 0] 66)):=allocs_below [.cells #[.int .i64 0,.int .i64 0] 66] w
 have HE:=Lib.hid (hU.blk.grow hE)
 have he1:=hU.blk.grow hE1
 unfold eC at HE he1
 have e10:=heapN_cellj he1 (k:=10) rfl
 obtain ⟨x0,x1,x2,x3,x4⟩:=rdl ⟨_,hE1⟩
 dsimp only at x0 x1 x2 x3 x4
 have z0:=heapN_cellj HX.out (k:=0) rfl
 have HW:=Lib.hid hE
 clear hE hE1 he1 rdl hU
 have KF:=Lib.hid (fun w v h=>coef_ok k v [(lo,hi)] w h (by omega))
 rw [hres] at KF
 clear hres
 go_enter Tryz.func168,Tryz.ntmps168
 go_wp2_with (fail)
 generalize hW0:World.alloc (World.alloc w _) _ = W0 at *
 clear hW0 e10 x0 x1 x2 x3 x4 z0
 have e0:=fun g:Grown W0=>heapN_cellj (HE.out.grow g.h) (k:=0) rfl
 have e1:=fun g:Grown W0=>heapN_cellj (HE.out.grow g.h) (k:=1) rfl
 have e2:=fun g:Grown W0=>heapN_cellj (HE.out.grow g.h) (k:=2) rfl
 have e3:=fun g:Grown W0=>heapN_cellj (HE.out.grow g.h) (k:=3) rfl
 have e4:=fun g:Grown W0=>heapN_cellj (HE.out.grow g.h) (k:=4) rfl
 have e5:=fun g:Grown W0=>heapN_cellj (HE.out.grow g.h) (k:=5) rfl
 have e6:=fun g:Grown W0=>heapN_cellj (HE.out.grow g.h) (k:=6) rfl
 have e7:=fun g:Grown W0=>heapN_cellj (HE.out.grow g.h) (k:=7) rfl
 have e8:=fun g:Grown W0=>heapN_cellj (HE.out.grow g.h) (k:=8) rfl
 have e9:=fun g:Grown W0=>heapN_cellj (HE.out.grow g.h) (k:=9) rfl
 have e10:=fun g:Grown W0=>heapN_cellj (HE.out.grow g.h) (k:=10) rfl
 have e11:=fun g:Grown W0=>heapN_cellj (HE.out.grow g.h) (k:=11) rfl
 have e12:=fun g:Grown W0=>heapN_cellj (HE.out.grow g.h) (k:=12) rfl
 have e13:=fun g:Grown W0=>heapN_cellj (HE.out.grow g.h) (k:=13) rfl
 have e14:=fun g:Grown W0=>heapN_cellj (HE.out.grow g.h) (k:=14) rfl
 have e15:=fun g:Grown W0=>heapN_cellj (HE.out.grow g.h) (k:=15) rfl
 have z0:=fun g:Grown W0=>heapN_cellj (HX.out.grow g.h) (k:=0) rfl
 have z1:=fun g:Grown W0=>heapN_cellj (HX.out.grow g.h) (k:=1) rfl
 have z2:=fun g:Grown W0=>heapN_cellj (HX.out.grow g.h) (k:=2) rfl
 have z3:=fun g:Grown W0=>heapN_cellj (HX.out.grow g.h) (k:=3) rfl
 have z4:=fun g:Grown W0=>heapN_cellj (HX.out.grow g.h) (k:=4) rfl
 refine region_pred_l (lk [(22,fun z_ _=>z_ = .pointer (some ⟨eb,0,none⟩)),(23,fun z_ _=>z_ = .pointer (some ⟨eb,0,none⟩)),(24,fun z_ _=>z_ = .pointer (some ⟨eb,0,none⟩)),(25,fun z_ _=>z_ = .pointer (some ⟨eb,0,none⟩)),(26,fun z_ _=>z_ = .func (.func 169) #[] #[]),(27,fun z_ _=>z_ = .int .i64 (k:Int)),(28,fun z_ _=>z_ = .pointer (some ⟨w.heap.size+1,3,none⟩)),(29,fun z_ _=>z_ = .agg #[.int .i64 lo,.int .i64 hi]),(30,fun z_ w'=>∃ X_,z_ = .slice (some ⟨X_,0,none⟩) 1 1∧W0.heap.size ≤ X_∧w'.heap[X_]? = some (.cells #[.int .i64 lo,.int .i64 hi] 66 (0,0))),(31,fun z_ _=>z_ = .agg #[.int .i64 r0,.int .i64 r1]),(32,fun z_ _=>z_ = .agg #[.int .i64 r0,.int .i64 r1])]) 11 _ rfl (by kernel_rfl) (by kernel_rfl) (by kernel_rfl) (lk_steady _ ⟨steady_eq _,steady_eq _,steady_eq _,steady_eq _,steady_eq _,steady_eq _,steady_eq _,steady_eq _,fun u w1 w2 hb ⟨X,e,h1,h2⟩=>⟨X,e,h1,(hb.block X (Array.getElem?_eq_some_iff.1 h2).1).trans h2⟩,steady_eq _,steady_eq _,trivial⟩) ?_ ?_
 ·refine ⟨?_,?_,?_,?_,?_,?_,?_,?_,?_,?_,?_,?_,trivial⟩
  ·refine fun _=>ob_plain [0] rfl rfl fun _ g h=>?_
   have yy0:=seen_out (v:=.pointer (some ⟨eb,0,none⟩)) rfl rfl h.1
   exact tvS (by simp [go_sem,yy0]) rfl
  ·refine fun _=>ob_plain [22] rfl rfl fun _ g h=>?_
   obtain ⟨_,yy0,rfl⟩:=seen_in rfl h.1
   exact tvS (by simp [go_sem,yy0]) rfl
  ·refine fun _=>ob_plain [23] rfl rfl fun _ g h=>?_
   obtain ⟨_,yy0,rfl⟩:=seen_in rfl h.1
   exact tvS (by simp [go_sem,yy0]) rfl
  ·refine fun _=>ob_plain [24] rfl rfl fun _ g h=>?_
   obtain ⟨_,yy0,rfl⟩:=seen_in rfl h.1
   exact tvS (by simp [go_sem,yy0]) rfl
  ·refine fun _=>ob_plain [25] rfl rfl fun _ g h=>?_
   obtain ⟨_,yy0,rfl⟩:=seen_in rfl h.1
   exact tvS (by simp [go_sem,yy0,e0 g]) rfl
  ·refine fun _=>ob_plain [2] rfl rfl fun _ g h=>?_
   have yy0:=seen_out (v:=.int .i64 (k:Int)) rfl rfl h.1
   exact tvS (by simp [go_sem,yy0]) rfl
  ·refine fun _=>ob_plain [7] rfl rfl fun _ g h=>?_
   have yy0:=seen_out (v:=.pointer (some ⟨w.heap.size+1,0,none⟩)) rfl rfl h.1
   exact tvS (by simp [go_sem,yy0]) rfl
  ·refine fun _=>ob_plain [28] rfl rfl fun _ g h=>?_
   obtain ⟨_,yy0,rfl⟩:=seen_in rfl h.1
   exact tvS (by simp [go_sem,yy0,z3 g,z4 g]) rfl
  ·refine fun _=>ob_plain [29] rfl rfl fun _ g h=>?_
   obtain ⟨_,yy0,rfl⟩:=seen_in rfl h.1
   exact tupon_value (v:=.slice (some ⟨g.w.heap.size,0,none⟩) 1 1) (w1:=g.w.alloc (.cells #[.int .i64 lo,.int .i64 hi] 66)) (by simp [go_sem,yy0]) ((Below.refl _ _).alloc (Nat.le_refl _) _) ⟨_,rfl,g.h.size,World.alloc_heap_new _ _⟩
  ·refine fun _=>ob_plain [27,30] rfl rfl fun _ g h=>?_
   obtain ⟨_,yy0,rfl⟩:=seen_in rfl h.1
   obtain ⟨_,yy1,⟨X30,rfl,hX30,hI30⟩⟩:=seen_in rfl h.2.1
   refine tupon_enter (f:=189) (args:=#[.int .i64 (k:Int),.slice (some ⟨X30,0,none⟩) 1 1]) (by simp [go_sem,yy0,yy1]) rfl ?_
   exact (KF.out g.w (.slice (some ⟨X30,0,none⟩) 1 1) (rx_blk (n:=1) (l:=[(lo,hi)]) encB_len hI30 rfl rfl (by simp only [List.length_cons,List.length_nil,maxLen]; omega))).mono fun e w' ⟨he,hB⟩=>⟨_,he,hB,rfl⟩
  ·refine fun _=>ob_plain [26,31] rfl rfl fun _ g h=>?_
   obtain ⟨_,yy0,rfl⟩:=seen_in rfl h.1
   obtain ⟨_,yy1,rfl⟩:=seen_in rfl h.2.1
   refine tupon_enter (f:=169) (args:=#[.agg #[.int .i64 r0,.int .i64 r1]]) (by simp [go_sem,yy0,yy1]) rfl ?_
   exact (same_ok r0 r1 g.w).mono fun e w' ⟨he,hB⟩=>⟨_,he,hB,rfl⟩
  ·exact fun h=>absurd rfl h
 rintro w5 hB _ rfl _ rfl _ rfl _ rfl _ rfl _ rfl _ rfl _ rfl _ ⟨X30,rfl,hX30,hI30⟩ _ rfl _ rfl
 simp only [Act.put,List.setIfInBounds_toArray,List.set_cons_succ,List.set_cons_zero,List.filterMap_nil]
 clear e0 e1 e2 e3 e4 e5 e6 e7 e8 e9 e10 e11 e12 e13 e14 e15 z0 z1 z2 z3 z4
 have hx:=HR.out.grow hB
 have HB9:=below_then HW.out hB
 have q0:=heapN_cellj hx (k:=0) rfl
 have q1:=heapN_cellj hx (k:=1) rfl
 have y0:w5.frozen? ⟨w.heap.size,0,none⟩ = false:=by simp [World.frozen?,show w5.heap[w.heap.size]? = _ from hx]
 have y1:w5.frozen? ⟨w.heap.size,1,none⟩ = false:=by simp [World.frozen?,show w5.heap[w.heap.size]? = _ from hx]
 refine ⟨_,by simp [go_sem,q0,y0,q1,y1]; rfl,?_⟩
 have HW9:=Lib.hid ((HB9.setCell (p:=⟨w.heap.size,0,none⟩) (by dsimp only; omega) (.int .i64 r0)).setCell (p:=⟨w.heap.size,1,none⟩) (by dsimp only; omega) (.int .i64 r1))
 have hs9:=cellsT_setN (o:=1) (u:=.int .i64 r1) (cellsT_setN (o:=0) (u:=.int .i64 r0) hx)
 have x0:=heapN_cellj hs9 (k:=0) (u:=.int .i64 r0) rfl
 have x1:=heapN_cellj hs9 (k:=1) (u:=.int .i64 r1) rfl
 clear hs9 hx q0 q1 y0 y1
 go_wp2_with (fail)
 exact bodyPost_ret (v:=.agg #[.int .i64 r0,.int .i64 r1]) (by simp [results,Tryz.results168,go_sem,x0,x1]) rfl ⟨rfl,HW9.out⟩
end Go.Proofs.YtdfdpghdjlgghaaGreat
namespace Go.Proofs.YtdfdpghdjlgghaaGreat
open Go.ChangeShapes Go.WideShapes Go.ChangeAt Go.RowKit
set_option linter.unusedVariables false
set_option linter.unusedSimpArgs false
set_option maxRecDepth 100000
attribute [local irreducible] Calls
theorem sindex_ok (i n:Int) (w:World) (h1:0 ≤ i) (h2:i < n):Calls Tryz.prog 186 #[.int .i64 i,.int .i64 n] w fun e w'=>e = .returned (.bool true)∧Below w.heap.size w w':=by
 go_enter Tryz.func186,Tryz.ntmps186
 go_wp2_with (fail)
 go_ret
 exact ⟨rfl,Below.refl _ _⟩
theorem miss_ok (y N:Int) (vl vo:Value) (pl:Option Addr) (nl cl cb:Nat) (w:World) (hC:Blk w cb (.cells #[.int .i64 N,.slice pl nl cl,vo] 35)) (h1:0 ≤ y) (h2:y < nl):Calls Tryz.prog 187 #[.int .i64 y,.pointer (some ⟨cb,0,none⟩)] w fun e w'=>e = .returned (.bool false)∧Below w.heap.size w w':=by
 have c1:=heapN_cellj hC (k:=1) rfl
 go_enter Tryz.func187,Tryz.ntmps187
 go_wp2_with (fail)
 refine (sindex_ok y nl _ h1 h2).mono ?_
 rintro e w1 ⟨rfl,hB⟩
 go_wp2_with (fail)
 go_ret
 exact ⟨rfl,hB⟩
set_option maxHeartbeats 8000000 in
theorem idxint_ok (vo:Value) (O:List Int) (N:Int) (v9:Value) (pl:Option Addr) (nl cl cb:Nat) (w:World) (ho:Px w vo O) (hC:Blk w cb (.cells #[.int .i64 N,.slice pl nl cl,v9] 35)) (hy:∀ y ∈ O,0 ≤ y∧y < nl) (hsm:O.length ≤ 1000) :
  Calls Tryz.prog 222 #[vo,.func (.func 187) #[] #[.pointer (some ⟨cb,0,none⟩)]] w fun e w'=>e = .returned (.int .i64 (-1))∧Below w.heap.size w w':=by
 obtain ⟨po,co,rfl⟩:=ho.cut
 have HO:=Lib.hid ho
 have HC:=Lib.hid hC
 have HY:=Lib.hid hy
 clear ho hC hy
 go_enter Tryz.func222,Tryz.ntmps222
 go_wp2_with (fail)
 obtain ⟨W0,hW0⟩:∃ W0,W0 = w:=⟨_,rfl⟩
 subst hW0
 go_loopw [8] (fun i wr=>∃ k:Nat,i = .int .i64 k∧k ≤ O.length∧Hid (Below W0.heap.size W0 wr)) (fun i _=>O.length - (intOf i).toNat)
 case atStart=>exact ⟨0,rfl,Nat.zero_le _,Lib.hid (Below.refl _ _)⟩
 case round =>
  obtain ⟨k,rfl,hk,HB⟩:=hrel
  by_cases hlt:k < O.length
  ·have i2:(k:Int) < O.length:=by omega
   obtain ⟨y,hy⟩:∃ y,O[k]? = some y:=⟨_,List.getElem?_eq_getElem hlt⟩
   obtain ⟨bo,oo,rfl,hbo,rdo⟩:=px_rd HO.out hy
   have y0:=rdo ⟨wr,HB.out⟩
   dsimp only at y0
   obtain ⟨j1,j2⟩:=HY.out y (List.mem_of_getElem? hy)
   have KM:=Lib.hid (fun (w:World) h=>miss_ok y N v9 v9 pl nl cl cb w h j1 j2)
   clear hy rdo j1 j2
   go_wp2_with (fail)
   refine (KM.out _ (HC.out.grow HB.out)).mono ?_
   rintro e w5 ⟨rfl,hB5⟩
   have HB5:=Lib.hid (HB.out.trans (hB5.mono HB.out.size))
   clear hB5 y0
   go_wp2_with (fail)
   go_roundw
   case rel=>exact ⟨k+1,by go_num,by omega,HB5⟩
   case measure=>simp [intOf]; omega
  ·obtain rfl:k = O.length:=by omega
   have i2:¬ (O.length:Int) < O.length:=by omega
   go_wp2_with (fail)
   go_ret
   exact ⟨rfl,HB.out⟩
theorem contint_ok (vo:Value) (O:List Int) (N:Int) (v9:Value) (pl:Option Addr) (nl cl cb:Nat) (w:World) (ho:Px w vo O) (hC:Blk w cb (.cells #[.int .i64 N,.slice pl nl cl,v9] 35)) (hy:∀ y ∈ O,0 ≤ y∧y < nl) (hsm:O.length ≤ 1000) :
  Calls Tryz.prog 188 #[vo,.func (.func 187) #[] #[.pointer (some ⟨cb,0,none⟩)]] w fun e w'=>e = .returned (.bool false)∧Below w.heap.size w w':=by
 have KI:=Lib.hid (fun w h1 h2=>idxint_ok vo O N v9 pl nl cl cb w h1 h2 hy hsm)
 go_enter Tryz.func188,Tryz.ntmps188
 go_wp2_with (fail)
 refine (KI.out _ ho hC).mono ?_
 rintro e w1 ⟨rfl,hB⟩
 go_wp2_with (fail)
 go_ret
 exact ⟨rfl,hB⟩
set_option maxHeartbeats 32000000 in
theorem usable_ok (n:Int) (vl vo:Value) (L:List Is) (O:List Int) (w:World) (hl:Ix w vl L) (ho:Px w vo O) (htv:tvB n L O = true) :
  Calls Tryz.prog 167 #[.agg #[.int .i64 n,vl,vo],.int .i64 O.length] w fun e w'=>e = .returned (.bool true)∧Below w.heap.size w w':=by
 obtain ⟨pl,cl,rfl⟩:=hl.cut
 obtain ⟨po,co,rfl⟩:=ho.cut
 obtain ⟨hn1,hn6,h400,hon,hvl,hout⟩:=tv_cases htv
 have hE:Below w.heap.size w (w.alloc (.cells #[.int .i64 n,.slice pl L.length cl,.slice po O.length co] 35)):=allocs_below [.cells #[.int .i64 n,.slice pl L.length cl,.slice po O.length co] 35] w
 have HC:=Lib.hid (show Blk (w.alloc (.cells #[.int .i64 n,.slice pl L.length cl,.slice po O.length co] 35)) (w.heap.size) (.cells #[.int .i64 n,.slice pl L.length cl,.slice po O.length co] 35) from allocs_at [.cells #[.int .i64 n,.slice pl L.length cl,.slice po O.length co] 35] w 0 _ rfl)
 have HL:=Lib.hid (hl.grow hE)
 have HO:=Lib.hid (ho.grow hE)
 have HW:=Lib.hid hE
 have HVL:=Lib.hid hvl
 have HON:=Lib.hid hon
 have KC:=Lib.hid (fun cb w h1 h2=>contint_ok (.slice po O.length co) O n (.slice po O.length co) pl L.length cl cb w h1 h2 hout (by omega))
 have c1:=heapN_cellj HC.out (k:=1) rfl
 clear hE hl ho htv hvl hout hon hn1 hn6
 go_enter Tryz.func167,Tryz.ntmps167
 go_wp2_with (fail)
 generalize hW0:World.alloc w _ = W0 at *
 clear hW0 c1
 go_loopw [11] (fun i wr=>∃ k:Nat,i = .int .i64 k∧k ≤ L.length∧Hid (Below W0.heap.size W0 wr)) (fun i _=>L.length - (intOf i).toNat)
 case atStart=>exact ⟨0,rfl,Nat.zero_le _,Lib.hid (Below.refl _ _)⟩
 case round =>
  obtain ⟨k,rfl,hk,HB⟩:=hrel
  by_cases hlt:k < L.length
  ·have i2:(k:Int) < L.length:=by omega
   obtain ⟨⟨op,a,b,lo,hi⟩,hx⟩:∃ x,L[k]? = some x:=⟨_,List.getElem?_eq_getElem hlt⟩
   have hv:=vin_cases (HVL.out k _ hx)
   obtain ⟨bl,ol,hpl,hbl,rdl⟩:=is_rd HL.out hx
   subst hpl
   obtain ⟨x0,x1,x2,x3,x4⟩:=rdl ⟨wr,HB.out⟩
   have hon:=HON.out
   dsimp only at hv x0 x1 x2 x3 x4
   have hB7:=HB.out.alloc HB.out.size (.cells #[.int .i64 op,.int .i64 a,.int .i64 b,.int .i64 lo,.int .i64 hi] 75)
   have hx7:=World.alloc_heap_new wr (.cells #[.int .i64 op,.int .i64 a,.int .i64 b,.int .i64 lo,.int .i64 hi] 75)
   have z0:=heapN_cellj hx7 (k:=0) rfl
   have z1:=heapN_cellj hx7 (k:=1) rfl
   have z2:=heapN_cellj hx7 (k:=2) rfl
   have HB7:=Lib.hid hB7
   have HX7:=Lib.hid (show Blk (wr.alloc (.cells #[.int .i64 op,.int .i64 a,.int .i64 b,.int .i64 lo,.int .i64 hi] 75)) wr.heap.size (.cells #[.int .i64 op,.int .i64 a,.int .i64 b,.int .i64 lo,.int .i64 hi] 75) from hx7)
   clear hB7 hx7 rdl hx
   rcases hv with ⟨rfl,-⟩ | ⟨rfl,j1,j2⟩ | rfl | ⟨hop,hb0,j1,j2⟩ | ⟨hop,j1,j2,j3,j4⟩
   ·clear hon
    go_wp2_with (fail)
    go_roundw
    case rel=>exact ⟨k+1,by go_num,by omega,HB7⟩
    case measure=>simp [intOf]; omega
   ·rw [← hon] at j2
    clear hon
    go_wp2_with (fail)
    refine (sindex_ok _ _ _ j1 j2).mono ?_
    rintro e w8 ⟨rfl,hB8⟩
    have HB8:=Lib.hid (HB7.out.trans (hB8.mono HB7.out.size))
    clear hB8 j1 j2 x0 x1 x2 x3 x4 z0 z1 z2
    go_wp2_with (fail)
    go_roundw
    case rel=>exact ⟨k+1,by go_num,by omega,HB8⟩
    case measure=>simp [intOf]; omega
   ·clear hon
    go_wp2_with (fail)
    go_roundw
    case rel=>exact ⟨k+1,by go_num,by omega,HB7⟩
    case measure=>simp [intOf]; omega
   ·subst hb0
    have j3:(0:Int) < k:=by omega
    rcases hop with rfl | rfl | rfl
    ·clear hon
     go_wp2_with (fail)
     refine (sindex_ok _ _ _ j1 j2).mono ?_
     rintro e w8 ⟨rfl,hB8⟩
     have hx8:=HX7.out.grow hB8
     have HB8:=Lib.hid (HB7.out.trans (hB8.mono HB7.out.size))
     clear hB8 x0 x1 x2 x3 x4 z0 z1 z2
     have z0:=heapN_cellj hx8 (k:=0) rfl
     have z1:=heapN_cellj hx8 (k:=1) rfl
     have z2:=heapN_cellj hx8 (k:=2) rfl
     clear hx8
     go_wp2_with (fail)
     refine (sindex_ok _ _ _ (Int.le_refl 0) j3).mono ?_
     rintro e w9 ⟨rfl,hB9⟩
     have HB9:=Lib.hid (HB8.out.trans (hB9.mono HB8.out.size))
     clear hB9 z0 z1 z2 j1 j2
     go_wp2_with (fail)
     go_roundw
     case rel=>exact ⟨k+1,by go_num,by omega,HB9⟩
     case measure=>simp [intOf]; omega
    ·clear hon
     go_wp2_with (fail)
     refine (sindex_ok _ _ _ j1 j2).mono ?_
     rintro e w8 ⟨rfl,hB8⟩
     have hx8:=HX7.out.grow hB8
     have HB8:=Lib.hid (HB7.out.trans (hB8.mono HB7.out.size))
     clear hB8 x0 x1 x2 x3 x4 z0 z1 z2
     have z0:=heapN_cellj hx8 (k:=0) rfl
     have z1:=heapN_cellj hx8 (k:=1) rfl
     have z2:=heapN_cellj hx8 (k:=2) rfl
     clear hx8
     go_wp2_with (fail)
     refine (sindex_ok _ _ _ (Int.le_refl 0) j3).mono ?_
     rintro e w9 ⟨rfl,hB9⟩
     have HB9:=Lib.hid (HB8.out.trans (hB9.mono HB8.out.size))
     clear hB9 z0 z1 z2 j1 j2
     go_wp2_with (fail)
     go_roundw
     case rel=>exact ⟨k+1,by go_num,by omega,HB9⟩
     case measure=>simp [intOf]; omega
    ·clear hon
     go_wp2_with (fail)
     refine (sindex_ok _ _ _ j1 j2).mono ?_
     rintro e w8 ⟨rfl,hB8⟩
     have hx8:=HX7.out.grow hB8
     have HB8:=Lib.hid (HB7.out.trans (hB8.mono HB7.out.size))
     clear hB8 x0 x1 x2 x3 x4 z0 z1 z2
     have z0:=heapN_cellj hx8 (k:=0) rfl
     have z1:=heapN_cellj hx8 (k:=1) rfl
     have z2:=heapN_cellj hx8 (k:=2) rfl
     clear hx8
     go_wp2_with (fail)
     refine (sindex_ok _ _ _ (Int.le_refl 0) j3).mono ?_
     rintro e w9 ⟨rfl,hB9⟩
     have HB9:=Lib.hid (HB8.out.trans (hB9.mono HB8.out.size))
     clear hB9 z0 z1 z2 j1 j2
     go_wp2_with (fail)
     go_roundw
     case rel=>exact ⟨k+1,by go_num,by omega,HB9⟩
     case measure=>simp [intOf]; omega
   ·rcases hop with rfl | rfl | rfl | rfl
    ·clear hon
     go_wp2_with (fail)
     refine (sindex_ok _ _ _ j1 j2).mono ?_
     rintro e w8 ⟨rfl,hB8⟩
     have hx8:=HX7.out.grow hB8
     have HB8:=Lib.hid (HB7.out.trans (hB8.mono HB7.out.size))
     clear hB8 x0 x1 x2 x3 x4 z0 z1 z2
     have z0:=heapN_cellj hx8 (k:=0) rfl
     have z1:=heapN_cellj hx8 (k:=1) rfl
     have z2:=heapN_cellj hx8 (k:=2) rfl
     clear hx8
     go_wp2_with (fail)
     refine (sindex_ok _ _ _ j3 j4).mono ?_
     rintro e w9 ⟨rfl,hB9⟩
     have HB9:=Lib.hid (HB8.out.trans (hB9.mono HB8.out.size))
     clear hB9 z0 z1 z2 j1 j2
     go_wp2_with (fail)
     go_roundw
     case rel=>exact ⟨k+1,by go_num,by omega,HB9⟩
     case measure=>simp [intOf]; omega
    ·clear hon
     go_wp2_with (fail)
     refine (sindex_ok _ _ _ j1 j2).mono ?_
     rintro e w8 ⟨rfl,hB8⟩
     have hx8:=HX7.out.grow hB8
     have HB8:=Lib.hid (HB7.out.trans (hB8.mono HB7.out.size))
     clear hB8 x0 x1 x2 x3 x4 z0 z1 z2
     have z0:=heapN_cellj hx8 (k:=0) rfl
     have z1:=heapN_cellj hx8 (k:=1) rfl
     have z2:=heapN_cellj hx8 (k:=2) rfl
     clear hx8
     go_wp2_with (fail)
     refine (sindex_ok _ _ _ j3 j4).mono ?_
     rintro e w9 ⟨rfl,hB9⟩
     have HB9:=Lib.hid (HB8.out.trans (hB9.mono HB8.out.size))
     clear hB9 z0 z1 z2 j1 j2
     go_wp2_with (fail)
     go_roundw
     case rel=>exact ⟨k+1,by go_num,by omega,HB9⟩
     case measure=>simp [intOf]; omega
    ·clear hon
     go_wp2_with (fail)
     refine (sindex_ok _ _ _ j1 j2).mono ?_
     rintro e w8 ⟨rfl,hB8⟩
     have hx8:=HX7.out.grow hB8
     have HB8:=Lib.hid (HB7.out.trans (hB8.mono HB7.out.size))
     clear hB8 x0 x1 x2 x3 x4 z0 z1 z2
     have z0:=heapN_cellj hx8 (k:=0) rfl
     have z1:=heapN_cellj hx8 (k:=1) rfl
     have z2:=heapN_cellj hx8 (k:=2) rfl
     clear hx8
     go_wp2_with (fail)
     refine (sindex_ok _ _ _ j3 j4).mono ?_
     rintro e w9 ⟨rfl,hB9⟩
     have HB9:=Lib.hid (HB8.out.trans (hB9.mono HB8.out.size))
     clear hB9 z0 z1 z2 j1 j2
     go_wp2_with (fail)
     go_roundw
     case rel=>exact ⟨k+1,by go_num,by omega,HB9⟩
     case measure=>simp [intOf]; omega
    ·clear hon
     go_wp2_with (fail)
     refine (sindex_ok _ _ _ j1 j2).mono ?_
     rintro e w8 ⟨rfl,hB8⟩
     have hx8:=HX7.out.grow hB8
     have HB8:=Lib.hid (HB7.out.trans (hB8.mono HB7.out.size))
     clear hB8 x0 x1 x2 x3 x4 z0 z1 z2
     have z0:=heapN_cellj hx8 (k:=0) rfl
     have z1:=heapN_cellj hx8 (k:=1) rfl
     have z2:=heapN_cellj hx8 (k:=2) rfl
     clear hx8
     go_wp2_with (fail)
     refine (sindex_ok _ _ _ j3 j4).mono ?_
     rintro e w9 ⟨rfl,hB9⟩
     have HB9:=Lib.hid (HB8.out.trans (hB9.mono HB8.out.size))
     clear hB9 z0 z1 z2 j1 j2
     go_wp2_with (fail)
     go_roundw
     case rel=>exact ⟨k+1,by go_num,by omega,HB9⟩
     case measure=>simp [intOf]; omega
  ·obtain rfl:k = L.length:=by omega
   have i2:¬ (L.length:Int) < L.length:=by omega
   have hc:=HC.out.grow HB.out
   have c2:=heapN_cellj hc (k:=2) rfl
   clear hc
   go_wp2_with (fail)
   refine (KC.out _ _ (HO.out.grow HB.out) (HC.out.grow HB.out)).mono ?_
   rintro e w5 ⟨rfl,hB5⟩
   clear c2
   have HB5:=Lib.hid (HB.out.trans (hB5.mono HB.out.size))
   clear hB5
   go_wp2_with (fail)
   go_ret
   exact ⟨rfl,below_then HW.out HB5.out⟩
end Go.Proofs.YtdfdpghdjlgghaaGreat
namespace Go.Proofs.YtdfdpghdjlgghaaGreat
open Go.ChangeShapes Go.WideShapes Go.ChangeAt Go.RowKit
set_option linter.unusedVariables false
set_option linter.unusedSimpArgs false
set_option maxRecDepth 100000
section
variable {P:Program}
theorem app_a {o:Oper} {aa:Act} {w:World} (B:Nat) (s x:Operand) (t e:TypeId) (i:TypeInfo) (z:Value) (sz by_:Nat)
  (ho:o.op = .call { callee:=.builtin .append,args:=#[s,x],argTypes:=#[t,t] })
  (ht:P.underlying t = some (.slice e)) (hi:P.info? e = some i) (hz:i.zero = some z) (hsize:i.size = sz) (hby:i.bytes = by_) (hzs:z.cells.size = sz) (hsz:0 < sz)
  (v:Value) (n:Nat) (xs:List Value) (hs:aa.eval s = v) (hown:w.ownsRow B e sz v n xs)
  (ad:Addr) (m c:Nat) (news:List Value) (hx:aa.eval x = .slice (some ad) m c) (hnl:news.length = m * sz)
  (hcell:∀ j u,news[j]? = some u→w.cell? (ad.add j) = some u) (h1:∀ u ∈ news,u.oneCell' = true)
  (h63:n+m ≤ maxLen) (hbytes:(n+m) * by_ ≤ 140737488355328) (hb:B ≤ w.heap.size) :
  ∃ v' w',(execOp aa.eval o).run P w = .ok (.value v') w'∧w.grownBy w' v.ownBlock∧w'.ownsRow B e sz v' (n+m) (xs ++ news)∧(v'.ownBlock = v.ownBlock ∨ v'.ownBlock = some w.heap.size):=by
 obtain ⟨v',w',hr,h2,h3,_,h4⟩:=run_append_own_at (P:=P) w B t o.type e i z sz by_ ht hi hz hsize hby hzs hsz v n xs hown ad m c news hnl hcell h1 h63 hbytes hb
 refine ⟨v',w',?_,h3,h2,h4⟩
 simp [execOp,ho,resolve,invoke,builtin,hs,hx,hr,Result.andThen]
theorem app_b {o:Oper} {aa:Act} {w:World} {row:Option Nat} {F R:Value→World→Prop} (B:Nat) (s x:Operand) (t e:TypeId) (i:TypeInfo) (z:Value) (sz by_:Nat)
  (ho:o.op = .call { callee:=.builtin .append,args:=#[s,x],argTypes:=#[t,t] })
  (ht:P.underlying t = some (.slice e)) (hi:P.info? e = some i) (hz:i.zero = some z) (hsize:i.size = sz) (hby:i.bytes = by_) (hzs:z.cells.size = sz) (hsz:0 < sz)
  (v:Value) (n:Nat) (xs:List Value) (hs:aa.eval s = v) (hown:w.ownsRow B e sz v n xs)
  (ad:Addr) (m c:Nat) (news:List Value) (hx:aa.eval x = .slice (some ad) m c) (hnl:news.length = m * sz)
  (hcell:∀ j u,news[j]? = some u→w.cell? (ad.add j) = some u) (h1:∀ u ∈ news,u.oneCell' = true)
  (h63:n+m ≤ maxLen) (hbytes:(n+m) * by_ ≤ 140737488355328) (hb:B ≤ w.heap.size) (hrow:row = v.ownBlock)
  (hK:∀ v' w',w.grownBy w' v.ownBlock→w'.ownsRow B e sz v' (n+m) (xs ++ news)→(v'.ownBlock = v.ownBlock ∨ v'.ownBlock = some w.heap.size)→F v' w'∧R v' w') :
  ∃ v' w',(execOp aa.eval o).run P w = .ok (.value v') w'∧w.grownBy w' row∧F v' w'∧R v' w':=by
 obtain ⟨v',w',h1,h2,h3,h4⟩:=app_a B s x t e i z sz by_ ho ht hi hz hsize hby hzs hsz v n xs hs hown ad m c news hx hnl hcell h1 h63 hbytes hb
 subst hrow
 exact ⟨v',w',h1,h2,hK v' w' h2 h3 h4⟩
def SteadyR (row:Option Nat) (S:Value→World→Prop):Prop:=∀ v w1 w2,w1.grownBy w2 row→S v w1→S v w2
def steadyAllR (row:Option Nat):List (Tmp × (Value→World→Prop))→Prop
 | []=>True
 | (_,S) :: r=>SteadyR row S∧steadyAllR row r
theorem lk_steadyR (row:Option Nat):∀ (l:List (Tmp × (Value→World→Prop))),steadyAllR row l→∀ t v w1 w2,w1.grownBy w2 row→lk l t v w1→lk l t v w2
 | [],_,_,_,_,_,_,_=>trivial
 | (d,S) :: r,h,t,v,w1,w2,hb,hl=>by
  unfold lk at *
  by_cases e:Nat.beq d t = true
  ·rw [if_pos e] at hl ⊢
   exact h.1 v w1 w2 hb hl
  ·rw [if_neg e] at hl ⊢
   exact lk_steadyR row r h.2 t v w1 w2 hb hl
theorem steadyR_eq (row:Option Nat) (u:Value):SteadyR row (fun v _=>v = u):=fun _ _ _ _ h=>h
theorem steadyR_blk {row:Option Nat} {B:Nat} {z:Nat→Value} {o:Obj} (hrow:∀ b,row = some b→b < B):SteadyR row (fun v w'=>∃ X_,v = z X_∧B ≤ X_∧w'.heap[X_]? = some o):=fun v w1 w2 hb ⟨X,e,h1,h2⟩ =>
 ⟨X,e,h1,(hb.block X (Array.getElem?_eq_some_iff.1 h2).1 (fun q=>by have:=hrow X q.symm; omega)).trans h2⟩
end
theorem grown_of {W W':World} {row:Option Nat} (h:Below W.heap.size W W'):W.grownBy W' row:=⟨h.os,h.tape,h.output,h.size,fun k hk _=>h.block k hk⟩
theorem grown_then {W W1 W':World} {row:Option Nat} (h:W.grownBy W1 row) (k:Below W1.heap.size W1 W'):W.grownBy W' row :=
 ⟨k.os.trans h.os,k.tape.trans h.tape,k.output.trans h.output,Nat.le_trans h.size k.size,fun j hj hne=>(k.block j (Nat.lt_of_lt_of_le hj h.size)).trans (h.block j hj hne)⟩
end Go.Proofs.YtdfdpghdjlgghaaGreat
namespace Go.Proofs.YtdfdpghdjlgghaaGreat
open Go.ChangeShapes Go.WideShapes Go.ChangeAt Go.RowKit
set_option linter.unusedVariables false
set_option linter.unusedSimpArgs false
set_option maxRecDepth 100000
section
variable {α:Type} {enc:α→List Value} {sz:Nat} {t ts te:TypeId}
theorem blk_ne {W:World} {B n size eb:Nat} {e:TypeId} {v:Value} {xs:List Value} {cs:Array Value} (ht:te ≠ e) (hb:W.heap[eb]? = some (.cells cs te (0,0))) (h:W.ownsRow B e size v n xs):v.ownBlock = none ∨ v.ownBlock ≠ some eb:=by
 rcases h.2 with ⟨rfl,_⟩ | ⟨g,cap,cur,rfl,_,hg,_⟩
 ·exact .inl rfl
 ·refine .inr fun e1=>?_
  simp only [Value.ownBlock,Option.some.injEq] at e1
  subst e1
  rw [hb] at hg
  simp only [Option.some.injEq,Obj.cells.injEq] at hg
  exact ht hg.2.1
theorem ob_sym {a b:Option Nat} (h:a = none ∨ a ≠ b):b = none ∨ b ≠ a:=by
 rcases h with h | h
 ·subst h; cases b <;> simp
 ·exact .inr fun e=>h e.symm
structure ExS (enc:α→List Value) (sz:Nat) (t ts te:TypeId) (C:Value→Value→Array Value) (B eb:Nat) (W:World) (sv rv:Value) (st rows:List (List α)) (sus rus:List Value):Prop where
 blk:W.heap[eb]? = some (.cells (C sv rv) te (0,0))
 os:OwT enc sz t ts B W sv st sus
 orr:OwT enc sz t ts B W rv rows rus
 tab:sv.ownBlock = none ∨ sv.ownBlock ≠ rv.ownBlock
 far:∀ u ∈ sus,∀ y ∈ rus,u.ownBlock = none ∨ u.ownBlock ≠ y.ownBlock
 lo:B ≤ eb
theorem ExS.grow {C:Value→Value→Array Value} {B eb:Nat} {W W':World} {sv rv:Value} {st rows:List (List α)} {sus rus:List Value} (h:ExS enc sz t ts te C B eb W sv rv st rows sus rus) (hB:Below W.heap.size W W'):ExS enc sz t ts te C B eb W' sv rv st rows sus rus :=
 ⟨(hB.block eb (Array.getElem?_eq_some_iff.1 h.blk).1).trans h.blk,h.os.grow hB,h.orr.grow hB,h.tab,h.far,h.lo⟩
theorem tab_push (hts:t ≠ ts) {B:Nat} {W W':World} {O c:Nat} {rows:List (List α)} {us:List Value} {sv:Value} {st:List (List α)} {sus:List Value}
  (h:OwT enc sz t ts B W (.slice (some ⟨O,0,none⟩) rows.length c) rows us) (k:OwT enc sz t ts B W sv st sus)
  (htab:sv.ownBlock = none ∨ sv.ownBlock ≠ some O) (hfar:∀ u ∈ sus,∀ y ∈ us,u.ownBlock = none ∨ u.ownBlock ≠ y.ownBlock)
  {i:Nat} {r:List α} {x:α} {u u':Value} (hr:rows[i]? = some r) (hu:us[i]? = some u)
  (ho:W'.ownsRow B t sz u' (r.length+1) (cr enc r ++ enc x)) (hg:W.grownBy W' u.ownBlock) (hat:u'.ownBlock = u.ownBlock ∨ u'.ownBlock = some W.heap.size) :
  OwT enc sz t ts B (W'.setCell ⟨O,i,none⟩ u') (.slice (some ⟨O,0,none⟩) rows.length c) (rows.set i (r ++ [x])) (us.set i u') ∧
  OwT enc sz t ts B (W'.setCell ⟨O,i,none⟩ u') sv st sus∧(∀ y ∈ sus,∀ z ∈ us.set i u',y.ownBlock = none ∨ y.ownBlock ≠ z.ownBlock):=by
 refine ⟨h.push hts hr hu ho hg hat,?_,?_⟩
 ·obtain ⟨u0,e0,hrow⟩:=h.row i r hr
  rw [hu] at e0
  obtain rfl:=Option.some.inj e0
  have k1:=k.other hg (ot_ne (fun e=>hts e.symm) k.out hrow) (fun y hy=>hfar y hy u (List.mem_of_getElem? hu))
  have hout:=h.out.kept hg (ot_ne (fun e=>hts e.symm) h.out hrow)
  exact k1.other (hout.stored i u').2 htab (fun y hy=>by
   obtain ⟨s,_,hs⟩:=k1.mem hy
   exact ot_ne hts hs hout)
 ·intro y hy z hz
  rcases List.mem_or_eq_of_mem_set hz with h1 | rfl
  ·exact hfar y hy z h1
  ·rcases hat with e | e
   ·rw [e]; exact hfar y hy u (List.mem_of_getElem? hu)
   ·rw [e]
    obtain ⟨s,_,hs⟩:=k.mem hy
    rcases e2:y.ownBlock with _ | b
    ·exact .inl rfl
    ·refine .inr fun e3=>?_
     have:=(hs.lt b e2).2
     have:=Option.some.inj e3
     omega
theorem ExS.pushR (hts:t ≠ ts) (h1:te ≠ t) (h2:te ≠ ts) {C:Value→Value→Array Value} {B eb:Nat} {W W':World} {sv:Value} {O c:Nat} {st rows:List (List α)} {sus rus:List Value} (h:ExS enc sz t ts te C B eb W sv (.slice (some ⟨O,0,none⟩) rows.length c) st rows sus rus)
  {i:Nat} {r:List α} {x:α} {u u':Value} (hr:rows[i]? = some r) (hu:rus[i]? = some u) (ho:W'.ownsRow B t sz u' (r.length+1) (cr enc r ++ enc x)) (hg:W.grownBy W' u.ownBlock) (hat:u'.ownBlock = u.ownBlock ∨ u'.ownBlock = some W.heap.size) :
  ExS enc sz t ts te C B eb (W'.setCell ⟨O,i,none⟩ u') sv (.slice (some ⟨O,0,none⟩) rows.length c) st (rows.set i (r ++ [x])) sus (rus.set i u'):=by
 obtain ⟨a,b,d⟩:=tab_push hts h.orr h.os h.tab h.far hr hu ho hg hat
 obtain ⟨u0,e0,hrow⟩:=h.orr.row i r hr
 rw [hu] at e0
 obtain rfl:=Option.some.inj e0
 have hb1:=(hg.block eb (Array.getElem?_eq_some_iff.1 h.blk).1 (fun e=>by
  rcases blk_ne h1 h.blk hrow with q | q
  ·rw [q] at e; cases e
  ·exact q e.symm)).trans h.blk
 have hO:O ≠ eb:=fun e=>by
  rcases blk_ne h2 h.blk h.orr.out with q | q
  ·simp [Value.ownBlock] at q
  ·exact q (by simp [Value.ownBlock,e])
 exact ⟨((oth_at W' O i u').blk eb (Array.getElem?_eq_some_iff.1 hb1).1 (fun e=>hO e.symm)).trans hb1,b,a,h.tab,d,h.lo⟩
theorem ExS.pushS (hts:t ≠ ts) (h1:te ≠ t) (h2:te ≠ ts) {C:Value→Value→Array Value} {B eb:Nat} {W W':World} {rv:Value} {O c:Nat} {st rows:List (List α)} {sus rus:List Value} (h:ExS enc sz t ts te C B eb W (.slice (some ⟨O,0,none⟩) st.length c) rv st rows sus rus)
  {i:Nat} {r:List α} {x:α} {u u':Value} (hr:st[i]? = some r) (hu:sus[i]? = some u) (ho:W'.ownsRow B t sz u' (r.length+1) (cr enc r ++ enc x)) (hg:W.grownBy W' u.ownBlock) (hat:u'.ownBlock = u.ownBlock ∨ u'.ownBlock = some W.heap.size) :
  ExS enc sz t ts te C B eb (W'.setCell ⟨O,i,none⟩ u') (.slice (some ⟨O,0,none⟩) st.length c) rv (st.set i (r ++ [x])) rows (sus.set i u') rus:=by
 obtain ⟨a,b,d⟩:=tab_push hts h.os h.orr (ob_sym h.tab) (fun u hu y hy=>ob_sym (h.far y hy u hu)) hr hu ho hg hat
 obtain ⟨u0,e0,hrow⟩:=h.os.row i r hr
 rw [hu] at e0
 obtain rfl:=Option.some.inj e0
 have hb1:=(hg.block eb (Array.getElem?_eq_some_iff.1 h.blk).1 (fun e=>by
  rcases blk_ne h1 h.blk hrow with q | q
  ·rw [q] at e; cases e
  ·exact q e.symm)).trans h.blk
 have hO:O ≠ eb:=fun e=>by
  rcases blk_ne h2 h.blk h.os.out with q | q
  ·simp [Value.ownBlock] at q
  ·exact q (by simp [Value.ownBlock,e])
 exact ⟨((oth_at W' O i u').blk eb (Array.getElem?_eq_some_iff.1 hb1).1 (fun e=>hO e.symm)).trans hb1,a,b,h.tab,fun u hu y hy=>ob_sym (d y hy u hu),h.lo⟩
theorem ExS.addS (hts:t ≠ ts) (h1:te ≠ t) (h2:te ≠ ts) {C:Value→Value→Array Value} {k:Nat} (hC:∀ a b c,(C a b).setIfInBounds k c = C c b) {B eb:Nat} {W W':World} {sv rv sv' u:Value} {st rows:List (List α)} {sus rus:List Value} {r:List α} (h:ExS enc sz t ts te C B eb W sv rv st rows sus rus)
  (hu:W.ownsRow B t sz u r.length (cr enc r)) (hus:∀ y ∈ sus,y.ownBlock = none ∨ y.ownBlock ≠ u.ownBlock) (hur:∀ y ∈ rus,u.ownBlock = none ∨ u.ownBlock ≠ y.ownBlock)
  (ho:W'.ownsRow B ts 1 sv' (st.length+1) (sus ++ [u])) (hg:W.grownBy W' sv.ownBlock) (hat:sv'.ownBlock = sv.ownBlock ∨ sv'.ownBlock = some W.heap.size) :
  ExS enc sz t ts te C B eb (W'.setCell ⟨eb,k,none⟩ sv') sv' rv (st ++ [r]) rows (sus ++ [u]) rus:=by
 have a:=h.os.snoc hts hu hus ho hg
 have b:=h.orr.other hg (ob_sym h.tab) (fun y hy=>by
  obtain ⟨s,_,hs⟩:=h.orr.mem hy
  exact ot_ne hts hs h.os.out)
 have hb1:=(hg.block eb (Array.getElem?_eq_some_iff.1 h.blk).1 (fun e=>by
  rcases blk_ne h2 h.blk h.os.out with q | q
  ·rw [q] at e; cases e
  ·exact q e.symm)).trans h.blk
 have hg2:W'.grownBy (W'.setCell ⟨eb,k,none⟩ sv') (some eb):=grownBy_setN W' ⟨eb,k,none⟩ sv'
 refine ⟨?_,a.other hg2 (blk_ne h2 hb1 a.out) (fun y hy=>?_),b.other hg2 (blk_ne h2 hb1 b.out) (fun y hy=>?_),?_,?_,h.lo⟩
 ·rw [cellsT_setN (o:=k) (u:=sv') hb1,hC]
 ·obtain ⟨s,_,hs⟩:=a.mem hy
  exact blk_ne h1 hb1 hs
 ·obtain ⟨s,_,hs⟩:=b.mem hy
  exact blk_ne h1 hb1 hs
 ·rcases hat with e | e
  ·rw [e]; exact h.tab
  ·rw [e]
   rcases e2:rv.ownBlock with _ | q
   ·exact .inr (by simp)
   ·refine .inr fun e3=>?_
    have:=(h.orr.out.lt q e2).2
    have:=Option.some.inj e3
    omega
 ·intro y hy z hz
  rcases List.mem_append.1 hy with h3 | h3
  ·exact h.far y h3 z hz
  ·rw [List.mem_singleton.1 h3]; exact hur z hz
end
end Go.Proofs.YtdfdpghdjlgghaaGreat
namespace Go.Proofs.YtdfdpghdjlgghaaGreat
open Go.ChangeShapes Go.WideShapes Go.ChangeAt Go.RowKit
set_option linter.unusedVariables false
set_option linter.unusedSimpArgs false
set_option maxRecDepth 100000
attribute [local irreducible] Calls
theorem gR_of {l:List (List (Int × Int))} {i:Nat} (h:i < l.length):l[i]? = some (gR l i):=by
 unfold gR
 rw [List.getD_eq_getElem?_getD,List.getElem?_eq_getElem h]
 rfl
theorem rwk_lo {k i n j:Nat} {rows:List (List (Int × Int))} (h:RwK k i n rows) (hj:j < i) (hi:i ≤ n):(gR rows j).length = k+1:=by rw [h.row j (by omega),if_pos hj]
theorem rwk_at {k i n:Nat} {rows:List (List (Int × Int))} (h:RwK k i n rows) (hi:i < n):(gR rows i).length = k:=by rw [h.row i hi,if_neg (by omega)]
set_option maxHeartbeats 4000000 in
theorem next_ok (w:World) (eb:Nat) (N:Int) (pl:Option Addr) (cl:Nat) (po:Option Addr) (no co:Nat) (t0 t1:Int) (sv rv:Value) (L:List Is) (st rows:List (List (Int × Int))) (i k:Nat) (x:Is) (hU:ExW w eb N pl cl po no co t0 t1 sv rv L st rows) (hx:L[i]? = some x) (hN1:NmL L) (hv:vinB i st.length x = true) (hk:k ≤ 100) (hR:RwK k i L.length rows) (hS:RwK (k+1) 0 st.length st) :
  Calls Tryz.prog 168 #[.pointer (some ⟨eb,0,none⟩),.int .i64 i,.int .i64 k] w fun e w'=>e = .returned (.agg #[.int .i64 (nxI x st rows (gR rows i) (t0,t1) k).1,.int .i64 (nxI x st rows (gR rows i) (t0,t1) k).2])∧Below w.heap.size w w':=by
 obtain ⟨op,a,b,lo,hi⟩:=x
 have hN:op = 1:=hN1 i _ hx
 have hv:=vin_cases hv
 dsimp only at hv
 have hil:i < L.length:=(List.getElem?_eq_some_iff.1 hx).1
 have rr:∀ j,j < L.length→rows[j]? = some (gR rows j):=fun j hj=>gR_of (by rw [hR.len]; exact hj)
 have vr:∀ j,AV (gR rows j):=fun j=>gR_av hR.av j
 rcases hv with ⟨rfl,-⟩ | ⟨rfl,j1,j2⟩ | rfl | ⟨hop,hb0,j1,j2⟩ | ⟨hop,j1,j2,j3,j4⟩
 ·rw [show nxI ⟨1,a,b,lo,hi⟩ st rows (gR rows i) (t0,t1) k = gI [(lo,hi)] k by simp [nxI]]
  exact next_num w eb N pl cl po no co t0 t1 sv rv L st rows i k a b lo hi hU hx hk _ _ rfl
 all_goals omega
end Go.Proofs.YtdfdpghdjlgghaaGreat
