/-
 Ch Cj Gh Gi
-/
import Derived.Test.YtdfdpghdjlgghaaGreatKda
import Derived.Test.YtdfdpghdjlgghaaGreatKdl
import Derived.Test.YtdfdpghdjlgghaaGreatKdt
import Derived.Test.YtdfdpghdjlgghaaGreatKdzf
import Derived.Test.YtdfdpghdjlgghaaGreatKdzh
import Derived.Test.YtdfdpghdjlgghaaGreatKdzj
import Derived.Stop.Asserts
import Derived.Lib.IfaceEq
import Derived.LaidEql
namespace Go.Proofs.YtdfdpghdjlgghaaGreat
open Go.ChangeShapes Go.WideShapes Go.ChangeAt Go.RowKit
set_option linter.unusedVariables false
set_option linter.unusedSimpArgs false
set_option maxRecDepth 100000
attribute [local irreducible] Calls
theorem shrink_ok (o fi le mo wi h:Int) (w:World) (h0:0 ≤ h) (h1:h < 4294967296) (hl:1 ≤ le) (hl2:le ≤ 4294967296) :
  Calls Tryz.prog 44 #[.agg #[.int .i64 o,.int .i64 fi,.int .i64 le,.int .i64 mo,.int .i64 wi],.int .i64 h] w fun e w'=>e = .returned (if h / 2 < le then .tuple #[.int .i64 0,.int .i64 130] else .tuple #[.int .i64 (h / 2),.int .i64 0])∧Below w.heap.size w w':=by
 have hE:Below w.heap.size w (w.alloc (.cells #[.int .i64 o,.int .i64 fi,.int .i64 le,.int .i64 mo,.int .i64 wi] 25)):=allocs_below [.cells #[.int .i64 o,.int .i64 fi,.int .i64 le,.int .i64 mo,.int .i64 wi] 25] w
 have HC:=Lib.hid (show Blk (w.alloc (.cells #[.int .i64 o,.int .i64 fi,.int .i64 le,.int .i64 mo,.int .i64 wi] 25)) (w.heap.size) (.cells #[.int .i64 o,.int .i64 fi,.int .i64 le,.int .i64 mo,.int .i64 wi] 25) from allocs_at [.cells #[.int .i64 o,.int .i64 fi,.int .i64 le,.int .i64 mo,.int .i64 wi] 25] w 0 _ rfl)
 have HW:=Lib.hid hE
 have c2:=heapN_cellj HC.out (k:=2) rfl
 clear hE
 by_cases hd:h / 2 < le
 ·rw [if_pos hd]
  rcases (show le = 1 ∨ 1 < le by omega) with rfl | hm
  all_goals
   go_enter Tryz.func44,Tryz.ntmps44
   go_wp2_with (fail)
   go_ret2
   exact ⟨rfl,HW.out⟩
 ·rw [if_neg hd]
  have hd2:le ≤ h / 2:=by omega
  rcases (show le = 1 ∨ 1 < le by omega) with rfl | hm
  all_goals
   go_enter Tryz.func44,Tryz.ntmps44
   go_wp2_with (fail)
   go_ret2
   exact ⟨rfl,HW.out⟩
theorem grow_ok (o fi le mo wi h:Int) (w:World) (h0:0 ≤ h) (h1:h < 4294967296) (hm:-4294967296 ≤ mo∧mo ≤ 4294967296) :
  Calls Tryz.prog 46 #[.agg #[.int .i64 o,.int .i64 fi,.int .i64 le,.int .i64 mo,.int .i64 wi],.int .i64 h] w fun e w'=>e = .returned (.int .i64 (min (2 * h) mo))∧Below w.heap.size w w':=by
 have hE:Below w.heap.size w (w.alloc (.cells #[.int .i64 o,.int .i64 fi,.int .i64 le,.int .i64 mo,.int .i64 wi] 25)):=allocs_below [.cells #[.int .i64 o,.int .i64 fi,.int .i64 le,.int .i64 mo,.int .i64 wi] 25] w
 have HC:=Lib.hid (show Blk (w.alloc (.cells #[.int .i64 o,.int .i64 fi,.int .i64 le,.int .i64 mo,.int .i64 wi] 25)) (w.heap.size) (.cells #[.int .i64 o,.int .i64 fi,.int .i64 le,.int .i64 mo,.int .i64 wi] 25) from allocs_at [.cells #[.int .i64 o,.int .i64 fi,.int .i64 le,.int .i64 mo,.int .i64 wi] 25] w 0 _ rfl)
 have HW:=Lib.hid hE
 have c3:=heapN_cellj HC.out (k:=3) rfl
 clear hE
 rcases (show 2 * h < mo ∨ 2 * h = mo ∨ mo < 2 * h by omega) with hd | hd | hd
 ·rw [show min (2 * h) mo = 2 * h by omega]
  go_enter Tryz.func46,Tryz.ntmps46
  go_wp2_with (fail)
  go_ret
  exact ⟨rfl,HW.out⟩
 ·subst hd
  rw [show min (2 * h) (2 * h) = 2 * h by omega]
  go_enter Tryz.func46,Tryz.ntmps46
  go_wp2_with (fail)
  go_ret
  exact ⟨rfl,HW.out⟩
 ·rw [show min (2 * h) mo = mo by omega]
  go_enter Tryz.func46,Tryz.ntmps46
  go_wp2_with (fail)
  go_ret
  exact ⟨rfl,HW.out⟩
theorem initial_ok (o fi le mo wi h:Int) (w:World) (h0:-4294967296 ≤ h) (h1:h < 4294967296) (hm:-4294967296 ≤ fi∧fi ≤ 4294967296) :
  Calls Tryz.prog 47 #[.agg #[.int .i64 o,.int .i64 fi,.int .i64 le,.int .i64 mo,.int .i64 wi],.int .i64 h] w fun e w'=>e = .returned (.int .i64 (min fi h))∧Below w.heap.size w w':=by
 have hE:Below w.heap.size w (w.alloc (.cells #[.int .i64 o,.int .i64 fi,.int .i64 le,.int .i64 mo,.int .i64 wi] 25)):=allocs_below [.cells #[.int .i64 o,.int .i64 fi,.int .i64 le,.int .i64 mo,.int .i64 wi] 25] w
 have HC:=Lib.hid (show Blk (w.alloc (.cells #[.int .i64 o,.int .i64 fi,.int .i64 le,.int .i64 mo,.int .i64 wi] 25)) (w.heap.size) (.cells #[.int .i64 o,.int .i64 fi,.int .i64 le,.int .i64 mo,.int .i64 wi] 25) from allocs_at [.cells #[.int .i64 o,.int .i64 fi,.int .i64 le,.int .i64 mo,.int .i64 wi] 25] w 0 _ rfl)
 have HW:=Lib.hid hE
 have c1:=heapN_cellj HC.out (k:=1) rfl
 clear hE
 rcases (show fi < h ∨ fi = h ∨ h < fi by omega) with hd | hd | hd
 ·rw [show min (fi) h = fi by omega]
  go_enter Tryz.func47,Tryz.ntmps47
  go_wp2_with (fail)
  go_ret
  exact ⟨rfl,HW.out⟩
 ·subst hd
  rw [show min fi fi = fi by omega]
  go_enter Tryz.func47,Tryz.ntmps47
  go_wp2_with (fail)
  go_ret
  exact ⟨rfl,HW.out⟩
 ·rw [show min (fi) h = h by omega]
  go_enter Tryz.func47,Tryz.ntmps47
  go_wp2_with (fail)
  go_ret
  exact ⟨rfl,HW.out⟩
set_option maxHeartbeats 4000000 in
theorem acc1_ok (o fi le mo wi a b:Int) (cb:Nat) (w:World) (hv:VI a b) (hC:Blk w cb (.cells #[.int .i64 o,.int .i64 fi,.int .i64 le,.int .i64 mo,.int .i64 wi] 25)) (r:Bool) (hr:wdB wi (a,b) = r) :
  Calls Tryz.prog 85 #[.agg #[.int .i64 a,.int .i64 b],.pointer (some ⟨cb,0,none⟩)] w fun e w'=>e = .returned (.bool r)∧Below w.heap.size w w':=by
 have hb:-2147483648 ≤ a∧a ≤ 2147483648∧-2147483648 ≤ b∧b ≤ 2147483648:=by
  rcases hv with ⟨rfl,rfl⟩ | ⟨⟨h1,h2⟩,⟨h3,h4⟩,_⟩ <;> omega
 have KW:=Lib.hid (fun w=>iv_width a b w hb)
 unfold wdB at hr
 obtain ⟨d,hd⟩:∃ d,b - a = d:=⟨_,rfl⟩
 dsimp only at hr
 rw [hd] at KW hr
 clear hv hb hd
 have hE:Below w.heap.size w (w.alloc (.cells #[.int .i64 a,.int .i64 b] 66)):=allocs_below [.cells #[.int .i64 a,.int .i64 b] 66] w
 have HA:=Lib.hid (show Blk (w.alloc (.cells #[.int .i64 a,.int .i64 b] 66)) (w.heap.size) (.cells #[.int .i64 a,.int .i64 b] 66) from allocs_at [.cells #[.int .i64 a,.int .i64 b] 66] w 0 _ rfl)
 have HW:=Lib.hid hE
 have HC0:=Lib.hid (hC.grow hE)
 clear hE hC
 go_enter Tryz.func85,Tryz.ntmps85
 go_wp2_with (fail)
 generalize hW0:World.alloc w _ = W0 at *
 clear hW0
 have a0:=fun g:Grown W0=>heapN_cellj (HA.out.grow g.h) (k:=0) rfl
 have a1:=fun g:Grown W0=>heapN_cellj (HA.out.grow g.h) (k:=1) rfl
 have c0:=fun g:Grown W0=>heapN_cellj (HC0.out.grow g.h) (k:=0) rfl
 have c1:=fun g:Grown W0=>heapN_cellj (HC0.out.grow g.h) (k:=1) rfl
 have c2:=fun g:Grown W0=>heapN_cellj (HC0.out.grow g.h) (k:=2) rfl
 have c3:=fun g:Grown W0=>heapN_cellj (HC0.out.grow g.h) (k:=3) rfl
 have c4:=fun g:Grown W0=>heapN_cellj (HC0.out.grow g.h) (k:=4) rfl
 have hgr:decide (wi < d) = r:=hr
 refine region_pred (lk [(4,fun z_ _=>z_ = .agg #[.int .i64 a,.int .i64 b]),(5,fun z_ _=>z_ = .int .i64 d),(6,fun z_ _=>z_ = .pointer (some ⟨cb,4,none⟩)),(7,fun z_ _=>z_ = .int .i64 wi),(8,fun z_ _=>z_ = .bool r),(3,fun z_ _=>z_ = .bool r)]) (by kernel_rfl) (by kernel_rfl) (lk_steady _ ⟨steady_eq _,steady_eq _,steady_eq _,steady_eq _,steady_eq _,steady_eq _,trivial⟩) ?_ ?_
 ·refine ⟨?_,?_,?_,?_,?_,?_,trivial⟩
  ·refine ob_plain [2] rfl rfl fun aa g h=>?_
   have yy0:=seen_out (v:=.pointer (some ⟨w.heap.size,0,none⟩)) rfl rfl h.1
   exact tvS (by simp [go_sem,yy0,a0 g,a1 g]) rfl
  ·refine ob_plain [4] rfl rfl fun aa g h=>?_
   obtain ⟨_,yy0,rfl⟩:=seen_in rfl h.1
   refine tupon_enter (f:=86) (args:=#[.agg #[.int .i64 a,.int .i64 b]]) (by simp [go_sem,yy0]) rfl ?_
   exact (KW.out g.w).mono fun e w' ⟨he,hB⟩=>⟨_,he,hB,rfl⟩
  ·refine ob_plain [1] rfl rfl fun aa g h=>?_
   have yy0:=seen_out (v:=.pointer (some ⟨cb,0,none⟩)) rfl rfl h.1
   exact tvS (by simp [go_sem,yy0]) rfl
  ·refine ob_plain [6] rfl rfl fun aa g h=>?_
   obtain ⟨_,yy0,rfl⟩:=seen_in rfl h.1
   exact tvS (by simp [go_sem,yy0,c4 g]) rfl
  ·refine ob_plain [5,7] rfl rfl fun aa g h=>?_
   obtain ⟨_,yy0,rfl⟩:=seen_in rfl h.1
   obtain ⟨_,yy1,rfl⟩:=seen_in rfl h.2.1
   exact tvS (by simp [go_sem,yy0,yy1,hgr]) rfl
  ·refine ob_plain [8] rfl rfl fun aa g h=>?_
   obtain ⟨_,yy0,rfl⟩:=seen_in rfl h.1
   exact tvS (by simp [go_sem,yy0]) rfl
 rintro w5 hB _ rfl _ rfl _ rfl _ rfl _ rfl _ rfl
 simp only [Act.put,List.setIfInBounds_toArray,List.set_cons_succ,List.set_cons_zero,List.filterMap_nil,finP]
 have HB9:=Lib.hid (below_then HW.out hB)
 clear hB a0 a1 c0 c1 c2 c3 c4
 go_wp2_with (fail)
 go_ret
 exact ⟨rfl,HB9.out⟩
set_option maxHeartbeats 4000000 in
theorem ixw_ok (v:Value) (l:List (Int × Int)) (o fi le mo wi:Int) (cb:Nat) (w:World) (hv:Vx w v l) (hvi:AV l) (hC:Blk w cb (.cells #[.int .i64 o,.int .i64 fi,.int .i64 le,.int .i64 mo,.int .i64 wi] 25)) :
  Calls Tryz.prog 113 #[v,.func (.func 85) #[] #[.pointer (some ⟨cb,0,none⟩)]] w fun e w'=>∃ r:Int,e = .returned (.int .i64 r)∧decide (0 ≤ r) = l.any (wdB wi)∧Below w.heap.size w w':=by
 have hl:=hv.1
 unfold maxLen at hl
 obtain ⟨p,c,rfl⟩:=hv.cut
 have HV:=Lib.hid hv
 have HVI:=Lib.hid hvi
 have HC:=Lib.hid hC
 clear hv hvi hC
 go_enter Tryz.func113,Tryz.ntmps113
 go_wp2_with (fail)
 go_loopw [8] (fun i wr=>∃ k:Nat,i = .int .i64 k∧k ≤ l.length∧Hid ((l.take k).any (wdB wi) = false)∧∃ g:Grown w,wr = g.w) (fun i _=>l.length - (intOf i).toNat)
 case atStart=>exact ⟨0,rfl,Nat.zero_le _,Lib.hid rfl,⟨w,Below.refl _ _⟩,rfl⟩
 case round =>
  obtain ⟨k,rfl,hk,HN,g0,rfl⟩:=hrel
  by_cases hlt:k < l.length
  ·have i1:(k:Int) < l.length:=by omega
   obtain ⟨x,y,hx⟩:∃ x y,l[k]? = some (x,y):=⟨l[k].1,l[k].2,List.getElem?_eq_getElem hlt⟩
   obtain ⟨b,o,hp,hb,rd⟩:=vx_rd HV.out hx
   subst hp
   have fA:=(rd g0).1
   have fB:=(rd g0).2
   have HX:=Lib.hid hx
   have hvx:=HVI.out _ (List.mem_of_getElem? hx)
   clear rd hx
   cases hbo:wdB wi (x,y) with
   | true =>
    have HCC:=Lib.hid (acc1_ok _ _ _ _ wi x y cb g0.w hvx (HC.out.grow g0.h) true hbo)
    have HA:Hid (l.any (wdB wi) = true):=Lib.hid (anyW_yes HX.out hbo)
    clear hbo hvx
    go_wp2_with (fail)
    refine HCC.out.mono ?_
    rintro e w5 ⟨rfl,hB5⟩
    go_wp2_with (fail)
    go_ret
    exact ⟨_,rfl,by rw [HA.out]; exact decide_eq_true (by omega),below_then g0.h hB5⟩
   | false =>
    have HCC:=Lib.hid (acc1_ok _ _ _ _ wi x y cb g0.w hvx (HC.out.grow g0.h) false hbo)
    have HA:Hid ((l.take (k+1)).any (wdB wi) = false):=Lib.hid (anyW_no HN.out HX.out hbo)
    clear hbo hvx
    go_wp2_with (fail)
    refine HCC.out.mono ?_
    rintro e w5 ⟨rfl,hB5⟩
    go_wp2_with (fail)
    go_roundw
    case rel=>exact ⟨k+1,by go_num,by omega,HA,⟨w5,below_then g0.h hB5⟩,rfl⟩
    case measure=>simp [intOf]; omega
  ·obtain rfl:k = l.length:=by omega
   have hn:=HN.out
   rw [List.take_of_length_le (Nat.le_refl _)] at hn
   have HA:=Lib.hid hn
   clear hn
   go_wp2_with (fail)
   go_ret
   exact ⟨_,rfl,by rw [HA.out]; rfl,g0.h⟩
theorem cnw_ok (v:Value) (l:List (Int × Int)) (o fi le mo wi:Int) (cb:Nat) (w:World) (hv:Vx w v l) (hvi:AV l) (hC:Blk w cb (.cells #[.int .i64 o,.int .i64 fi,.int .i64 le,.int .i64 mo,.int .i64 wi] 25)) :
  Calls Tryz.prog 87 #[v,.func (.func 85) #[] #[.pointer (some ⟨cb,0,none⟩)]] w fun e w'=>e = .returned (.bool (l.any (wdB wi)))∧Below w.heap.size w w':=by
 have HC:=Lib.hid (ixw_ok v l o fi le mo wi cb w hv hvi hC)
 clear hv hvi hC
 go_enter Tryz.func87,Tryz.ntmps87
 go_wp2_with (fail)
 refine HC.out.mono ?_
 rintro e w5 ⟨r,rfl,hr,hB⟩
 have HR:=Lib.hid hr
 have HB:=Lib.hid hB
 clear hr hB
 go_wp2_with (fail)
 go_ret
 exact ⟨by rw [← HR.out]; rfl,HB.out⟩
set_option maxHeartbeats 8000000 in
theorem accept_ok (o fi le mo wi T H:Int) (vf vp vt ve:Value) (V E:List (Int × Int)) (w:World) (ht:Vx w vt V) (he:Vx w ve E) (hvt:AV V) (hve:AV E) :
  Calls Tryz.prog 48 #[.agg #[.int .i64 o,.int .i64 fi,.int .i64 le,.int .i64 mo,.int .i64 wi],.agg #[.int .i64 T,.int .i64 H,vf,vp,vt,ve]] w fun e w'=>e = .returned (.bool (accB wi E V))∧Below w.heap.size w w':=by
 obtain ⟨pt,ct,rfl⟩:=ht.cut
 obtain ⟨pe,ce,rfl⟩:=he.cut
 obtain ⟨b1,hb1⟩:∃ b,E.any (wdB wi) = b:=⟨_,rfl⟩
 obtain ⟨b2,hb2⟩:∃ b,V.any (wdB wi) = b:=⟨_,rfl⟩
 obtain ⟨r,hr⟩:∃ r,accB wi E V = r:=⟨_,rfl⟩
 have hrr:(!b1 && !b2) = r:=by rw [← hr,← hb1,← hb2]; rfl
 rw [hr]
 have KC1:=Lib.hid (fun w' a c=>cnw_ok (.slice pe E.length ce) E o fi le mo wi w.heap.size w' a hve c)
 have KC2:=Lib.hid (fun w' a c=>cnw_ok (.slice pt V.length ct) V o fi le mo wi w.heap.size w' a hvt c)
 rw [hb1] at KC1
 rw [hb2] at KC2
 have hE:Below w.heap.size w ((w.alloc (.cells #[.int .i64 o,.int .i64 fi,.int .i64 le,.int .i64 mo,.int .i64 wi] 25)).alloc (.cells #[.int .i64 T,.int .i64 H,vf,vp,.slice pt V.length ct,.slice pe E.length ce] 39)):=allocs_below [.cells #[.int .i64 o,.int .i64 fi,.int .i64 le,.int .i64 mo,.int .i64 wi] 25,.cells #[.int .i64 T,.int .i64 H,vf,vp,.slice pt V.length ct,.slice pe E.length ce] 39] w
 have HC:=Lib.hid (show Blk ((w.alloc (.cells #[.int .i64 o,.int .i64 fi,.int .i64 le,.int .i64 mo,.int .i64 wi] 25)).alloc (.cells #[.int .i64 T,.int .i64 H,vf,vp,.slice pt V.length ct,.slice pe E.length ce] 39)) (w.heap.size) (.cells #[.int .i64 o,.int .i64 fi,.int .i64 le,.int .i64 mo,.int .i64 wi] 25) from allocs_at [.cells #[.int .i64 o,.int .i64 fi,.int .i64 le,.int .i64 mo,.int .i64 wi] 25,.cells #[.int .i64 T,.int .i64 H,vf,vp,.slice pt V.length ct,.slice pe E.length ce] 39] w 0 _ rfl)
 have HS:=Lib.hid (show Blk ((w.alloc (.cells #[.int .i64 o,.int .i64 fi,.int .i64 le,.int .i64 mo,.int .i64 wi] 25)).alloc (.cells #[.int .i64 T,.int .i64 H,vf,vp,.slice pt V.length ct,.slice pe E.length ce] 39)) (w.heap.size+1) (.cells #[.int .i64 T,.int .i64 H,vf,vp,.slice pt V.length ct,.slice pe E.length ce] 39) from allocs_at [.cells #[.int .i64 o,.int .i64 fi,.int .i64 le,.int .i64 mo,.int .i64 wi] 25,.cells #[.int .i64 T,.int .i64 H,vf,vp,.slice pt V.length ct,.slice pe E.length ce] 39] w 1 _ rfl)
 have HW:=Lib.hid hE
 have HT:=Lib.hid (ht.grow hE)
 have HE:=Lib.hid (he.grow hE)
 have HRR:=Lib.hid hrr
 have s5:=heapN_cellj HS.out (k:=5) rfl
 clear hE ht he hvt hve hb1 hb2 hr hrr
 go_enter Tryz.func48,Tryz.ntmps48
 go_wp2_with (fail)
 refine (KC1.out _ HE.out HC.out).mono ?_
 rintro e w5 ⟨rfl,hB5⟩
 have s4:=heapN_cellj (HS.out.grow hB5) (k:=4) rfl
 have HT5:=Lib.hid (HT.out.grow hB5)
 have HC5:=Lib.hid (HC.out.grow hB5)
 have HB5:=Lib.hid (below_then HW.out hB5)
 clear hB5 s5 KC1
 cases b1 with
 | true =>
  obtain rfl:false = r:=HRR.out
  clear HRR
  go_wp2_with (fail)
  go_ret
  exact ⟨rfl,HB5.out⟩
 | false =>
  go_wp2_with (fail)
  refine (KC2.out _ HT5.out HC5.out).mono ?_
  rintro e w6 ⟨rfl,hB6⟩
  have HB6:=Lib.hid (below_then HB5.out hB6)
  clear hB6 s4 KC2
  go_wp2_with (fail)
  go_ret
  exact ⟨by rw [← HRR.out]; rfl,HB6.out⟩
end Go.Proofs.YtdfdpghdjlgghaaGreat
namespace Go.Proofs.YtdfdpghdjlgghaaGreat
open Go.ChangeShapes Go.WideShapes Go.ChangeAt Go.RowKit
set_option linter.unusedVariables false
set_option linter.unusedSimpArgs false
set_option maxRecDepth 100000
attribute [local irreducible] Calls
def vldC (o fi le mo wi:Int):Bool:=decide (1 ≤ o∧o < 8∧1 ≤ le∧le ≤ fi∧fi ≤ mo∧mo < 2147483648∧1 ≤ wi∧wi < 2147483648)
set_option maxHeartbeats 32000000 in
theorem cvalid_ok (o fi le mo wi:Int) (w:World):Calls Tryz.prog 45 #[.agg #[.int .i64 o,.int .i64 fi,.int .i64 le,.int .i64 mo,.int .i64 wi]] w fun e w'=>e = .returned (.bool (vldC o fi le mo wi))∧Below w.heap.size w w':=by
 have hE:Below w.heap.size w (w.alloc (.cells #[.int .i64 o,.int .i64 fi,.int .i64 le,.int .i64 mo,.int .i64 wi] 25)):=allocs_below [.cells #[.int .i64 o,.int .i64 fi,.int .i64 le,.int .i64 mo,.int .i64 wi] 25] w
 have HC:=Lib.hid (show Blk (w.alloc (.cells #[.int .i64 o,.int .i64 fi,.int .i64 le,.int .i64 mo,.int .i64 wi] 25)) (w.heap.size) (.cells #[.int .i64 o,.int .i64 fi,.int .i64 le,.int .i64 mo,.int .i64 wi] 25) from allocs_at [.cells #[.int .i64 o,.int .i64 fi,.int .i64 le,.int .i64 mo,.int .i64 wi] 25] w 0 _ rfl)
 have HW:=Lib.hid hE
 have c0:=heapN_cellj HC.out (k:=0) rfl
 have c1:=heapN_cellj HC.out (k:=1) rfl
 have c2:=heapN_cellj HC.out (k:=2) rfl
 have c3:=heapN_cellj HC.out (k:=3) rfl
 have c4:=heapN_cellj HC.out (k:=4) rfl
 clear hE
 obtain ⟨r,hr⟩:∃ r,vldC o fi le mo wi = r:=⟨_,rfl⟩
 rw [hr]
 have HR:=Lib.hid hr
 clear hr
 by_cases hP:1 ≤ o∧o < 8∧1 ≤ le∧le ≤ fi∧fi ≤ mo∧mo < 2147483648∧1 ≤ wi∧wi < 2147483648
 ·have hr:r = true:=HR.out.symm.trans (decide_eq_true hP)
  subst hr
  obtain ⟨o1,o2,s1,s2,s3,s4,t1,t2⟩:=hP
  go_enter Tryz.func45,Tryz.ntmps45
  go_wp2_with (fail)
  go_ret
  exact ⟨rfl,HW.out⟩
 ·have hr:r = false:=HR.out.symm.trans (decide_eq_false hP)
  subst hr
  rcases (show (1 ≤ o∧o < 8) ∨ (1 ≤ o∧8 ≤ o) ∨ o < 1 by omega) with ⟨o1,o2⟩ | ⟨o1,o2⟩ | o1
  all_goals rcases (show (1 ≤ le∧le ≤ fi∧fi ≤ mo∧mo < 2147483648) ∨ (1 ≤ le∧le ≤ fi∧fi ≤ mo∧2147483648 ≤ mo) ∨ (1 ≤ le∧le ≤ fi∧mo < fi) ∨ (1 ≤ le∧fi < le) ∨ le < 1 by omega) with ⟨s1,s2,s3,s4⟩ | ⟨s1,s2,s3,s4⟩ | ⟨s1,s2,s3⟩ | ⟨s1,s2⟩ | s1
  all_goals rcases (show (1 ≤ wi∧wi < 2147483648) ∨ (1 ≤ wi∧2147483648 ≤ wi) ∨ wi < 1 by omega) with ⟨t1,t2⟩ | ⟨t1,t2⟩ | t1
  ·exact absurd ⟨o1,o2,s1,s2,s3,s4,t1,t2⟩ hP
  all_goals
   clear hP
   go_enter Tryz.func45,Tryz.ntmps45
   go_wp2_with (fail)
   go_ret
   exact ⟨by first | rfl | (show Ending.returned (.bool (decide (wi < 2147483648))) = _; rw [decide_eq_false (by omega)]),HW.out⟩
end Go.Proofs.YtdfdpghdjlgghaaGreat
namespace Go.Proofs.YtdfdpghdjlgghaaGreat
open Go.ChangeShapes Go.WideShapes Go.ChangeAt Go.RowKit
set_option linter.unusedVariables false
set_option linter.unusedSimpArgs false
set_option maxRecDepth 100000
attribute [local irreducible] Calls
theorem isnum_yes (x:Int) (w:World) (h:Num x):Calls Tryz.prog 59 #[.int .i64 x] w fun e w'=>e = .returned (.bool true)∧Below w.heap.size w w':=by
 have:=isnum_ok x w
 rwa [decide_eq_true h.1,decide_eq_true h.2] at this
theorem isnum_no (x:Int) (w:World) (h:¬ Num x):Calls Tryz.prog 59 #[.int .i64 x] w fun e w'=>e = .returned (.bool false)∧Below w.heap.size w w':=by
 have:=isnum_ok x w
 rwa [show (decide (-2147483648 < x) && decide (x < 2147483648)) = false from by
  rw [Bool.eq_false_iff]
  intro hh
  simp at hh
  exact h hh] at this
set_option maxHeartbeats 8000000 in
theorem int_err (N o fi le mo wi T La:Int) (vl vo vx:Value) (w:World) (h:vldC o fi le mo wi = false ∨ ¬ Num T ∨ ¬ Num La ∨ La ≤ T) :
  Calls Tryz.prog 19 #[.agg #[.int .i64 N,vl,vo],vx,.agg #[.int .i64 o,.int .i64 fi,.int .i64 le,.int .i64 mo,.int .i64 wi,.int .i64 T,.int .i64 La]] w fun e w'=>e = .returned (.tuple #[.slice none 0 0,.int .i64 1])∧Below w.heap.size w w':=by
 have KV:=Lib.hid (fun w=>cvalid_ok o fi le mo wi w)
 have hE:Below w.heap.size w ((w.alloc (.cells #[.int .i64 N,vl,vo] 35)).alloc (.cells #[.int .i64 o,.int .i64 fi,.int .i64 le,.int .i64 mo,.int .i64 wi,.int .i64 T,.int .i64 La] 49)):=allocs_below [.cells #[.int .i64 N,vl,vo] 35,.cells #[.int .i64 o,.int .i64 fi,.int .i64 le,.int .i64 mo,.int .i64 wi,.int .i64 T,.int .i64 La] 49] w
 have HA:=Lib.hid (show Blk ((w.alloc (.cells #[.int .i64 N,vl,vo] 35)).alloc (.cells #[.int .i64 o,.int .i64 fi,.int .i64 le,.int .i64 mo,.int .i64 wi,.int .i64 T,.int .i64 La] 49)) (w.heap.size+1) (.cells #[.int .i64 o,.int .i64 fi,.int .i64 le,.int .i64 mo,.int .i64 wi,.int .i64 T,.int .i64 La] 49) from allocs_at [.cells #[.int .i64 N,vl,vo] 35,.cells #[.int .i64 o,.int .i64 fi,.int .i64 le,.int .i64 mo,.int .i64 wi,.int .i64 T,.int .i64 La] 49] w 1 _ rfl)
 have HW:=Lib.hid hE
 clear hE
 have c0:=heapN_cellj HA.out (k:=0) rfl
 have c1:=heapN_cellj HA.out (k:=1) rfl
 have c2:=heapN_cellj HA.out (k:=2) rfl
 have c3:=heapN_cellj HA.out (k:=3) rfl
 have c4:=heapN_cellj HA.out (k:=4) rfl
 have c5:=heapN_cellj HA.out (k:=5) rfl
 have c6:=heapN_cellj HA.out (k:=6) rfl
 cases hv:vldC o fi le mo wi with
 | false =>
  rw [hv] at KV
  clear hv h
  go_enter Tryz.func19,Tryz.ntmps19
  go_wp2_with (fail)
  refine (KV.out _).mono ?_
  rintro e w5 ⟨rfl,hB⟩
  have HA:=Lib.hid (HA.out.grow hB)
  have HW:=Lib.hid (below_then HW.out hB)
  clear hB c0 c1 c2 c3 c4 c5 c6
  have c5:=heapN_cellj HA.out (k:=5) rfl
  have c6:=heapN_cellj HA.out (k:=6) rfl
  have c0:=trivial
  have c1:=trivial
  have c2:=trivial
  have c3:=trivial
  have c4:=trivial
  go_wp2_with (fail)
  go_ret2
  exact ⟨rfl,HW.out⟩
 | true =>
  rw [hv] at KV
  have h:¬ Num T ∨ ¬ Num La ∨ La ≤ T:=by
   rcases h with h | h
   ·rw [hv] at h
    cases h
   ·exact h
  clear hv
  by_cases h1:Num T
  ·by_cases h2:Num La
   ·have h3:La ≤ T:=by
     rcases h with h | h | h
     ·exact absurd h1 h
     ·exact absurd h2 h
     ·exact h
    have K1:=Lib.hid (fun w=>isnum_yes T w h1)
    have K2:=Lib.hid (fun w=>isnum_yes La w h2)
    clear h h1 h2
    go_enter Tryz.func19,Tryz.ntmps19
    go_wp2_with (fail)
    refine (KV.out _).mono ?_
    rintro e w5 ⟨rfl,hB⟩
    have HA:=Lib.hid (HA.out.grow hB)
    have HW:=Lib.hid (below_then HW.out hB)
    clear hB c0 c1 c2 c3 c4 c5 c6
    have c5:=heapN_cellj HA.out (k:=5) rfl
    have c6:=heapN_cellj HA.out (k:=6) rfl
    have c0:=trivial
    have c1:=trivial
    have c2:=trivial
    have c3:=trivial
    have c4:=trivial
    go_wp2_with (fail)
    refine (K1.out _).mono ?_
    rintro e w6 ⟨rfl,hB⟩
    have HA:=Lib.hid (HA.out.grow hB)
    have HW:=Lib.hid (below_then HW.out hB)
    clear hB c0 c1 c2 c3 c4 c5 c6
    have c5:=heapN_cellj HA.out (k:=5) rfl
    have c6:=heapN_cellj HA.out (k:=6) rfl
    have c0:=trivial
    have c1:=trivial
    have c2:=trivial
    have c3:=trivial
    have c4:=trivial
    go_wp2_with (fail)
    refine (K2.out _).mono ?_
    rintro e w7 ⟨rfl,hB⟩
    have HA:=Lib.hid (HA.out.grow hB)
    have HW:=Lib.hid (below_then HW.out hB)
    clear hB c0 c1 c2 c3 c4 c5 c6
    have c5:=heapN_cellj HA.out (k:=5) rfl
    have c6:=heapN_cellj HA.out (k:=6) rfl
    have c0:=trivial
    have c1:=trivial
    have c2:=trivial
    have c3:=trivial
    have c4:=trivial
    go_wp2_with (fail)
    go_ret2
    exact ⟨rfl,HW.out⟩
   ·have K1:=Lib.hid (fun w=>isnum_yes T w h1)
    have K2:=Lib.hid (fun w=>isnum_no La w h2)
    clear h h1 h2
    go_enter Tryz.func19,Tryz.ntmps19
    go_wp2_with (fail)
    refine (KV.out _).mono ?_
    rintro e w5 ⟨rfl,hB⟩
    have HA:=Lib.hid (HA.out.grow hB)
    have HW:=Lib.hid (below_then HW.out hB)
    clear hB c0 c1 c2 c3 c4 c5 c6
    have c5:=heapN_cellj HA.out (k:=5) rfl
    have c6:=heapN_cellj HA.out (k:=6) rfl
    have c0:=trivial
    have c1:=trivial
    have c2:=trivial
    have c3:=trivial
    have c4:=trivial
    go_wp2_with (fail)
    refine (K1.out _).mono ?_
    rintro e w6 ⟨rfl,hB⟩
    have HA:=Lib.hid (HA.out.grow hB)
    have HW:=Lib.hid (below_then HW.out hB)
    clear hB c0 c1 c2 c3 c4 c5 c6
    have c5:=heapN_cellj HA.out (k:=5) rfl
    have c6:=heapN_cellj HA.out (k:=6) rfl
    have c0:=trivial
    have c1:=trivial
    have c2:=trivial
    have c3:=trivial
    have c4:=trivial
    go_wp2_with (fail)
    refine (K2.out _).mono ?_
    rintro e w7 ⟨rfl,hB⟩
    have HA:=Lib.hid (HA.out.grow hB)
    have HW:=Lib.hid (below_then HW.out hB)
    clear hB c0 c1 c2 c3 c4 c5 c6
    have c5:=heapN_cellj HA.out (k:=5) rfl
    have c6:=heapN_cellj HA.out (k:=6) rfl
    have c0:=trivial
    have c1:=trivial
    have c2:=trivial
    have c3:=trivial
    have c4:=trivial
    go_wp2_with (fail)
    go_ret2
    exact ⟨rfl,HW.out⟩
  ·have K1:=Lib.hid (fun w=>isnum_no T w h1)
   clear h h1
   go_enter Tryz.func19,Tryz.ntmps19
   go_wp2_with (fail)
   refine (KV.out _).mono ?_
   rintro e w5 ⟨rfl,hB⟩
   have HA:=Lib.hid (HA.out.grow hB)
   have HW:=Lib.hid (below_then HW.out hB)
   clear hB c0 c1 c2 c3 c4 c5 c6
   have c5:=heapN_cellj HA.out (k:=5) rfl
   have c6:=heapN_cellj HA.out (k:=6) rfl
   have c0:=trivial
   have c1:=trivial
   have c2:=trivial
   have c3:=trivial
   have c4:=trivial
   go_wp2_with (fail)
   refine (K1.out _).mono ?_
   rintro e w6 ⟨rfl,hB⟩
   have HA:=Lib.hid (HA.out.grow hB)
   have HW:=Lib.hid (below_then HW.out hB)
   clear hB c0 c1 c2 c3 c4 c5 c6
   have c5:=heapN_cellj HA.out (k:=5) rfl
   have c6:=heapN_cellj HA.out (k:=6) rfl
   have c0:=trivial
   have c1:=trivial
   have c2:=trivial
   have c3:=trivial
   have c4:=trivial
   go_wp2_with (fail)
   go_ret2
   exact ⟨rfl,HW.out⟩
end Go.Proofs.YtdfdpghdjlgghaaGreat
namespace Go.Proofs.YtdfdpghdjlgghaaGreat
open Go.Extern.Stop Go.Stop Go.Extern Go.ChangeShapes Go.WideShapes Go.ChangeAt Go.RowKit
set_option linter.unusedVariables false
set_option linter.unusedSimpArgs false
set_option maxRecDepth 100000
attribute [local irreducible] Calls
theorem isTypeOf14 (v:Value) (w:World):(Extern.ReflectliteType.typeOf #[.iface 40 v]).run Tryz.prog w = .ok (.iface 182 (.agg #[.pointer (some ⟨0,40,none⟩)])) w:=by kernel_rfl
theorem isComparable14 (w : World) : ((Extern.ReflectliteType.method fun t => do Extern.Rtype.noPackHeld "Comparable" t; (fun a => Value.bool a.comparable) <$> typeInfo t) #[.agg #[.pointer (some ⟨0, 40, none⟩)]]).run Tryz.prog w = .ok (.bool true) w := by kernel_rfl
theorem isMethod14 (v : Value) (w : World) : (Go.method 297 182 v "Comparable").run Tryz.prog w = .ok (259, v) w := by kernel_rfl
theorem isComp14:(Tryz.prog.info? 40).map (·.comparable) = some true:=by kernel_rfl
theorem noIs14 (v:Value) (xT:TypeId) (w:World):(Instr.typeAssert (.iface 40 v) xT 184 true).run Tryz.prog w = .ok (.tuple #[.nilIface,.bool false]) w:=run_typeAssert_lacksB Tryz.underlying184 (by kernel_rfl) (by kernel_rfl) v xT w
theorem noUnwrap14 (v:Value) (xT:TypeId) (w:World):(Instr.typeAssert (.iface 40 v) xT 187 true).run Tryz.prog w = .ok (.tuple #[.nilIface,.bool false]) w:=run_typeAssert_lacksB Tryz.underlying187 (by kernel_rfl) (by kernel_rfl) v xT w
theorem noUnwraps14 (v:Value) (xT:TypeId) (w:World):(Instr.typeAssert (.iface 40 v) xT 189 true).run Tryz.prog w = .ok (.tuple #[.nilIface,.bool false]) w:=run_typeAssert_lacksB Tryz.underlying189 (by kernel_rfl) (by kernel_rfl) v xT w
set_option maxHeartbeats 4000000 in
theorem is14 (a b:Int) (w:World):Calls Tryz.prog 60 #[.iface 40 (.int .i64 a),.iface 40 (.int .i64 b)] w fun e w'=>e = .returned (.bool (a == b))∧w = w':=by
 have h8:=@run_callFunc_extern Tryz.prog 98 _ Extern.ReflectliteType.typeOf Tryz.func98 (by kernel_rfl) (by kernel_rfl) (by kernel_rfl) (by kernel_rfl)
 have h32 := @run_callFunc_extern Tryz.prog 259 _ (Extern.ReflectliteType.method fun t => do Extern.Rtype.noPackHeld "Comparable" t; pure (.bool (← typeInfo t).comparable)) Tryz.func259 (by kernel_rfl) (by kernel_rfl) (by kernel_rfl) (by kernel_rfl)
 have tT:=isTypeOf14
 have cT:=isComparable14
 have mR:=isMethod14
 have nE:=noIs14
 have uE:=noUnwrap14
 have vE:=noUnwraps14
 have heq:=Lib.run_eql_iface_int (P:=Tryz.prog) (k:=.i64) w a b Tryz.underlying152 isComp14 Tryz.underlying40
 cases hab:(a == b) with
 | true =>
  rw [hab] at heq
  go_enter Tryz.func60,Tryz.ntmps60
  go_wp2
  refine wp_loop_rounds 1 ?_
  rw [rounds_succ]
  go_wp2
  go_ret
  exact ⟨rfl,rfl⟩
 | false =>
  rw [hab] at heq
  go_enter Tryz.func60,Tryz.ntmps60
  go_wp2
  refine wp_loop_rounds 1 ?_
  rw [rounds_succ]
  go_wp2
  go_ret
  exact ⟨rfl,rfl⟩
end Go.Proofs.YtdfdpghdjlgghaaGreat
