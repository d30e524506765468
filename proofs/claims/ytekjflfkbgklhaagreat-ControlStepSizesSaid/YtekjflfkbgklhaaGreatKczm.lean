/-
 Ch
-/
import Derived.Test.YtekjflfkbgklhaaGreatKcze
import Derived.Test.YtekjflfkbgklhaaGreatKczl
namespace Go.Proofs.YtekjflfkbgklhaaGreat
open Go.ChangeShapes Go.WideShapes Go.ChangeAt Go.RowKit
set_option linter.unusedVariables false
set_option linter.unusedSimpArgs false
set_option maxRecDepth 100000
attribute [local irreducible] Calls
theorem shrink_ok (o fi le mo wi h:Int) (w:World) (h0:0 ≤ h) (h1:h < 4294967296) (hl:1 ≤ le) (hl2:le ≤ 4294967296) :
  Calls Tryz.prog 15 #[.agg #[.int .i64 o,.int .i64 fi,.int .i64 le,.int .i64 mo,.int .i64 wi],.int .i64 h] w fun e w'=>e = .returned (if h / 2 < le then .tuple #[.int .i64 0,.int .i64 130] else .tuple #[.int .i64 (h / 2),.int .i64 0])∧Below w.heap.size w w':=by
 have hE:Below w.heap.size w (w.alloc (.cells #[.int .i64 o,.int .i64 fi,.int .i64 le,.int .i64 mo,.int .i64 wi] 23)):=allocs_below [.cells #[.int .i64 o,.int .i64 fi,.int .i64 le,.int .i64 mo,.int .i64 wi] 23] w
 have HC:=Lib.hid (show Blk (w.alloc (.cells #[.int .i64 o,.int .i64 fi,.int .i64 le,.int .i64 mo,.int .i64 wi] 23)) (w.heap.size) (.cells #[.int .i64 o,.int .i64 fi,.int .i64 le,.int .i64 mo,.int .i64 wi] 23) from allocs_at [.cells #[.int .i64 o,.int .i64 fi,.int .i64 le,.int .i64 mo,.int .i64 wi] 23] w 0 _ rfl)
 have HW:=Lib.hid hE
 have c2:=heapN_cellj HC.out (k:=2) rfl
 clear hE
 by_cases hd:h / 2 < le
 ·rw [if_pos hd]
  rcases (show le = 1 ∨ 1 < le by omega) with rfl | hm
  all_goals
   go_enter Tryz.func15,Tryz.ntmps15
   go_wp2_with (fail)
   go_ret2
   exact ⟨rfl,HW.out⟩
 ·rw [if_neg hd]
  have hd2:le ≤ h / 2:=by omega
  rcases (show le = 1 ∨ 1 < le by omega) with rfl | hm
  all_goals
   go_enter Tryz.func15,Tryz.ntmps15
   go_wp2_with (fail)
   go_ret2
   exact ⟨rfl,HW.out⟩
theorem grow_ok (o fi le mo wi h:Int) (w:World) (h0:0 ≤ h) (h1:h < 4294967296) (hm:-4294967296 ≤ mo∧mo ≤ 4294967296) :
  Calls Tryz.prog 19 #[.agg #[.int .i64 o,.int .i64 fi,.int .i64 le,.int .i64 mo,.int .i64 wi],.int .i64 h] w fun e w'=>e = .returned (.int .i64 (min (2 * h) mo))∧Below w.heap.size w w':=by
 have hE:Below w.heap.size w (w.alloc (.cells #[.int .i64 o,.int .i64 fi,.int .i64 le,.int .i64 mo,.int .i64 wi] 23)):=allocs_below [.cells #[.int .i64 o,.int .i64 fi,.int .i64 le,.int .i64 mo,.int .i64 wi] 23] w
 have HC:=Lib.hid (show Blk (w.alloc (.cells #[.int .i64 o,.int .i64 fi,.int .i64 le,.int .i64 mo,.int .i64 wi] 23)) (w.heap.size) (.cells #[.int .i64 o,.int .i64 fi,.int .i64 le,.int .i64 mo,.int .i64 wi] 23) from allocs_at [.cells #[.int .i64 o,.int .i64 fi,.int .i64 le,.int .i64 mo,.int .i64 wi] 23] w 0 _ rfl)
 have HW:=Lib.hid hE
 have c3:=heapN_cellj HC.out (k:=3) rfl
 clear hE
 rcases (show 2 * h < mo ∨ 2 * h = mo ∨ mo < 2 * h by omega) with hd | hd | hd
 ·rw [show min (2 * h) mo = 2 * h by omega]
  go_enter Tryz.func19,Tryz.ntmps19
  go_wp2_with (fail)
  go_ret
  exact ⟨rfl,HW.out⟩
 ·subst hd
  rw [show min (2 * h) (2 * h) = 2 * h by omega]
  go_enter Tryz.func19,Tryz.ntmps19
  go_wp2_with (fail)
  go_ret
  exact ⟨rfl,HW.out⟩
 ·rw [show min (2 * h) mo = mo by omega]
  go_enter Tryz.func19,Tryz.ntmps19
  go_wp2_with (fail)
  go_ret
  exact ⟨rfl,HW.out⟩
theorem initial_ok (o fi le mo wi h:Int) (w:World) (h0:-4294967296 ≤ h) (h1:h < 4294967296) (hm:-4294967296 ≤ fi∧fi ≤ 4294967296) :
  Calls Tryz.prog 21 #[.agg #[.int .i64 o,.int .i64 fi,.int .i64 le,.int .i64 mo,.int .i64 wi],.int .i64 h] w fun e w'=>e = .returned (.int .i64 (min fi h))∧Below w.heap.size w w':=by
 have hE:Below w.heap.size w (w.alloc (.cells #[.int .i64 o,.int .i64 fi,.int .i64 le,.int .i64 mo,.int .i64 wi] 23)):=allocs_below [.cells #[.int .i64 o,.int .i64 fi,.int .i64 le,.int .i64 mo,.int .i64 wi] 23] w
 have HC:=Lib.hid (show Blk (w.alloc (.cells #[.int .i64 o,.int .i64 fi,.int .i64 le,.int .i64 mo,.int .i64 wi] 23)) (w.heap.size) (.cells #[.int .i64 o,.int .i64 fi,.int .i64 le,.int .i64 mo,.int .i64 wi] 23) from allocs_at [.cells #[.int .i64 o,.int .i64 fi,.int .i64 le,.int .i64 mo,.int .i64 wi] 23] w 0 _ rfl)
 have HW:=Lib.hid hE
 have c1:=heapN_cellj HC.out (k:=1) rfl
 clear hE
 rcases (show fi < h ∨ fi = h ∨ h < fi by omega) with hd | hd | hd
 ·rw [show min (fi) h = fi by omega]
  go_enter Tryz.func21,Tryz.ntmps21
  go_wp2_with (fail)
  go_ret
  exact ⟨rfl,HW.out⟩
 ·subst hd
  rw [show min fi fi = fi by omega]
  go_enter Tryz.func21,Tryz.ntmps21
  go_wp2_with (fail)
  go_ret
  exact ⟨rfl,HW.out⟩
 ·rw [show min (fi) h = h by omega]
  go_enter Tryz.func21,Tryz.ntmps21
  go_wp2_with (fail)
  go_ret
  exact ⟨rfl,HW.out⟩
set_option maxHeartbeats 4000000 in
theorem acc1_ok (o fi le mo wi a b:Int) (cb:Nat) (w:World) (hv:VI a b) (hC:Blk w cb (.cells #[.int .i64 o,.int .i64 fi,.int .i64 le,.int .i64 mo,.int .i64 wi] 23)) (r:Bool) (hr:wdB wi (a,b) = r) :
  Calls Tryz.prog 45 #[.agg #[.int .i64 a,.int .i64 b],.pointer (some ⟨cb,0,none⟩)] w fun e w'=>e = .returned (.bool r)∧Below w.heap.size w w':=by
 have hb:-2147483648 ≤ a∧a ≤ 2147483648∧-2147483648 ≤ b∧b ≤ 2147483648:=by
  rcases hv with ⟨rfl,rfl⟩ | ⟨⟨h1,h2⟩,⟨h3,h4⟩,_⟩ <;> omega
 have KW:=Lib.hid (fun w=>iv_width a b w hb)
 unfold wdB at hr
 obtain ⟨d,hd⟩:∃ d,b - a = d:=⟨_,rfl⟩
 dsimp only at hr
 rw [hd] at KW hr
 clear hv hb hd
 have hE:Below w.heap.size w (w.alloc (.cells #[.int .i64 a,.int .i64 b] 59)):=allocs_below [.cells #[.int .i64 a,.int .i64 b] 59] w
 have HA:=Lib.hid (show Blk (w.alloc (.cells #[.int .i64 a,.int .i64 b] 59)) (w.heap.size) (.cells #[.int .i64 a,.int .i64 b] 59) from allocs_at [.cells #[.int .i64 a,.int .i64 b] 59] w 0 _ rfl)
 have HW:=Lib.hid hE
 have HC0:=Lib.hid (hC.grow hE)
 clear hE hC
 go_enter Tryz.func45,Tryz.ntmps45
 go_wp2_with (fail)
 generalize hW0:World.alloc w _ = W0 at *
 clear hW0
 have a0:=fun g:Grown W0=>heapN_cellj (HA.out.grow g.h) (k:=0) rfl
 have a1:=fun g:Grown W0=>heapN_cellj (HA.out.grow g.h) (k:=1) rfl
 have c0:=fun g:Grown W0=>heapN_cellj (HC0.out.grow g.h) (k:=0) rfl
 have c1:=fun g:Grown W0=>heapN_cellj (HC0.out.grow g.h) (k:=1) rfl
 have c2:=fun g:Grown W0=>heapN_cellj (HC0.out.grow g.h) (k:=2) rfl
 have c3:=fun g:Grown W0=>heapN_cellj (HC0.out.grow g.h) (k:=3) rfl
 have c4:=fun g:Grown W0=>heapN_cellj (HC0.out.grow g.h) (k:=4) rfl
 have hgr:decide (wi < d) = r:=hr
 refine region_pred (lk [(4,fun z_ _=>z_ = .agg #[.int .i64 a,.int .i64 b]),(5,fun z_ _=>z_ = .int .i64 d),(6,fun z_ _=>z_ = .pointer (some ⟨cb,4,none⟩)),(7,fun z_ _=>z_ = .int .i64 wi),(8,fun z_ _=>z_ = .bool r),(3,fun z_ _=>z_ = .bool r)]) (by kernel_rfl) (by kernel_rfl) (lk_steady _ ⟨steady_eq _,steady_eq _,steady_eq _,steady_eq _,steady_eq _,steady_eq _,trivial⟩) ?_ ?_
 ·refine ⟨?_,?_,?_,?_,?_,?_,trivial⟩
  ·refine ob_plain [2] rfl rfl fun aa g h=>?_
   have yy0:=seen_out (v:=.pointer (some ⟨w.heap.size,0,none⟩)) rfl rfl h.1
   exact tvS (by simp [go_sem,yy0,a0 g,a1 g]) rfl
  ·refine ob_plain [4] rfl rfl fun aa g h=>?_
   obtain ⟨_,yy0,rfl⟩:=seen_in rfl h.1
   refine tupon_enter (f:=46) (args:=#[.agg #[.int .i64 a,.int .i64 b]]) (by simp [go_sem,yy0]) rfl ?_
   exact (KW.out g.w).mono fun e w' ⟨he,hB⟩=>⟨_,he,hB,rfl⟩
  ·refine ob_plain [1] rfl rfl fun aa g h=>?_
   have yy0:=seen_out (v:=.pointer (some ⟨cb,0,none⟩)) rfl rfl h.1
   exact tvS (by simp [go_sem,yy0]) rfl
  ·refine ob_plain [6] rfl rfl fun aa g h=>?_
   obtain ⟨_,yy0,rfl⟩:=seen_in rfl h.1
   exact tvS (by simp [go_sem,yy0,c4 g]) rfl
  ·refine ob_plain [5,7] rfl rfl fun aa g h=>?_
   obtain ⟨_,yy0,rfl⟩:=seen_in rfl h.1
   obtain ⟨_,yy1,rfl⟩:=seen_in rfl h.2.1
   exact tvS (by simp [go_sem,yy0,yy1,hgr]) rfl
  ·refine ob_plain [8] rfl rfl fun aa g h=>?_
   obtain ⟨_,yy0,rfl⟩:=seen_in rfl h.1
   exact tvS (by simp [go_sem,yy0]) rfl
 rintro w5 hB _ rfl _ rfl _ rfl _ rfl _ rfl _ rfl
 simp only [Act.put,List.setIfInBounds_toArray,List.set_cons_succ,List.set_cons_zero,List.filterMap_nil,finP]
 have HB9:=Lib.hid (below_then HW.out hB)
 clear hB a0 a1 c0 c1 c2 c3 c4
 go_wp2_with (fail)
 go_ret
 exact ⟨rfl,HB9.out⟩
set_option maxHeartbeats 4000000 in
theorem ixw_ok (v:Value) (l:List (Int × Int)) (o fi le mo wi:Int) (cb:Nat) (w:World) (hv:Vx w v l) (hvi:AV l) (hC:Blk w cb (.cells #[.int .i64 o,.int .i64 fi,.int .i64 le,.int .i64 mo,.int .i64 wi] 23)) :
  Calls Tryz.prog 67 #[v,.func (.func 45) #[] #[.pointer (some ⟨cb,0,none⟩)]] w fun e w'=>∃ r:Int,e = .returned (.int .i64 r)∧decide (0 ≤ r) = l.any (wdB wi)∧Below w.heap.size w w':=by
 have hl:=hv.1
 unfold maxLen at hl
 obtain ⟨p,c,rfl⟩:=hv.cut
 have HV:=Lib.hid hv
 have HVI:=Lib.hid hvi
 have HC:=Lib.hid hC
 clear hv hvi hC
 go_enter Tryz.func67,Tryz.ntmps67
 go_wp2_with (fail)
 go_loopw [8] (fun i wr=>∃ k:Nat,i = .int .i64 k∧k ≤ l.length∧Hid ((l.take k).any (wdB wi) = false)∧∃ g:Grown w,wr = g.w) (fun i _=>l.length - (intOf i).toNat)
 case atStart=>exact ⟨0,rfl,Nat.zero_le _,Lib.hid rfl,⟨w,Below.refl _ _⟩,rfl⟩
 case round =>
  obtain ⟨k,rfl,hk,HN,g0,rfl⟩:=hrel
  by_cases hlt:k < l.length
  ·have i1:(k:Int) < l.length:=by omega
   obtain ⟨x,y,hx⟩:∃ x y,l[k]? = some (x,y):=⟨l[k].1,l[k].2,List.getElem?_eq_getElem hlt⟩
   obtain ⟨b,o,hp,hb,rd⟩:=vx_rd HV.out hx
   subst hp
   have fA:=(rd g0).1
   have fB:=(rd g0).2
   have HX:=Lib.hid hx
   have hvx:=HVI.out _ (List.mem_of_getElem? hx)
   clear rd hx
   cases hbo:wdB wi (x,y) with
   | true =>
    have HCC:=Lib.hid (acc1_ok _ _ _ _ wi x y cb g0.w hvx (HC.out.grow g0.h) true hbo)
    have HA:Hid (l.any (wdB wi) = true):=Lib.hid (anyW_yes HX.out hbo)
    clear hbo hvx
    go_wp2_with (fail)
    refine HCC.out.mono ?_
    rintro e w5 ⟨rfl,hB5⟩
    go_wp2_with (fail)
    go_ret
    exact ⟨_,rfl,by rw [HA.out]; exact decide_eq_true (by omega),below_then g0.h hB5⟩
   | false =>
    have HCC:=Lib.hid (acc1_ok _ _ _ _ wi x y cb g0.w hvx (HC.out.grow g0.h) false hbo)
    have HA:Hid ((l.take (k+1)).any (wdB wi) = false):=Lib.hid (anyW_no HN.out HX.out hbo)
    clear hbo hvx
    go_wp2_with (fail)
    refine HCC.out.mono ?_
    rintro e w5 ⟨rfl,hB5⟩
    go_wp2_with (fail)
    go_roundw
    case rel=>exact ⟨k+1,by go_num,by omega,HA,⟨w5,below_then g0.h hB5⟩,rfl⟩
    case measure=>simp [intOf]; omega
  ·obtain rfl:k = l.length:=by omega
   have hn:=HN.out
   rw [List.take_of_length_le (Nat.le_refl _)] at hn
   have HA:=Lib.hid hn
   clear hn
   go_wp2_with (fail)
   go_ret
   exact ⟨_,rfl,by rw [HA.out]; rfl,g0.h⟩
theorem cnw_ok (v:Value) (l:List (Int × Int)) (o fi le mo wi:Int) (cb:Nat) (w:World) (hv:Vx w v l) (hvi:AV l) (hC:Blk w cb (.cells #[.int .i64 o,.int .i64 fi,.int .i64 le,.int .i64 mo,.int .i64 wi] 23)) :
  Calls Tryz.prog 47 #[v,.func (.func 45) #[] #[.pointer (some ⟨cb,0,none⟩)]] w fun e w'=>e = .returned (.bool (l.any (wdB wi)))∧Below w.heap.size w w':=by
 have HC:=Lib.hid (ixw_ok v l o fi le mo wi cb w hv hvi hC)
 clear hv hvi hC
 go_enter Tryz.func47,Tryz.ntmps47
 go_wp2_with (fail)
 refine HC.out.mono ?_
 rintro e w5 ⟨r,rfl,hr,hB⟩
 have HR:=Lib.hid hr
 have HB:=Lib.hid hB
 clear hr hB
 go_wp2_with (fail)
 go_ret
 exact ⟨by rw [← HR.out]; rfl,HB.out⟩
set_option maxHeartbeats 8000000 in
theorem accept_ok (o fi le mo wi T H:Int) (vf vp vt ve:Value) (V E:List (Int × Int)) (w:World) (ht:Vx w vt V) (he:Vx w ve E) (hvt:AV V) (hve:AV E) :
  Calls Tryz.prog 23 #[.agg #[.int .i64 o,.int .i64 fi,.int .i64 le,.int .i64 mo,.int .i64 wi],.agg #[.int .i64 T,.int .i64 H,vf,vp,vt,ve]] w fun e w'=>e = .returned (.bool (accB wi E V))∧Below w.heap.size w w':=by
 obtain ⟨pt,ct,rfl⟩:=ht.cut
 obtain ⟨pe,ce,rfl⟩:=he.cut
 obtain ⟨b1,hb1⟩:∃ b,E.any (wdB wi) = b:=⟨_,rfl⟩
 obtain ⟨b2,hb2⟩:∃ b,V.any (wdB wi) = b:=⟨_,rfl⟩
 obtain ⟨r,hr⟩:∃ r,accB wi E V = r:=⟨_,rfl⟩
 have hrr:(!b1 && !b2) = r:=by rw [← hr,← hb1,← hb2]; rfl
 rw [hr]
 have KC1:=Lib.hid (fun w' a c=>cnw_ok (.slice pe E.length ce) E o fi le mo wi w.heap.size w' a hve c)
 have KC2:=Lib.hid (fun w' a c=>cnw_ok (.slice pt V.length ct) V o fi le mo wi w.heap.size w' a hvt c)
 rw [hb1] at KC1
 rw [hb2] at KC2
 have hE:Below w.heap.size w ((w.alloc (.cells #[.int .i64 o,.int .i64 fi,.int .i64 le,.int .i64 mo,.int .i64 wi] 23)).alloc (.cells #[.int .i64 T,.int .i64 H,vf,vp,.slice pt V.length ct,.slice pe E.length ce] 43)):=allocs_below [.cells #[.int .i64 o,.int .i64 fi,.int .i64 le,.int .i64 mo,.int .i64 wi] 23,.cells #[.int .i64 T,.int .i64 H,vf,vp,.slice pt V.length ct,.slice pe E.length ce] 43] w
 have HC:=Lib.hid (show Blk ((w.alloc (.cells #[.int .i64 o,.int .i64 fi,.int .i64 le,.int .i64 mo,.int .i64 wi] 23)).alloc (.cells #[.int .i64 T,.int .i64 H,vf,vp,.slice pt V.length ct,.slice pe E.length ce] 43)) (w.heap.size) (.cells #[.int .i64 o,.int .i64 fi,.int .i64 le,.int .i64 mo,.int .i64 wi] 23) from allocs_at [.cells #[.int .i64 o,.int .i64 fi,.int .i64 le,.int .i64 mo,.int .i64 wi] 23,.cells #[.int .i64 T,.int .i64 H,vf,vp,.slice pt V.length ct,.slice pe E.length ce] 43] w 0 _ rfl)
 have HS:=Lib.hid (show Blk ((w.alloc (.cells #[.int .i64 o,.int .i64 fi,.int .i64 le,.int .i64 mo,.int .i64 wi] 23)).alloc (.cells #[.int .i64 T,.int .i64 H,vf,vp,.slice pt V.length ct,.slice pe E.length ce] 43)) (w.heap.size+1) (.cells #[.int .i64 T,.int .i64 H,vf,vp,.slice pt V.length ct,.slice pe E.length ce] 43) from allocs_at [.cells #[.int .i64 o,.int .i64 fi,.int .i64 le,.int .i64 mo,.int .i64 wi] 23,.cells #[.int .i64 T,.int .i64 H,vf,vp,.slice pt V.length ct,.slice pe E.length ce] 43] w 1 _ rfl)
 have HW:=Lib.hid hE
 have HT:=Lib.hid (ht.grow hE)
 have HE:=Lib.hid (he.grow hE)
 have HRR:=Lib.hid hrr
 have s5:=heapN_cellj HS.out (k:=5) rfl
 clear hE ht he hvt hve hb1 hb2 hr hrr
 go_enter Tryz.func23,Tryz.ntmps23
 go_wp2_with (fail)
 refine (KC1.out _ HE.out HC.out).mono ?_
 rintro e w5 ⟨rfl,hB5⟩
 have s4:=heapN_cellj (HS.out.grow hB5) (k:=4) rfl
 have HT5:=Lib.hid (HT.out.grow hB5)
 have HC5:=Lib.hid (HC.out.grow hB5)
 have HB5:=Lib.hid (below_then HW.out hB5)
 clear hB5 s5 KC1
 cases b1 with
 | true =>
  obtain rfl:false = r:=HRR.out
  clear HRR
  go_wp2_with (fail)
  go_ret
  exact ⟨rfl,HB5.out⟩
 | false =>
  go_wp2_with (fail)
  refine (KC2.out _ HT5.out HC5.out).mono ?_
  rintro e w6 ⟨rfl,hB6⟩
  have HB6:=Lib.hid (below_then HB5.out hB6)
  clear hB6 s4 KC2
  go_wp2_with (fail)
  go_ret
  exact ⟨by rw [← HRR.out]; rfl,HB6.out⟩
end Go.Proofs.YtekjflfkbgklhaaGreat
