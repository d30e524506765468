/-
 Ck Ss
-/
import Derived.Test.YtekjflfkbgklhaaGreatKcp
import Derived.Test.YtekjflfkbgklhaaGreatKcr
import Derived.Test.YtekjflfkbgklhaaGreatKczh
import Derived.Test.YtekjflfkbgklhaaGreatKczi
import Derived.Test.YtekjflfkbgklhaaGreatKczk
import Derived.Test.YtekjflfkbgklhaaGreatKczo
import Derived.Test.YtekjflfkbgklhaaGreatKczq
namespace Go.Proofs.YtekjflfkbgklhaaGreat
open Go.ChangeShapes Go.WideShapes Go.ChangeAt Go.RowKit
set_option linter.unusedVariables false
set_option linter.unusedSimpArgs false
set_option maxRecDepth 100000
attribute [local go_sem] and255
attribute [local irreducible] Calls
set_option maxHeartbeats 16000000 in
theorem made13_ok (o fi le mo wi:Int) (w:World) (ho:W64 o) (hfi:W64 fi) (hle:W64 le) (hmo:W64 mo) (hwi:W64 wi) :
  Calls Tryz.prog 14 #[.agg #[.int .i64 o,.int .i64 fi,.int .i64 le,.int .i64 mo,.int .i64 wi]] w fun e w'=>e = .returned (.agg #[.int .i64 (ordC o),.int .i64 (fiC fi le),.int .i64 (leC le),.int .i64 (moC mo fi le),.int .i64 (wiC wi)])∧Below w.heap.size w w':=by
 unfold W64 at ho hfi hle hmo hwi
 have KM:=Lib.hid (fun x n w a b c=>mag_ok x n w a b c)
 have b1:=magC_bd le (n:=4096) (by decide)
 have b2:=magC_bd fi (n:=32768) (by decide)
 have b3:=magC_bd mo (n:=65536) (by decide)
 have b4:=magC_bd wi (n:=1048576) (by decide)
 have K1:=Lib.hid (fun w=>mag_ok le 4096 w hle (by decide) (by decide))
 have K2:=Lib.hid (fun w=>mag_ok fi 32768 w hfi (by decide) (by decide))
 have K3:=Lib.hid (fun w=>mag_ok mo 65536 w hmo (by decide) (by decide))
 have K4:=Lib.hid (fun w=>mag_ok wi 1048576 w hwi (by decide) (by decide))
 unfold wiC moC fiC leC
 obtain ⟨m1,e1⟩:∃ m,magC le 4096 = m:=⟨_,rfl⟩
 obtain ⟨m2,e2⟩:∃ m,magC fi 32768 = m:=⟨_,rfl⟩
 obtain ⟨m3,e3⟩:∃ m,magC mo 65536 = m:=⟨_,rfl⟩
 obtain ⟨m4,e4⟩:∃ m,magC wi 1048576 = m:=⟨_,rfl⟩
 rw [e1] at b1 K1 ⊢
 rw [e2] at b2 K2 ⊢
 rw [e3] at b3 K3 ⊢
 rw [e4] at b4 K4 ⊢
 clear e1 e2 e3 e4
 have o1:0 ≤ o % 4∧o % 4 < 4:=⟨by omega,by omega⟩
 have oe:((ordC o:Nat):Int) = 1+o % 4:=by unfold ordC; omega
 have hE:Below w.heap.size w ((w.alloc (.cells #[.int .i64 o,.int .i64 fi,.int .i64 le,.int .i64 mo,.int .i64 wi] 23)).alloc (.cells #[.int .i64 0,.int .i64 0,.int .i64 0,.int .i64 0,.int .i64 0] 23)):=allocs_below [.cells #[.int .i64 o,.int .i64 fi,.int .i64 le,.int .i64 mo,.int .i64 wi] 23,.cells #[.int .i64 0,.int .i64 0,.int .i64 0,.int .i64 0,.int .i64 0] 23] w
 have HC:=Lib.hid (show Blk ((w.alloc (.cells #[.int .i64 o,.int .i64 fi,.int .i64 le,.int .i64 mo,.int .i64 wi] 23)).alloc (.cells #[.int .i64 0,.int .i64 0,.int .i64 0,.int .i64 0,.int .i64 0] 23)) (w.heap.size) (.cells #[.int .i64 o,.int .i64 fi,.int .i64 le,.int .i64 mo,.int .i64 wi] 23) from allocs_at [.cells #[.int .i64 o,.int .i64 fi,.int .i64 le,.int .i64 mo,.int .i64 wi] 23,.cells #[.int .i64 0,.int .i64 0,.int .i64 0,.int .i64 0,.int .i64 0] 23] w 0 _ rfl)
 have HZ:=Lib.hid (show Blk ((w.alloc (.cells #[.int .i64 o,.int .i64 fi,.int .i64 le,.int .i64 mo,.int .i64 wi] 23)).alloc (.cells #[.int .i64 0,.int .i64 0,.int .i64 0,.int .i64 0,.int .i64 0] 23)) (w.heap.size+1) (.cells #[.int .i64 0,.int .i64 0,.int .i64 0,.int .i64 0,.int .i64 0] 23) from allocs_at [.cells #[.int .i64 o,.int .i64 fi,.int .i64 le,.int .i64 mo,.int .i64 wi] 23,.cells #[.int .i64 0,.int .i64 0,.int .i64 0,.int .i64 0,.int .i64 0] 23] w 1 _ rfl)
 have HW:=Lib.hid hE
 have HSZ0:=Lib.hid (show ((w.alloc (.cells #[.int .i64 o,.int .i64 fi,.int .i64 le,.int .i64 mo,.int .i64 wi] 23)).alloc (.cells #[.int .i64 0,.int .i64 0,.int .i64 0,.int .i64 0,.int .i64 0] 23)).heap.size = w.heap.size+2 from by simp)
 clear hE KM hfi hle hmo hwi
 go_enter Tryz.func14,Tryz.ntmps14
 go_wp2_with (fail)
 generalize hW0:World.alloc (World.alloc w _) _ = W0 at *
 clear hW0
 have h3:IntKind.i64.wrap (1+o % 4) = 1+o % 4:=wrapJ _ (by omega) (by omega)
 have h4:IntKind.i64.wrap (1024+m1) = 1024+m1:=wrapJ _ (by omega) (by omega)
 have h5:(o % 256).tmod 4 = o % 4:=by rw [Int.tmod_eq_emod_of_nonneg (by omega)]; omega
 have c0:=fun g:Grown W0=>heapN_cellj (HC.out.grow g.h) (k:=0) rfl
 have c1:=fun g:Grown W0=>heapN_cellj (HC.out.grow g.h) (k:=1) rfl
 have c2:=fun g:Grown W0=>heapN_cellj (HC.out.grow g.h) (k:=2) rfl
 have c3:=fun g:Grown W0=>heapN_cellj (HC.out.grow g.h) (k:=3) rfl
 have c4:=fun g:Grown W0=>heapN_cellj (HC.out.grow g.h) (k:=4) rfl
 refine region_pred_g (fun σ_=>lk [(4,fun z_ _=>z_ = .pointer (some ⟨w.heap.size,0,none⟩)),(5,fun z_ _=>z_ = .int .i64 o),(6,fun z_ _=>z_ = .int .i64 (o % 256)),(7,fun z_ _=>z_ = .int .i64 (o % 4)),(8,fun z_ _=>z_ = .int .i64 (1+o % 4)),(9,fun z_ _=>z_ = .pointer (some ⟨w.heap.size,2,none⟩)),(10,fun z_ _=>z_ = .int .i64 le),(11,fun z_ _=>z_ = .int .i64 m1),(12,fun z_ _=>z_ = .int .i64 (1024+m1)),(13,fun z_ _=>z_ = .agg #[.int .i64 (1+o % 4),.int .i64 0,.int .i64 (1024+m1),.int .i64 0,.int .i64 0]),(3,fun z_ w'=>∃ X_,z_ = .pointer (some ⟨X_,0,none⟩)∧W0.heap.size ≤ X_∧w'.heap[X_]? = some (.cells (if σ_ 11 = true then #[.int .i64 (1+o % 4),.int .i64 0,.int .i64 (1024+m1),.int .i64 0,.int .i64 0] else #[(.int .i64 0),(.int .i64 0),(.int .i64 0),(.int .i64 0),(.int .i64 0)]) 23 (0,0)))]) (kk [(3,ptrK)]) [(11,3)] [] (by kernel_rfl) (by kernel_rfl) ?_ (fun σ_=>lk_steady _ ⟨steady_eq _,steady_eq _,steady_eq _,steady_eq _,steady_eq _,steady_eq _,steady_eq _,steady_eq _,steady_eq _,steady_eq _,fun u w1 w2 hb ⟨X,e,h1,h2⟩=>⟨X,e,h1,(hb.block X (Array.getElem?_eq_some_iff.1 h2).1).trans h2⟩,trivial⟩) ?_ ?_ ?_ ?_
 ·intro x hx
  cases hx
 ·intro σ_ t v w b h hb
  refine kk_lt (fun x hx e hl hb=>?_) h hb
  simp only [List.mem_cons,List.not_mem_nil,or_false] at hx
  rcases hx with rfl
  ·subst e
   obtain ⟨X,rfl,hX,hI⟩:=hl
   obtain rfl:X = b:=Option.some.inj hb
   exact (Array.getElem?_eq_some_iff.1 hI).1
 ·refine ⟨?_,?_,?_,?_,?_,?_,?_,?_,?_,?_,?_,?_,trivial⟩
  ·intro _ σ_ hσ
   refine oblg_of (ob_plain [1] rfl rfl fun aa g h=>?_) (fun d v hd=>by cases hd; rfl)
   have yy0:=seen_out (v:=.pointer (some ⟨w.heap.size,0,none⟩)) rfl rfl h.1
   exact tvS (by simp [go_sem,yy0]) rfl
  ·intro _ σ_ hσ
   refine oblg_of (ob_plain [4] rfl rfl fun aa g h=>?_) (fun d v hd=>by cases hd; rfl)
   obtain ⟨_,yy0,rfl⟩:=seen_in rfl h.1
   exact tvS (by simp [go_sem,yy0,c0 g]) rfl
  ·intro _ σ_ hσ
   refine oblg_of (ob_plain [5] rfl rfl fun aa g h=>?_) (fun d v hd=>by cases hd; rfl)
   obtain ⟨_,yy0,rfl⟩:=seen_in rfl h.1
   exact tvS (by simp [go_sem,yy0]) rfl
  ·intro _ σ_ hσ
   refine oblg_of (ob_plain [6] rfl rfl fun aa g h=>?_) (fun d v hd=>by cases hd; rfl)
   obtain ⟨_,yy0,rfl⟩:=seen_in rfl h.1
   exact tvS (by simp [go_sem,yy0,h5]) rfl
  ·intro _ σ_ hσ
   refine oblg_of (ob_plain [7] rfl rfl fun aa g h=>?_) (fun d v hd=>by cases hd; rfl)
   obtain ⟨_,yy0,rfl⟩:=seen_in rfl h.1
   exact tvS (by simp [go_sem,yy0,h3]) rfl
  ·intro _ σ_ hσ
   refine oblg_of (ob_plain [1] rfl rfl fun aa g h=>?_) (fun d v hd=>by cases hd; rfl)
   have yy0:=seen_out (v:=.pointer (some ⟨w.heap.size,0,none⟩)) rfl rfl h.1
   exact tvS (by simp [go_sem,yy0]) rfl
  ·intro _ σ_ hσ
   refine oblg_of (ob_plain [9] rfl rfl fun aa g h=>?_) (fun d v hd=>by cases hd; rfl)
   obtain ⟨_,yy0,rfl⟩:=seen_in rfl h.1
   exact tvS (by simp [go_sem,yy0,c2 g]) rfl
  ·intro _ σ_ hσ
   refine oblg_of (ob_plain [10] rfl rfl fun aa g h=>?_) (fun d v hd=>by cases hd; rfl)
   obtain ⟨_,yy0,rfl⟩:=seen_in rfl h.1
   refine tupon_enter (f:=39) (args:=#[.int .i64 le,.int .i64 4096]) (by simp [go_sem,yy0]) rfl ?_
   exact (K1.out g.w).mono fun e w' ⟨he,hB⟩=>⟨_,he,hB,rfl⟩
  ·intro _ σ_ hσ
   refine oblg_of (ob_plain [11] rfl rfl fun aa g h=>?_) (fun d v hd=>by cases hd; rfl)
   obtain ⟨_,yy0,rfl⟩:=seen_in rfl h.1
   exact tvS (by simp [go_sem,yy0,h4]) rfl
  ·intro _ σ_ hσ
   refine oblg_of (ob_plain [8,12] rfl rfl fun aa g h=>?_) (fun d v hd=>by cases hd; rfl)
   obtain ⟨_,yy0,rfl⟩:=seen_in rfl h.1
   obtain ⟨_,yy1,rfl⟩:=seen_in rfl h.2.1
   exact tvS (by simp [go_sem,yy0,yy1]) rfl
  ·intro _ σ_ hσ
   have hsx:σ_ 11 = false:=by
    cases e:σ_ 11 with
    | false=>rfl
    | true=>exact absurd (hσ 11 _ e rfl) (by first | decide | decide +kernel)
   refine oblg_plain [] rfl rfl fun aa g h=>?_
   exact tupon_value (v:=.pointer (some ⟨g.w.heap.size,0,none⟩)) (w1:=g.w.alloc (.cells #[(.int .i64 0),(.int .i64 0),(.int .i64 0),(.int .i64 0),(.int .i64 0)] 23)) (by simp [go_sem]) ((Below.refl _ _).alloc (Nat.le_refl _) _) ⟨⟨_,rfl,g.h.size,by rw [if_neg (by rw [hsx]; exact Bool.false_ne_true)]; exact World.alloc_heap_new _ _⟩,fun d b hd hb=>by cases hd; obtain rfl:=Option.some.inj hb; exact Nat.le_refl _⟩
  ·exact fun h=>absurd h (by decide)
 ·intro i p os hm hos
  simp only [List.mem_cons,List.not_mem_nil,or_false,Prod.mk.injEq] at hm
  rcases hm with ⟨rfl,rfl⟩
  ·obtain rfl:=Option.some.inj hos
   intro σ_ aa gg hσ h
   obtain ⟨_,r0,X,rfl,hX,hI⟩:=seen_in rfl h.1
   have e0:=getD_of r0
   obtain ⟨_,r1,rfl⟩:=seen_in rfl h.2.1
   have e1:=getD_of r1
   rw [if_neg (by rw [hσ]; exact Bool.false_ne_true)] at hI
   have q0:=heapN_cellj hI (k:=0) rfl
   have z0:gg.w.frozen? ⟨X,0,none⟩ = false:=by simp [World.frozen?,hI]
   have q1:=heapN_cellj hI (k:=1) rfl
   have z1:gg.w.frozen? ⟨X,1,none⟩ = false:=by simp [World.frozen?,hI]
   have q2:=heapN_cellj hI (k:=2) rfl
   have z2:gg.w.frozen? ⟨X,2,none⟩ = false:=by simp [World.frozen?,hI]
   have q3:=heapN_cellj hI (k:=3) rfl
   have z3:gg.w.frozen? ⟨X,3,none⟩ = false:=by simp [World.frozen?,hI]
   have q4:=heapN_cellj hI (k:=4) rfl
   have z4:gg.w.frozen? ⟨X,4,none⟩ = false:=by simp [World.frozen?,hI]
   refine ⟨(((((gg.w.setCell ⟨X,0,none⟩ (.int .i64 (1+o % 4))).setCell ⟨X,1,none⟩ (.int .i64 0)).setCell ⟨X,2,none⟩ (.int .i64 (1024+m1))).setCell ⟨X,3,none⟩ (.int .i64 0)).setCell ⟨X,4,none⟩ (.int .i64 0)),by simp [go_sem,e0,r0,e1,r1,q0,z0,q1,z1,q2,z2,q3,z3,q4,z4],(((((gg.h.setCell (p:=⟨X,0,none⟩) hX _).setCell (p:=⟨X,1,none⟩) hX _).setCell (p:=⟨X,2,none⟩) hX _).setCell (p:=⟨X,3,none⟩) hX _).setCell (p:=⟨X,4,none⟩) hX _),fun t v hv hne hΦ=>lk_pair ?_ hΦ⟩
   refine ⟨rfl,fun _ h=>h,rfl,fun _ h=>h,rfl,fun _ h=>h,rfl,fun _ h=>h,rfl,fun _ h=>h,rfl,fun _ h=>h,rfl,fun _ h=>h,rfl,fun _ h=>h,rfl,fun _ h=>h,rfl,fun _ h=>h,rfl,?_,trivial⟩
   ·intro e hx
    subst e
    obtain ⟨X',rfl,hX',hI'⟩:=hx
    rw [r0] at hv
    have e:=Option.some.inj hv
    simp only [Value.pointer.injEq,Option.some.injEq,Addr.mk.injEq,and_true] at e
    subst e
    exact ⟨X,rfl,hX,by rw [if_pos (updS_self _ _)]; exact cellsT_setN (o:=4) (u:=.int .i64 0) (cellsT_setN (o:=3) (u:=.int .i64 0) (cellsT_setN (o:=2) (u:=.int .i64 (1024+m1)) (cellsT_setN (o:=1) (u:=.int .i64 0) (cellsT_setN (o:=0) (u:=.int .i64 (1+o % 4)) (hI)))))⟩
 rintro w5 hB _ rfl _ rfl _ rfl _ rfl _ rfl _ rfl _ rfl _ rfl _ rfl _ rfl _ ⟨X3,rfl,hX3,hI3⟩
 simp only [Act.put,List.setIfInBounds_toArray,List.set_cons_succ,List.set_cons_zero,List.filterMap_nil,finP]
 intro hdis hcp
 have hI3:w5.heap[X3]? = some (.cells #[.int .i64 (1+o % 4),.int .i64 0,.int .i64 (1024+m1),.int .i64 0,.int .i64 0] 23 (0,0)):=hI3
 have HI5:=Lib.hid (show Blk w5 X3 (.cells #[.int .i64 (1+o % 4),.int .i64 0,.int .i64 (1024+m1),.int .i64 0,.int .i64 0] 23) from hI3)
 have HC5:=Lib.hid (HC.out.grow hB)
 have HZ5:=Lib.hid (HZ.out.grow hB)
 have HB5:=Lib.hid (below_then HW.out hB)
 have HXN_:w.heap.size+2 ≤ X3:=by have:=HSZ0.out; omega
 have HX3:=Lib.hid (show w.heap.size ≤ X3 by omega)
 clear hdis hcp hI3 hB c0 c1 c2 c3 c4 h3 h4 h5 K1 hX3
 have HXN:=Lib.hid (show w.heap.size+2 ≤ X3 from HXN_)
 go_wp2_with (fail)
 have hsum:IntKind.i64.wrap (1024+m1+m2) = 1024+m1+m2:=wrapJ _ (by omega) (by omega)
 have c0:=fun g:Grown w5=>heapN_cellj (HC5.out.grow g.h) (k:=0) rfl
 have c1:=fun g:Grown w5=>heapN_cellj (HC5.out.grow g.h) (k:=1) rfl
 have c2:=fun g:Grown w5=>heapN_cellj (HC5.out.grow g.h) (k:=2) rfl
 have c3:=fun g:Grown w5=>heapN_cellj (HC5.out.grow g.h) (k:=3) rfl
 have c4:=fun g:Grown w5=>heapN_cellj (HC5.out.grow g.h) (k:=4) rfl
 have x0:=fun g:Grown w5=>heapN_cellj (HI5.out.grow g.h) (k:=0) rfl
 have x1:=fun g:Grown w5=>heapN_cellj (HI5.out.grow g.h) (k:=1) rfl
 have x2:=fun g:Grown w5=>heapN_cellj (HI5.out.grow g.h) (k:=2) rfl
 have x3:=fun g:Grown w5=>heapN_cellj (HI5.out.grow g.h) (k:=3) rfl
 have x4:=fun g:Grown w5=>heapN_cellj (HI5.out.grow g.h) (k:=4) rfl
 refine region_pred_l (lk [(14,fun z_ _=>z_ = .pointer (some ⟨X3,2,none⟩)),(15,fun z_ _=>z_ = .int .i64 (1024+m1)),(16,fun z_ _=>z_ = .pointer (some ⟨w.heap.size,1,none⟩)),(17,fun z_ _=>z_ = .int .i64 fi),(18,fun z_ _=>z_ = .int .i64 m2),(19,fun z_ _=>z_ = .int .i64 (1024+m1+m2)),(20,fun z_ _=>z_ = .pointer (some ⟨X3,1,none⟩))]) 7 _ rfl (by kernel_rfl) (by kernel_rfl) (by kernel_rfl) (lk_steady _ ⟨steady_eq _,steady_eq _,steady_eq _,steady_eq _,steady_eq _,steady_eq _,steady_eq _,trivial⟩) ?_ ?_
 ·refine ⟨?_,?_,?_,?_,?_,?_,?_,?_,trivial⟩
  ·refine fun _=>ob_plain [3] rfl rfl fun _ g h=>?_
   have yy0:=seen_out (v:=.pointer (some ⟨X3,0,none⟩)) rfl rfl h.1
   exact tvS (by simp [go_sem,yy0]) rfl
  ·refine fun _=>ob_plain [14] rfl rfl fun _ g h=>?_
   obtain ⟨_,yy0,rfl⟩:=seen_in rfl h.1
   exact tvS (by simp [go_sem,yy0,x2 g]) rfl
  ·refine fun _=>ob_plain [1] rfl rfl fun _ g h=>?_
   have yy0:=seen_out (v:=.pointer (some ⟨w.heap.size,0,none⟩)) rfl rfl h.1
   exact tvS (by simp [go_sem,yy0]) rfl
  ·refine fun _=>ob_plain [16] rfl rfl fun _ g h=>?_
   obtain ⟨_,yy0,rfl⟩:=seen_in rfl h.1
   exact tvS (by simp [go_sem,yy0,c1 g]) rfl
  ·refine fun _=>ob_plain [17] rfl rfl fun _ g h=>?_
   obtain ⟨_,yy0,rfl⟩:=seen_in rfl h.1
   refine tupon_enter (f:=39) (args:=#[.int .i64 fi,.int .i64 32768]) (by simp [go_sem,yy0]) rfl ?_
   exact (K2.out g.w).mono fun e w' ⟨he,hB⟩=>⟨_,he,hB,rfl⟩
  ·refine fun _=>ob_plain [15,18] rfl rfl fun _ g h=>?_
   obtain ⟨_,yy0,rfl⟩:=seen_in rfl h.1
   obtain ⟨_,yy1,rfl⟩:=seen_in rfl h.2.1
   exact tvS (by simp [go_sem,yy0,yy1,hsum]) rfl
  ·refine fun _=>ob_plain [3] rfl rfl fun _ g h=>?_
   have yy0:=seen_out (v:=.pointer (some ⟨X3,0,none⟩)) rfl rfl h.1
   exact tvS (by simp [go_sem,yy0]) rfl
  ·exact fun h=>absurd rfl h
 rintro wq hB _ rfl _ rfl _ rfl _ rfl _ rfl _ rfl _ rfl
 simp only [Act.put,List.setIfInBounds_toArray,List.set_cons_succ,List.set_cons_zero,List.filterMap_nil]
 have hx:=HI5.out.grow hB
 have q0:=heapN_cellj hx (k:=1) rfl
 have y0:wq.frozen? ⟨X3,1,none⟩ = false:=by simp [World.frozen?,show wq.heap[X3]? = _ from hx]
 refine ⟨_,by simp [go_sem,q0,y0]; rfl,?_⟩
 have hs:=cellsT_setN (o:=1) (u:=.int .i64 (1024+m1+m2)) hx
 have hb:=Below.setCell (HB5.out.trans (hB.mono HB5.out.size)) (p:=⟨X3,1,none⟩) HX3.out (.int .i64 (1024+m1+m2))
 have hc:Blk (wq.setCell ⟨X3,1,none⟩ (.int .i64 (1024+m1+m2))) w.heap.size (.cells #[.int .i64 o,.int .i64 fi,.int .i64 le,.int .i64 mo,.int .i64 wi] 23):=heap_ne (HC5.out.grow hB) (by have:=HXN.out; omega)
 have hz:Blk (wq.setCell ⟨X3,1,none⟩ (.int .i64 (1024+m1+m2))) (w.heap.size+1) (.cells #[.int .i64 0,.int .i64 0,.int .i64 0,.int .i64 0,.int .i64 0] 23):=heap_ne (HZ5.out.grow hB) (by have:=HXN.out; omega)
 obtain ⟨w6,hw6⟩:∃ W,wq.setCell ⟨X3,1,none⟩ (.int .i64 (1024+m1+m2)) = W:=⟨_,rfl⟩
 rw [hw6] at hs hb hc hz ⊢
 have HI6:=Lib.hid (show Blk w6 X3 (.cells #[.int .i64 (1+o % 4),.int .i64 (1024+m1+m2),.int .i64 (1024+m1),.int .i64 0,.int .i64 0] 23) from hs)
 have HC6:=Lib.hid hc
 have HZ6:=Lib.hid hz
 have HB6:=Lib.hid hb
 clear hw6 hs hb hc hz hx q0 y0 hB c0 c1 c2 c3 c4 x0 x1 x2 x3 x4 hsum HI5 HC5 HZ5 HB5
 go_wp2_with (fail)
 have hsum:IntKind.i64.wrap (1024+m1+m2+m3) = 1024+m1+m2+m3:=wrapJ _ (by omega) (by omega)
 have c0:=fun g:Grown w6=>heapN_cellj (HC6.out.grow g.h) (k:=0) rfl
 have c1:=fun g:Grown w6=>heapN_cellj (HC6.out.grow g.h) (k:=1) rfl
 have c2:=fun g:Grown w6=>heapN_cellj (HC6.out.grow g.h) (k:=2) rfl
 have c3:=fun g:Grown w6=>heapN_cellj (HC6.out.grow g.h) (k:=3) rfl
 have c4:=fun g:Grown w6=>heapN_cellj (HC6.out.grow g.h) (k:=4) rfl
 have x0:=fun g:Grown w6=>heapN_cellj (HI6.out.grow g.h) (k:=0) rfl
 have x1:=fun g:Grown w6=>heapN_cellj (HI6.out.grow g.h) (k:=1) rfl
 have x2:=fun g:Grown w6=>heapN_cellj (HI6.out.grow g.h) (k:=2) rfl
 have x3:=fun g:Grown w6=>heapN_cellj (HI6.out.grow g.h) (k:=3) rfl
 have x4:=fun g:Grown w6=>heapN_cellj (HI6.out.grow g.h) (k:=4) rfl
 refine region_pred_l (lk [(21,fun z_ _=>z_ = .pointer (some ⟨X3,1,none⟩)),(22,fun z_ _=>z_ = .int .i64 (1024+m1+m2)),(23,fun z_ _=>z_ = .pointer (some ⟨w.heap.size,3,none⟩)),(24,fun z_ _=>z_ = .int .i64 mo),(25,fun z_ _=>z_ = .int .i64 m3),(26,fun z_ _=>z_ = .int .i64 (1024+m1+m2+m3)),(27,fun z_ _=>z_ = .pointer (some ⟨X3,3,none⟩))]) 7 _ rfl (by kernel_rfl) (by kernel_rfl) (by kernel_rfl) (lk_steady _ ⟨steady_eq _,steady_eq _,steady_eq _,steady_eq _,steady_eq _,steady_eq _,steady_eq _,trivial⟩) ?_ ?_
 ·refine ⟨?_,?_,?_,?_,?_,?_,?_,?_,trivial⟩
  ·refine fun _=>ob_plain [3] rfl rfl fun _ g h=>?_
   have yy0:=seen_out (v:=.pointer (some ⟨X3,0,none⟩)) rfl rfl h.1
   exact tvS (by simp [go_sem,yy0]) rfl
  ·refine fun _=>ob_plain [21] rfl rfl fun _ g h=>?_
   obtain ⟨_,yy0,rfl⟩:=seen_in rfl h.1
   exact tvS (by simp [go_sem,yy0,x1 g]) rfl
  ·refine fun _=>ob_plain [1] rfl rfl fun _ g h=>?_
   have yy0:=seen_out (v:=.pointer (some ⟨w.heap.size,0,none⟩)) rfl rfl h.1
   exact tvS (by simp [go_sem,yy0]) rfl
  ·refine fun _=>ob_plain [23] rfl rfl fun _ g h=>?_
   obtain ⟨_,yy0,rfl⟩:=seen_in rfl h.1
   exact tvS (by simp [go_sem,yy0,c3 g]) rfl
  ·refine fun _=>ob_plain [24] rfl rfl fun _ g h=>?_
   obtain ⟨_,yy0,rfl⟩:=seen_in rfl h.1
   refine tupon_enter (f:=39) (args:=#[.int .i64 mo,.int .i64 65536]) (by simp [go_sem,yy0]) rfl ?_
   exact (K3.out g.w).mono fun e w' ⟨he,hB⟩=>⟨_,he,hB,rfl⟩
  ·refine fun _=>ob_plain [22,25] rfl rfl fun _ g h=>?_
   obtain ⟨_,yy0,rfl⟩:=seen_in rfl h.1
   obtain ⟨_,yy1,rfl⟩:=seen_in rfl h.2.1
   exact tvS (by simp [go_sem,yy0,yy1,hsum]) rfl
  ·refine fun _=>ob_plain [3] rfl rfl fun _ g h=>?_
   have yy0:=seen_out (v:=.pointer (some ⟨X3,0,none⟩)) rfl rfl h.1
   exact tvS (by simp [go_sem,yy0]) rfl
  ·exact fun h=>absurd rfl h
 rintro wq hB _ rfl _ rfl _ rfl _ rfl _ rfl _ rfl _ rfl
 simp only [Act.put,List.setIfInBounds_toArray,List.set_cons_succ,List.set_cons_zero,List.filterMap_nil]
 have hx:=HI6.out.grow hB
 have q0:=heapN_cellj hx (k:=3) rfl
 have y0:wq.frozen? ⟨X3,3,none⟩ = false:=by simp [World.frozen?,show wq.heap[X3]? = _ from hx]
 refine ⟨_,by simp [go_sem,q0,y0]; rfl,?_⟩
 have hs:=cellsT_setN (o:=3) (u:=.int .i64 (1024+m1+m2+m3)) hx
 have hb:=Below.setCell (HB6.out.trans (hB.mono HB6.out.size)) (p:=⟨X3,3,none⟩) HX3.out (.int .i64 (1024+m1+m2+m3))
 have hc:Blk (wq.setCell ⟨X3,3,none⟩ (.int .i64 (1024+m1+m2+m3))) w.heap.size (.cells #[.int .i64 o,.int .i64 fi,.int .i64 le,.int .i64 mo,.int .i64 wi] 23):=heap_ne (HC6.out.grow hB) (by have:=HXN.out; omega)
 have hz:Blk (wq.setCell ⟨X3,3,none⟩ (.int .i64 (1024+m1+m2+m3))) (w.heap.size+1) (.cells #[.int .i64 0,.int .i64 0,.int .i64 0,.int .i64 0,.int .i64 0] 23):=heap_ne (HZ6.out.grow hB) (by have:=HXN.out; omega)
 obtain ⟨w7,hw7⟩:∃ W,wq.setCell ⟨X3,3,none⟩ (.int .i64 (1024+m1+m2+m3)) = W:=⟨_,rfl⟩
 rw [hw7] at hs hb hc hz ⊢
 have HI7:=Lib.hid (show Blk w7 X3 (.cells #[.int .i64 (1+o % 4),.int .i64 (1024+m1+m2),.int .i64 (1024+m1),.int .i64 (1024+m1+m2+m3),.int .i64 0] 23) from hs)
 have HC7:=Lib.hid hc
 have HZ7:=Lib.hid hz
 have HB7:=Lib.hid hb
 clear hw7 hs hb hc hz hx q0 y0 hB c0 c1 c2 c3 c4 x0 x1 x2 x3 x4 hsum HI6 HC6 HZ6 HB6
 have c4:=heapN_cellj HC7.out (k:=4) rfl
 go_wp2_with (fail)
 refine (K4.out _).mono ?_
 rintro e w8 ⟨rfl,hB8⟩
 have hx:=HI7.out.grow hB8
 have q0:=heapN_cellj hx (k:=4) rfl
 have y0:w8.frozen? ⟨X3,4,none⟩ = false:=by simp [World.frozen?,show w8.heap[X3]? = _ from hx]
 have hs:=cellsT_setN (o:=4) (u:=.int .i64 (1+m4)) hx
 have hb:=Below.setCell (below_then HB7.out hB8) (p:=⟨X3,4,none⟩) HX3.out (.int .i64 (1+m4))
 have hz:Blk (w8.setCell ⟨X3,4,none⟩ (.int .i64 (1+m4))) (w.heap.size+1) (.cells #[.int .i64 0,.int .i64 0,.int .i64 0,.int .i64 0,.int .i64 0] 23):=heap_ne (HZ7.out.grow hB8) (by have:=HXN.out; omega)
 obtain ⟨w9,hw9⟩:∃ W,w8.setCell ⟨X3,4,none⟩ (.int .i64 (1+m4)) = W:=⟨_,rfl⟩
 rw [hw9] at hs hb hz
 have x0:=heapN_cellj (show w9.heap[X3]? = some (.cells #[.int .i64 (1+o % 4),.int .i64 (1024+m1+m2),.int .i64 (1024+m1),.int .i64 (1024+m1+m2+m3),.int .i64 (1+m4)] 23 (0,0)) from hs) (k:=0) rfl
 have x1:=heapN_cellj (show w9.heap[X3]? = some (.cells #[.int .i64 (1+o % 4),.int .i64 (1024+m1+m2),.int .i64 (1024+m1),.int .i64 (1024+m1+m2+m3),.int .i64 (1+m4)] 23 (0,0)) from hs) (k:=1) rfl
 have x2:=heapN_cellj (show w9.heap[X3]? = some (.cells #[.int .i64 (1+o % 4),.int .i64 (1024+m1+m2),.int .i64 (1024+m1),.int .i64 (1024+m1+m2+m3),.int .i64 (1+m4)] 23 (0,0)) from hs) (k:=2) rfl
 have x3:=heapN_cellj (show w9.heap[X3]? = some (.cells #[.int .i64 (1+o % 4),.int .i64 (1024+m1+m2),.int .i64 (1024+m1),.int .i64 (1024+m1+m2+m3),.int .i64 (1+m4)] 23 (0,0)) from hs) (k:=3) rfl
 have x4:=heapN_cellj (show w9.heap[X3]? = some (.cells #[.int .i64 (1+o % 4),.int .i64 (1024+m1+m2),.int .i64 (1024+m1),.int .i64 (1024+m1+m2+m3),.int .i64 (1+m4)] 23 (0,0)) from hs) (k:=4) rfl
 have HB9:=Lib.hid hb
 clear hB8 hx hs hb c4
 have HW9:=Lib.hid (below_row (X:=w.heap.size+1) HB9.out (by omega) #[.int .i64 (1+o % 4),.int .i64 (1024+m1+m2),.int .i64 (1024+m1),.int .i64 (1024+m1+m2+m3),.int .i64 (1+m4)])
 have hs9:=setRow_heap w9 (w.heap.size+1) _ #[.int .i64 (1+o % 4),.int .i64 (1024+m1+m2),.int .i64 (1024+m1),.int .i64 (1024+m1+m2+m3),.int .i64 (1+m4)] _ _ hz
 have z0:=heapN_cellj hs9 (k:=0) rfl
 have z1:=heapN_cellj hs9 (k:=1) rfl
 have z2:=heapN_cellj hs9 (k:=2) rfl
 have z3:=heapN_cellj hs9 (k:=3) rfl
 have z4:=heapN_cellj hs9 (k:=4) rfl
 clear hs9
 go_wp2_with (first | (refine wpList_store_row rfl 23 (.tmp 2) (.tmp 33) rfl (w.heap.size+1) #[.int .i64 (1+o % 4),.int .i64 (1024+m1+m2),.int .i64 (1024+m1),.int .i64 (1024+m1+m2+m3),.int .i64 (1+m4)] rfl rfl 23 _ (show w9.heap[w.heap.size+1]? = some (.cells _ 23 (0,0)) from hz) (by kernel_rfl) rfl (by first | rfl | decide | simp [Value.oneCell']) ?_))
 exact bodyPost_ret (v:=.agg #[.int .i64 (1+o % 4),.int .i64 (1024+m1+m2),.int .i64 (1024+m1),.int .i64 (1024+m1+m2+m3),.int .i64 (1+m4)]) (by simp [results,Tryz.results14,go_sem,z0,z1,z2,z3,z4]) rfl ⟨by rw [oe],HW9.out⟩
end Go.Proofs.YtekjflfkbgklhaaGreat
namespace Go.Proofs.YtekjflfkbgklhaaGreat
open Go.ChangeShapes Go.WideShapes Go.ChangeAt Go.RowKit
set_option linter.unusedVariables false
set_option linter.unusedSimpArgs false
set_option maxRecDepth 100000
attribute [local irreducible] Calls
theorem made_bd (fi le mo:Int):1024 ≤ leC le∧leC le ≤ 5119∧leC le ≤ fiC fi le∧fiC fi le ≤ leC le+32767∧fiC fi le ≤ moC mo fi le∧moC mo fi le ≤ fiC fi le+65535:=by
 have b1:=magC_bd le (n:=4096) (by decide)
 have b2:=magC_bd fi (n:=32768) (by decide)
 have b3:=magC_bd mo (n:=65536) (by decide)
 unfold moC
 unfold fiC
 unfold leC
 omega
def bdH:Nat→Int
 | 0=>2147483647
 | k+1=>bdH k / 2
theorem bdH31:bdH 31 = 0:=by decide
theorem bdH_le:∀ k,bdH k ≤ 2147483647
 | 0=>Int.le_refl _
 | k+1=>by
  have:=bdH_le k
  show bdH k / 2 ≤ 2147483647
  omega
theorem w64_has {x:Int} (h:IntKind.has .i64 x):W64 x:=by
 unfold W64
 unfold IntKind.has at h
 simp [IntKind.min,IntKind.max,IntKind.signed,IntKind.bits] at h
 omega
theorem w64_wf {x:Int} (h:(Lit.int .i64 x).wf = true):W64 x:=by
 apply w64_has
 simpa [Lit.wf,IntKind.has] using h
theorem size_bd (s:Int):1 ≤ 1+(s.tmod 2147483647+2147483647).tmod 2147483647∧1+(s.tmod 2147483647+2147483647).tmod 2147483647 ≤ 2147483647∧-2147483647 < s.tmod 2147483647∧s.tmod 2147483647 < 2147483647:=by
 have h1:=Int.tmod_lt_of_pos s (b:=2147483647) (by decide)
 have h2:-2147483647 < s.tmod 2147483647:=by
  have:=Int.tmod_lt_of_pos (-s) (b:=2147483647) (by decide)
  rw [Int.neg_tmod] at this
  omega
 have h3:(s.tmod 2147483647+2147483647).tmod 2147483647 = (s.tmod 2147483647+2147483647) % 2147483647:=Int.tmod_eq_emod_of_nonneg (by omega)
 omega
set_option maxHeartbeats 64000000 in
theorem ssizes (a0_0 a0_1 a0_2 a0_3 a0_4:Int) (w0:∀ x ∈ [a0_0,a0_1,a0_2,a0_3,a0_4],IntKind.has .i64 x) (a1:Int) (w1:(Lit.int .i64 a1).wf = true) (w:World) :
  Calls Tryz.prog 7 #[.agg #[.int .i64 a0_0,.int .i64 a0_1,.int .i64 a0_2,.int .i64 a0_3,.int .i64 a0_4],.int .i64 a1] w fun e w'=>e = .returned (.bool true)∧Below w.heap.size w w':=by
 have KM:=Lib.hid (fun w=>made13_ok a0_0 a0_1 a0_2 a0_3 a0_4 w (w64_has (w0 _ (by simp))) (w64_has (w0 _ (by simp))) (w64_has (w0 _ (by simp))) (w64_has (w0 _ (by simp))) (w64_has (w0 _ (by simp))))
 obtain ⟨b1,b2,b3,b4,b5,b6⟩:=made_bd a0_1 a0_2 a0_3
 obtain ⟨s1,s2,s3,s4⟩:=size_bd a1
 obtain ⟨O,hO⟩:∃ O:Int,((ordC a0_0:Nat):Int) = O:=⟨_,rfl⟩
 obtain ⟨F,hF⟩:∃ F,fiC a0_1 a0_2 = F:=⟨_,rfl⟩
 obtain ⟨l,hl⟩:∃ F,leC a0_2 = F:=⟨_,rfl⟩
 obtain ⟨M,hM⟩:∃ F,moC a0_3 a0_1 a0_2 = F:=⟨_,rfl⟩
 obtain ⟨V,hV⟩:∃ F,wiC a0_4 = F:=⟨_,rfl⟩
 rw [hO,hF,hl,hM,hV] at KM
 rw [hF] at b3 b4 b5 b6
 rw [hl] at b1 b2 b3 b4
 rw [hM] at b5 b6
 clear hO hF hl hM hV w0
 have HB:=Lib.hid (And.intro b1 (And.intro b2 (And.intro b3 (And.intro b4 (And.intro b5 b6)))))
 have HS:=Lib.hid (And.intro s1 s2)
 have e1:IntKind.i64.wrap (a1.tmod 2147483647) = a1.tmod 2147483647:=wrapJ _ (by omega) (by omega)
 have e2:IntKind.i64.wrap (a1.tmod 2147483647+2147483647) = a1.tmod 2147483647+2147483647:=wrapJ _ (by omega) (by omega)
 have e4:IntKind.i64.wrap (1+(a1.tmod 2147483647+2147483647).tmod 2147483647) = 1+(a1.tmod 2147483647+2147483647).tmod 2147483647:=wrapJ _ (by omega) (by omega)
 have e3:IntKind.i64.wrap ((a1.tmod 2147483647+2147483647).tmod 2147483647) = (a1.tmod 2147483647+2147483647).tmod 2147483647:=wrapJ _ (by omega) (by omega)
 clear b1 b2 b3 b4 b5 b6
 have HW:=Lib.hid (Below.refl w.heap.size w)
 have hE:Below w.heap.size w (w.alloc (.cells #[.int .i64 a0_0,.int .i64 a0_1,.int .i64 a0_2,.int .i64 a0_3,.int .i64 a0_4] 23)):=(Below.refl _ _).alloc (Nat.le_refl _) _
 have HA:=Lib.hid (show Blk (w.alloc (.cells #[.int .i64 a0_0,.int .i64 a0_1,.int .i64 a0_2,.int .i64 a0_3,.int .i64 a0_4] 23)) w.heap.size (.cells #[.int .i64 a0_0,.int .i64 a0_1,.int .i64 a0_2,.int .i64 a0_3,.int .i64 a0_4] 23) from World.alloc_heap_new w _)
 have HW:=Lib.hid hE
 clear hE
 go_enter Tryz.func7,Tryz.ntmps7
 go_wp2_with (fail)
 refine (sanity13 _).mono ?_
 rintro e w2 ⟨rfl,hB2⟩
 have HA:=Lib.hid (HA.out.grow hB2)
 have HW:=Lib.hid (below_then HW.out hB2)
 clear hB2
 have c0:=heapN_cellj HA.out (k:=0) rfl
 have c1:=heapN_cellj HA.out (k:=1) rfl
 have c2:=heapN_cellj HA.out (k:=2) rfl
 have c3:=heapN_cellj HA.out (k:=3) rfl
 have c4:=heapN_cellj HA.out (k:=4) rfl
 go_wp2_with (fail)
 refine (KM.out _).mono ?_
 rintro e w3 ⟨rfl,hB3⟩
 have HW:=Lib.hid (below_then HW.out hB3)
 clear hB3 c0 c1 c2 c3 c4 HA
 go_wp2_with (fail)
 have hz1:1 ≤ 1+a1.tmod 2147483647 % 2147483647:=by omega
 have hz2:1+a1.tmod 2147483647 % 2147483647 ≤ 2147483647:=by omega
 generalize 1+a1.tmod 2147483647 % 2147483647 = z at *
 obtain ⟨W4,eW4⟩:∃ W,w3.alloc (.cells #[.int .i64 O,.int .i64 F,.int .i64 l,.int .i64 M,.int .i64 V] 23) = W:=⟨_,rfl⟩
 have h4:Below w3.heap.size w3 W4:=by rw [← eW4]; exact (Below.refl _ _).alloc (Nat.le_refl _) _
 have HA:=Lib.hid (show Blk W4 w3.heap.size (.cells #[.int .i64 O,.int .i64 F,.int .i64 l,.int .i64 M,.int .i64 V] 23) from by rw [← eW4]; exact World.alloc_heap_new w3 _)
 have HW:=Lib.hid (below_then HW.out h4)
 rw [eW4]
 obtain ⟨b1,b2,b3,b4,b5,b6⟩:=HB.out
 have KI:=Lib.hid (fun w=>initial_ok O F l M V z w (by omega) (by omega) ⟨by omega,by omega⟩)
 have KG:=Lib.hid (fun w=>grow_ok O F l M V z w (by omega) (by omega) ⟨by omega,by omega⟩)
 have KS:=Lib.hid (fun h w (a:0 ≤ h) (b:h < 4294967296)=>shrink_ok O F l M V h w a b (by omega) (by omega))
 have HP:=Lib.hid (show 1 ≤ min F z∧min F z ≤ F∧min F z ≤ z by omega)
 have HQ:=Lib.hid (show 1 ≤ min (2 * z) M∧min (2 * z) M ≤ M∧min (2 * z) M ≤ 2 * z∧min z M ≤ min (2 * z) M by omega)
 have HZ:=Lib.hid (And.intro hz1 hz2)
 obtain ⟨p,hp⟩:∃ p,min F z = p:=⟨_,rfl⟩
 obtain ⟨q,hq⟩:∃ p,min (2 * z) M = p:=⟨_,rfl⟩
 rw [hp] at KI HP
 rw [hq] at KG HQ
 clear hp hq h4 eW4 b1 b2 b3 b4 b5 b6 hz1 hz2 s1 s2 s3 s4 e1 e2 e3 e4 HS KM w1
 have c0:=fun g:Grown W4=>heapN_cellj (HA.out.grow g.h) (k:=0) rfl
 have c1:=fun g:Grown W4=>heapN_cellj (HA.out.grow g.h) (k:=1) rfl
 have c2:=fun g:Grown W4=>heapN_cellj (HA.out.grow g.h) (k:=2) rfl
 have c3:=fun g:Grown W4=>heapN_cellj (HA.out.grow g.h) (k:=3) rfl
 have c4:=fun g:Grown W4=>heapN_cellj (HA.out.grow g.h) (k:=4) rfl
 refine region_pred (lk [(23,fun z_ _=>z_ = .agg #[.int .i64 O,.int .i64 F,.int .i64 l,.int .i64 M,.int .i64 V]),(24,fun z_ _=>z_ = .int .i64 z),(25,fun z_ _=>z_ = .int .i64 p),(26,fun z_ _=>z_ = .agg #[.int .i64 O,.int .i64 F,.int .i64 l,.int .i64 M,.int .i64 V]),(27,fun z_ _=>z_ = .int .i64 z),(28,fun z_ _=>z_ = .int .i64 q),(8,fun z_ _=>z_ = .int .i64 p),(9,fun z_ _=>z_ = .int .i64 q)]) (by kernel_rfl) (by kernel_rfl) (lk_steady _ ⟨steady_eq _,steady_eq _,steady_eq _,steady_eq _,steady_eq _,steady_eq _,steady_eq _,steady_eq _,trivial⟩) ?_ ?_
 ·refine ⟨?_,?_,?_,?_,?_,?_,?_,?_,trivial⟩
  ·refine ob_plain [6] rfl rfl fun aa g h=>?_
   have yy0:=seen_out (v:=.pointer (some ⟨w3.heap.size,0,none⟩)) rfl rfl h.1
   exact tvS (by simp [go_sem,yy0,c0 g,c1 g,c2 g,c3 g,c4 g]) rfl
  ·refine ob_plain [7] rfl rfl fun aa g h=>?_
   have yy0:=seen_out (v:=.int .i64 z) rfl rfl h.1
   exact tvS (by simp [go_sem,yy0]) rfl
  ·refine ob_plain [23,24] rfl rfl fun aa g h=>?_
   obtain ⟨_,yy0,rfl⟩:=seen_in rfl h.1
   obtain ⟨_,yy1,rfl⟩:=seen_in rfl h.2.1
   refine tupon_enter (f:=21) (args:=#[.agg #[.int .i64 O,.int .i64 F,.int .i64 l,.int .i64 M,.int .i64 V],.int .i64 z]) (by simp [go_sem,yy0,yy1]) rfl ?_
   exact (KI.out g.w).mono fun e w' ⟨he,hB⟩=>⟨_,he,hB,rfl⟩
  ·refine ob_plain [6] rfl rfl fun aa g h=>?_
   have yy0:=seen_out (v:=.pointer (some ⟨w3.heap.size,0,none⟩)) rfl rfl h.1
   exact tvS (by simp [go_sem,yy0,c0 g,c1 g,c2 g,c3 g,c4 g]) rfl
  ·refine ob_plain [7] rfl rfl fun aa g h=>?_
   have yy0:=seen_out (v:=.int .i64 z) rfl rfl h.1
   exact tvS (by simp [go_sem,yy0]) rfl
  ·refine ob_plain [26,27] rfl rfl fun aa g h=>?_
   obtain ⟨_,yy0,rfl⟩:=seen_in rfl h.1
   obtain ⟨_,yy1,rfl⟩:=seen_in rfl h.2.1
   refine tupon_enter (f:=19) (args:=#[.agg #[.int .i64 O,.int .i64 F,.int .i64 l,.int .i64 M,.int .i64 V],.int .i64 z]) (by simp [go_sem,yy0,yy1]) rfl ?_
   exact (KG.out g.w).mono fun e w' ⟨he,hB⟩=>⟨_,he,hB,rfl⟩
  ·refine ob_plain [25] rfl rfl fun aa g h=>?_
   obtain ⟨_,yy0,rfl⟩:=seen_in rfl h.1
   exact tvS (by simp [go_sem,yy0]) rfl
  ·refine ob_plain [28] rfl rfl fun aa g h=>?_
   obtain ⟨_,yy0,rfl⟩:=seen_in rfl h.1
   exact tvS (by simp [go_sem,yy0]) rfl
 rintro w5 hB _ rfl _ rfl _ rfl _ rfl _ rfl _ rfl _ rfl _ rfl
 simp only [Act.put,List.setIfInBounds_toArray,List.set_cons_succ,List.set_cons_zero,List.filterMap_nil,finP]
 have HA:=Lib.hid (HA.out.grow hB)
 have HW:=Lib.hid (below_then HW.out hB)
 clear hB c0 c1 c2 c3 c4
 have c0:=heapN_cellj HA.out (k:=0) rfl
 have c1:=heapN_cellj HA.out (k:=1) rfl
 have c2:=heapN_cellj HA.out (k:=2) rfl
 have c3:=heapN_cellj HA.out (k:=3) rfl
 have c4:=heapN_cellj HA.out (k:=4) rfl
 obtain ⟨p1,p2,p3⟩:=HP.out
 obtain ⟨q1,q2,q3,q4⟩:=HQ.out
 obtain ⟨z1,z2⟩:=HZ.out
 have e2:IntKind.i64.wrap (2 * z) = 2 * z:=wrapJ _ (by omega) (by omega)
 go_wp2_with (fail)
 all_goals
  have HW1:=Lib.hid HW.out
  clear c0 c1 c2 c3 c4 p1 p2 p3 q1 q2 q3 q4 KI KG HP HQ
  go_loopw [7,10] (fun x i wr=>∃ (k:Nat) (h:Int),i = .int .i64 k∧k ≤ 31∧x = .int .i64 h∧Hid (1 ≤ h∧h ≤ bdH k)∧Hid (Below w.heap.size w wr)∧Hid (Blk wr w3.heap.size (.cells #[.int .i64 O,.int .i64 F,.int .i64 l,.int .i64 M,.int .i64 V] 23))) (fun _ i _=>32 - (intOf i).toNat)
  case atStart=>exact ⟨0,z,rfl,by decide,rfl,Lib.hid ⟨z1,z2⟩,HW1,HA⟩
  case round =>
   obtain ⟨k,h,rfl,hk,rfl,HH,HB1,HA1⟩:=hrel
   obtain ⟨h1,h2⟩:=HH.out
   have h3:bdH k ≤ 2147483647:=bdH_le k
   have hk30:k < 31:=by
    rcases Nat.lt_or_ge k 31 with hh | hh
    ·exact hh
    ·obtain rfl:k = 31:=by omega
     rw [bdH31] at h2
     omega
   have h4:(k:Int) < 32:=by omega
   obtain ⟨b1,b2,b3,b4,b5,b6⟩:=HB.out
   have e5:IntKind.i64.wrap (2 * l) = 2 * l:=wrapJ _ (by omega) (by omega)
   have e6:IntKind.i64.wrap (2 * (h / 2)) = 2 * (h / 2):=wrapJ _ (by omega) (by omega)
   have e7:IntKind.i64.wrap (h - 1) = h - 1:=wrapJ _ (by omega) (by omega)
   have e8:IntKind.i64.wrap ((k:Int)+1) = ((k+1:Nat):Int):=wrapJ _ (by omega) (by omega)
   have KS1:=Lib.hid (KS.out h wr (by omega) (by omega))
   have c0:=heapN_cellj HA1.out (k:=0) rfl
   have c1:=heapN_cellj HA1.out (k:=1) rfl
   have c2:=heapN_cellj HA1.out (k:=2) rfl
   have c3:=heapN_cellj HA1.out (k:=3) rfl
   have c4:=heapN_cellj HA1.out (k:=4) rfl
   have h5:h / 2 ≤ bdH (k+1):=by
    show h / 2 ≤ bdH k / 2
    omega
   by_cases hd:h / 2 < l
   ·rw [if_pos hd] at KS1
    have h6:h < 2 * l:=by omega
    go_wp2_with (fail)
    refine KS1.out.mono ?_
    rintro e w9 ⟨rfl,hB9⟩
    have HB9:=Lib.hid (below_then HB1.out hB9)
    have HA9:=Lib.hid (HA1.out.grow hB9)
    clear c0 c1 c2 c3 c4 hB9
    have c2:=heapN_cellj HA9.out (k:=2) rfl
    go_wp2_with (fail)
    go_ret
    exact ⟨rfl,HB9.out⟩
   ·rw [if_neg hd] at KS1
    have h6:1 ≤ h / 2:=by omega
    go_wp2_with (fail)
    refine KS1.out.mono ?_
    rintro e w9 ⟨rfl,hB9⟩
    have HB9:=Lib.hid (below_then HB1.out hB9)
    have HA9:=Lib.hid (HA1.out.grow hB9)
    clear c0 c1 c2 c3 c4 hB9
    have c2:=heapN_cellj HA9.out (k:=2) rfl
    go_wp2_with (fail)
    go_roundw
    case rel=>exact ⟨k+1,h / 2,rfl,by omega,rfl,Lib.hid ⟨h6,h5⟩,HB9,HA9⟩
    case measure=>simp [intOf]; omega
end Go.Proofs.YtekjflfkbgklhaaGreat
