/-
 Sb Box
-/
import Derived.Test.YtekjflfkbgklhaaGreatKca
import Derived.Test.YtekjflfkbgklhaaGreatKcd
import Derived.Test.YtekjflfkbgklhaaGreatKce
import Derived.Test.YtekjflfkbgklhaaGreatKcf
import Derived.Test.YtekjflfkbgklhaaGreatKcj
import Derived.Test.YtekjflfkbgklhaaGreatKcp
import Derived.Test.YtekjflfkbgklhaaGreatKcq
import Derived.Test.YtekjflfkbgklhaaGreatKcr
import Derived.Maps.AppendAt
import Derived.Laws.OwnMore
namespace Go.Proofs.YtekjflfkbgklhaaGreat
open Go.ChangeShapes Go.WideShapes Go.ChangeAt Go.RowKit
set_option linter.unusedVariables false
set_option linter.unusedSimpArgs false
set_option maxRecDepth 100000
attribute [local irreducible] Calls
theorem oth_at (W:World) (X k:Nat) (v:Value):Oth X W (W.setCell ⟨X,k,none⟩ v) :=
 have h:=grownBy_setN W ⟨X,k,none⟩ v
 ⟨h.os,h.tape,h.output,h.size,fun j hj hn=>h.block j hj (fun e=>hn (Option.some.inj e))⟩
theorem set2 {t:TypeId} {W:World} {X:Nat} {u0 u1:Value} (h:W.heap[X]? = some (.cells #[u0,u1] t (0,0))) (a b:Value):∃ W',(W.setCell ⟨X,0,none⟩ a).setCell ⟨X,1,none⟩ b = W'∧W'.heap[X]? = some (.cells #[a,b] t (0,0))∧Oth X W W' :=
 ⟨_,rfl,cellsT_setN (o:=1) (u:=b) (cellsT_setN (o:=0) (u:=a) h),(oth_at W X 0 a).trans (oth_at _ X 1 b)⟩
theorem Oth.blk' {X k:Nat} {W W':World} {o:Obj} (h:Oth X W W') (hb:W.heap[k]? = some o) (hne:k ≠ X):W'.heap[k]? = some o:=(h.blk k (Array.getElem?_eq_some_iff.1 hb).1 hne).trans hb
theorem Oth.bel {X B:Nat} {W0 W W':World} (h:Oth X W W') (hb:Below B W0 W) (hX:B ≤ X) (hB:B ≤ W.heap.size):Below B W0 W':=hb.trans (h.below hX hB)
theorem op_add (a b c d:Int):opI 7 (a,b) (c,d) = (addLo a b c d,addHi a b c d):=by simp [opI]
theorem op_sub (a b c d:Int):opI 8 (a,b) (c,d) = (addLo a b (-d) (-c),addHi a b (-d) (-c)):=by simp [opI]
theorem op_mul (a b c d:Int):opI 9 (a,b) (c,d) = (mulLo a b c d,mulHi a b c d):=by simp [opI]
theorem op_div (a b c d:Int):opI 10 (a,b) (c,d) = (divLo a b c d,divHi a b c d):=by simp [opI]
theorem op_sqr (a b:Int) (q:Int × Int):opI 5 (a,b) q = (sqLo a b,sqHi a b):=by simp [opI]
theorem op_neg (a b:Int) (q:Int × Int):opI 4 (a,b) q = (-b,-a):=by simp [opI]
theorem g_of {l:List (Int × Int)} {i:Nat} (h:i < l.length):l[i]? = some ((gI l i).1,(gI l i).2):=by
 unfold gI
 rw [List.getD_eq_getElem?_getD,List.getElem?_eq_getElem h]
 rfl
theorem pt0_ok (w:World):Calls Tryz.prog 75 #[.int .i64 0] w fun e w'=>e = .returned (.agg #[.int .i64 0,.int .i64 0])∧Below w.heap.size w w':=iv_point 0 w
theorem pt1_ok (w:World):Calls Tryz.prog 75 #[.int .i64 65536] w fun e w'=>e = .returned (.agg #[.int .i64 65536,.int .i64 65536])∧Below w.heap.size w w':=iv_point 65536 w
theorem wrap64_1 {q:Nat} (h:q ≤ 10000000):wrap64 ((q:Int)+1) = ((q+1:Nat):Int):=by unfold wrap64; omega
theorem intOf_i (n:Int):intOf (.int .i64 n) = n:=rfl
theorem meas1 {M q:Nat} (h:q < M):M - ((q+1:Nat):Int).toNat < M - (q:Int).toNat:=by omega
theorem wrapS {a b:Nat} (h:b ≤ a) (ha:a ≤ 1000000):IntKind.i64.wrap ((a:Int) - (b:Int)) = ((a - b:Nat):Int):=by
 rw [wrapN _ (by omega) (by omega)]
 omega

def domV:Array Value:=#[.func (.func 148) #[] #[],.func (.func 148) #[] #[],.func (.func 149) #[] #[],.func (.func 150) #[] #[],.func (.func 143) #[] #[],.func (.func 151) #[] #[],.func (.func 144) #[] #[],.func (.func 144) #[] #[],.func (.func 152) #[] #[]]
theorem dom_ok (w:World):Calls Tryz.prog 123 #[] w fun e w'=>e = .returned (.agg domV)∧Below w.heap.size w w':=by
 have hB:Below w.heap.size w (w.alloc (.cells domV 144)):=(Below.refl _ _).alloc (Nat.le_refl _) _
 have hx:=World.alloc_heap_new w (.cells domV 144)
 unfold domV at *
 have x0:=heapN_cellj hx (k:=0) rfl
 have x1:=heapN_cellj hx (k:=1) rfl
 have x2:=heapN_cellj hx (k:=2) rfl
 have x3:=heapN_cellj hx (k:=3) rfl
 have x4:=heapN_cellj hx (k:=4) rfl
 have x5:=heapN_cellj hx (k:=5) rfl
 have x6:=heapN_cellj hx (k:=6) rfl
 have x7:=heapN_cellj hx (k:=7) rfl
 have x8:=heapN_cellj hx (k:=8) rfl
 have HB:=Lib.hid hB
 clear hB hx
 go_enter Tryz.func123,Tryz.ntmps123
 go_wp2_with (fail)
 exact bodyPost_ret (v:=.agg domV) (by simp [results,Tryz.results123,go_sem,domV,x0,x1,x2,x3,x4,x5,x6,x7,x8]) rfl ⟨rfl,HB.out⟩
theorem same_ok (a b:Int) (w:World):Calls Tryz.prog 148 #[.agg #[.int .i64 a,.int .i64 b]] w fun e w'=>e = .returned (.agg #[.int .i64 a,.int .i64 b])∧Below w.heap.size w w':=by
 have HB:=Lib.hid (show Below w.heap.size w ((w.alloc (.cells #[.int .i64 a,.int .i64 b] 59)).alloc (.cells #[.int .i64 a,.int .i64 b] 59)) from allocs_below [.cells #[.int .i64 a,.int .i64 b] 59,.cells #[.int .i64 a,.int .i64 b] 59] w)
 have hx:((w.alloc (.cells #[.int .i64 a,.int .i64 b] 59)).alloc (.cells #[.int .i64 a,.int .i64 b] 59)).heap[w.heap.size+1]? = some (.cells #[.int .i64 a,.int .i64 b] 59 (0,0)):=allocs_at [.cells #[.int .i64 a,.int .i64 b] 59,.cells #[.int .i64 a,.int .i64 b] 59] w 1 _ rfl
 have x0:=heapN_cellj hx (k:=0) rfl
 have x1:=heapN_cellj hx (k:=1) rfl
 clear hx
 go_enter Tryz.func148,Tryz.ntmps148
 go_wp2_with (fail)
 exact bodyPost_ret (v:=.agg #[.int .i64 a,.int .i64 b]) (by simp [results,Tryz.results148,go_sem,x0,x1]) rfl ⟨rfl,HB.out⟩
theorem over_ok (a b n:Int) (w:World) (hv:VI a b) (h1:1 ≤ n) (h2:n ≤ 1000000):Calls Tryz.prog 152 #[.agg #[.int .i64 a,.int .i64 b],.int .i64 n] w fun e w'=>e = .returned (.agg #[.int .i64 (mrN 1 n (a,b)).1,.int .i64 (mrN 1 n (a,b)).2])∧Below w.heap.size w w':=by
 unfold mrN
 have KM:=Lib.hid (fun w=>iv_mulratio a b 1 n w hv (by decide) (by decide) h1 (by omega))
 obtain ⟨c,hc⟩:∃ c,mrLo a b 1 n = c:=⟨_,rfl⟩
 obtain ⟨d,hd⟩:∃ d,mrHi a b 1 n = d:=⟨_,rfl⟩
 dsimp only
 rw [hc,hd] at KM ⊢
 clear hc hd
 have HB:=Lib.hid (show Below w.heap.size w ((w.alloc (.cells #[.int .i64 a,.int .i64 b] 59)).alloc (.cells #[.int .i64 0,.int .i64 0] 59)) from allocs_below [.cells #[.int .i64 a,.int .i64 b] 59,.cells #[.int .i64 0,.int .i64 0] 59] w)
 have HX:=Lib.hid (show Blk ((w.alloc (.cells #[.int .i64 a,.int .i64 b] 59)).alloc (.cells #[.int .i64 0,.int .i64 0] 59)) (w.heap.size+1) (.cells #[.int .i64 0,.int .i64 0] 59) from allocs_at [.cells #[.int .i64 a,.int .i64 b] 59,.cells #[.int .i64 0,.int .i64 0] 59] w 1 _ rfl)
 go_enter Tryz.func152,Tryz.ntmps152
 go_wp2_with (fail)
 refine (KM.out _).mono ?_
 rintro e w1 ⟨rfl,hB⟩
 have hx:=HX.out.grow hB
 have hb:=below_then HB.out hB
 have q0:=heapN_cellj hx (k:=0) rfl
 have q1:=heapN_cellj hx (k:=1) rfl
 have y0:w1.frozen? ⟨w.heap.size+1,0,none⟩ = false:=by simp [World.frozen?,show w1.heap[w.heap.size+1]? = _ from hx]
 have y1:w1.frozen? ⟨w.heap.size+1,1,none⟩ = false:=by simp [World.frozen?,show w1.heap[w.heap.size+1]? = _ from hx]
 have HW:=Lib.hid ((hb.setCell (p:=⟨w.heap.size+1,0,none⟩) (by dsimp only; omega) (.int .i64 c)).setCell (p:=⟨w.heap.size+1,1,none⟩) (by dsimp only; omega) (.int .i64 d))
 have hs:=cellsT_setN (o:=1) (u:=.int .i64 d) (cellsT_setN (o:=0) (u:=.int .i64 c) hx)
 have x0:=heapN_cellj hs (k:=0) (u:=.int .i64 c) rfl
 have x1:=heapN_cellj hs (k:=1) (u:=.int .i64 d) rfl
 clear hB hb hx hs
 go_wp2_with (fail)
 exact bodyPost_ret (v:=.agg #[.int .i64 c,.int .i64 d]) (by simp [results,Tryz.results152,go_sem,x0,x1]) rfl ⟨rfl,HW.out⟩
set_option maxHeartbeats 16000000 in
theorem conv_ok (va vb:Value) (A B:List (Int × Int)) (k f N:Nat) (last:Int) (w:World) (hA:Vx w va A) (hB:Vx w vb B) (vA:AV A) (vB:AV B) (hi:∀ n,n < N→f+n < A.length∧k - (f+n) < B.length∧f+n ≤ k) (hk:k ≤ 100000) (hf:f ≤ 1000) (hN:N ≤ 100000) (hl:last = (f:Int)+N - 1) :
  Calls Tryz.prog 166 #[.agg domV,va,vb,.int .i64 k,.int .i64 f,.int .i64 last] w fun e w'=>e = .returned (.agg #[.int .i64 (cvI A B k f N).1,.int .i64 (cvI A B k f N).2])∧Below w.heap.size w w':=by
 obtain ⟨pa,ca,rfl⟩:=hA.cut
 obtain ⟨pb,cb,rfl⟩:=hB.cut
 have hvc:=cvI_vi vA vB k f
 have HVC:=Lib.hid hvc
 have HVA:=Lib.hid vA
 have HVB:=Lib.hid vB
 have HI:=Lib.hid hi
 have HLA:=Lib.hid hl
 obtain ⟨M,hM⟩:∃ M,f+N = M:=⟨_,rfl⟩
 have HM:=Lib.hid hM
 clear hM
 have hE:Below w.heap.size w ((w.alloc (.cells domV 144)).alloc (.cells #[.int .i64 0,.int .i64 0] 59)):=allocs_below [.cells domV 144,.cells #[.int .i64 0,.int .i64 0] 59] w
 have HD:=Lib.hid (show Blk ((w.alloc (.cells domV 144)).alloc (.cells #[.int .i64 0,.int .i64 0] 59)) w.heap.size (.cells domV 144) from allocs_at [.cells domV 144,.cells #[.int .i64 0,.int .i64 0] 59] w 0 _ rfl)
 have HR:=Lib.hid (show Blk ((w.alloc (.cells domV 144)).alloc (.cells #[.int .i64 0,.int .i64 0] 59)) (w.heap.size+1) (.cells #[.int .i64 0,.int .i64 0] 59) from allocs_at [.cells domV 144,.cells #[.int .i64 0,.int .i64 0] 59] w 1 _ rfl)
 have HA:=Lib.hid (hA.grow hE)
 have HB:=Lib.hid (hB.grow hE)
 have HW:=Lib.hid hE
 unfold domV at HD HR HA HB HW
 clear hE hA hB vA vB hvc hi hl
 go_enter Tryz.func166,Tryz.ntmps166
 unfold domV
 go_wp2_with (fail)
 generalize hW0:World.alloc (World.alloc w _) _ = W0 at *
 clear hW0
 have d0:=fun g:Grown W0=>heapN_cellj (HD.out.grow g.h) (k:=0) rfl
 have d1:=fun g:Grown W0=>heapN_cellj (HD.out.grow g.h) (k:=1) rfl
 have d2:=fun g:Grown W0=>heapN_cellj (HD.out.grow g.h) (k:=2) rfl
 have d3:=fun g:Grown W0=>heapN_cellj (HD.out.grow g.h) (k:=3) rfl
 have d4:=fun g:Grown W0=>heapN_cellj (HD.out.grow g.h) (k:=4) rfl
 have d5:=fun g:Grown W0=>heapN_cellj (HD.out.grow g.h) (k:=5) rfl
 have d6:=fun g:Grown W0=>heapN_cellj (HD.out.grow g.h) (k:=6) rfl
 have d7:=fun g:Grown W0=>heapN_cellj (HD.out.grow g.h) (k:=7) rfl
 have d8:=fun g:Grown W0=>heapN_cellj (HD.out.grow g.h) (k:=8) rfl
 refine region_pred_l (lk [(15,fun z_ _=>z_ = .pointer (some ⟨w.heap.size,0,none⟩)),(16,fun z_ _=>z_ = .func (.func 148) #[] #[]),(17,fun z_ _=>z_ = .agg #[.int .i64 0,.int .i64 0]),(18,fun z_ _=>z_ = .agg #[.int .i64 0,.int .i64 0]),(13,fun z_ w'=>∃ X_,z_ = .pointer (some ⟨X_,0,none⟩)∧W0.heap.size ≤ X_∧w'.heap[X_]? = some (.cells #[.int .i64 0,.int .i64 0] 59 (0,0)))]) 5 _ rfl (by kernel_rfl) (by kernel_rfl) (by kernel_rfl) (lk_steady _ ⟨steady_eq _,steady_eq _,steady_eq _,steady_eq _,fun u w1 w2 hb ⟨X,e,h1,h2⟩=>⟨X,e,h1,(hb.block X (Array.getElem?_eq_some_iff.1 h2).1).trans h2⟩,trivial⟩) ?_ ?_
 ·refine ⟨?_,?_,?_,?_,?_,?_,trivial⟩
  ·refine fun _=>ob_plain [6] rfl rfl fun _ g h=>?_
   have yy0:=seen_out (v:=.pointer (some ⟨w.heap.size,0,none⟩)) rfl rfl h.1
   exact tvS (by simp [go_sem,yy0]) rfl
  ·refine fun _=>ob_plain [15] rfl rfl fun _ g h=>?_
   obtain ⟨_,yy0,rfl⟩:=seen_in rfl h.1
   exact tvS (by simp [go_sem,yy0,d0 g]) rfl
  ·refine fun _=>ob_plain [] rfl rfl fun _ g h=>?_
   refine tupon_enter (f:=75) (args:=#[.int .i64 0]) (by simp [go_sem]) rfl ?_
   exact (pt0_ok g.w).mono fun e w' ⟨he,hB⟩=>⟨_,he,hB,rfl⟩
  ·refine fun _=>ob_plain [16,17] rfl rfl fun _ g h=>?_
   obtain ⟨_,yy0,rfl⟩:=seen_in rfl h.1
   obtain ⟨_,yy1,rfl⟩:=seen_in rfl h.2.1
   refine tupon_enter (f:=148) (args:=#[.agg #[.int .i64 0,.int .i64 0]]) (by simp [go_sem,yy0,yy1]) rfl ?_
   exact (same_ok 0 0 g.w).mono fun e w' ⟨he,hB⟩=>⟨_,he,hB,rfl⟩
  ·refine fun _=>ob_plain [] rfl rfl fun _ g h=>?_
   exact tupon_value (v:=.pointer (some ⟨g.w.heap.size,0,none⟩)) (w1:=g.w.alloc (.cells #[.int .i64 0,.int .i64 0] 59)) (by simp [go_sem]) ((Below.refl _ _).alloc (Nat.le_refl _) _) ⟨_,rfl,g.h.size,World.alloc_heap_new _ _⟩
  ·exact fun h=>absurd rfl h
 rintro w5 hB _ rfl _ rfl _ rfl _ rfl _ ⟨X13,rfl,hX13,hI13⟩
 simp only [Act.put,List.setIfInBounds_toArray,List.set_cons_succ,List.set_cons_zero,List.filterMap_nil]
 have q0:=heapN_cellj hI13 (k:=0) rfl
 have y0:w5.frozen? ⟨X13,0,none⟩ = false:=by simp [World.frozen?,show w5.heap[X13]? = _ from hI13]
 have q1:=heapN_cellj hI13 (k:=1) rfl
 have y1:w5.frozen? ⟨X13,1,none⟩ = false:=by simp [World.frozen?,show w5.heap[X13]? = _ from hI13]
 refine ⟨_,by simp [go_sem,q0,y0,q1,y1]; rfl,?_⟩
 clear q0 y0 q1 y1
 obtain ⟨W1,eW1,HIW1,HOW1⟩:=set2 (h:=hI13) (.int .i64 0) (.int .i64 0)
 rw [eW1]
 clear eW1
 have hW1:=HOW1.bel hB hX13 hB.size
 have HX:=Lib.hid (show Blk W1 X13 (.cells #[.int .i64 (cvI A B k f 0).1,.int .i64 (cvI A B k f 0).2] 59) from HIW1)
 have HW1:=Lib.hid hW1
 have HX13:=Lib.hid hX13
 clear hB hI13 HIW1 HOW1 hW1 hX13
 go_wp2_with (fail)
 go_loopw [14] (fun i wr=>∃ n q:Nat,i = .int .i64 (q:Int)∧Hid (q = f+n)∧n ≤ N∧Hid (Blk wr X13 (.cells #[.int .i64 (cvI A B k f n).1,.int .i64 (cvI A B k f n).2] 59))∧Hid (Below W0.heap.size W0 wr)) (fun i _=>M - (intOf i).toNat)
 case atStart=>exact ⟨0,f,rfl,Lib.hid rfl,Nat.zero_le _,HX,HW1⟩
 case round =>
 clear HX HW1 d0 d1 d2 d3 d4 d5 d6 d7 d8
 obtain ⟨n,q,rfl,HQ,hn,HX,HBW⟩:=hrel
 have hla:=HLA.out
 have hqq:=HQ.out
 by_cases hlt:n < N
 ·have i2:(q:Int) ≤ last:=by omega
  clear hla hqq
  go_wp2_with (fail)
  obtain ⟨j1,j2,j3⟩:=HI.out n hlt
  rw [← HQ.out] at j1 j2 j3
  obtain ⟨r,hr⟩:∃ r,k - q = r:=⟨_,rfl⟩
  rw [hr] at j2
  obtain ⟨ba,oa,rfl,hba,rda⟩:=vx_rd HA.out (g_of j1)
  obtain ⟨bb,ob,rfl,hbb,rdb⟩:=vx_rd HB.out (g_of j2)
  have hs:cvI A B k f (n+1) = opI 7 (cvI A B k f n) (opI 9 (gI A (f+n)) (gI B (k - (f+n)))):=rfl
  rw [← HQ.out,hr] at hs
  have v1:=HVC.out n
  have v2:=gI_vi HVA.out q
  have v3:=gI_vi HVB.out r
  obtain ⟨s9,hs9⟩:∃ s9,cvI A B k f (n+1) = s9:=⟨_,rfl⟩
  have HS9:=Lib.hid hs9
  rw [hs9] at hs
  clear hs9
  generalize cvI A B k f n = s8 at *
  generalize gI A q = xa at *
  generalize gI B r = xb at *
  obtain ⟨s0,s1⟩:=s8
  obtain ⟨a0,a1⟩:=xa
  obtain ⟨b0,b1⟩:=xb
  obtain ⟨m,hm⟩:∃ m,opI 9 (a0,a1) (b0,b1) = m:=⟨_,rfl⟩
  have v4:=opI_vi 9 v2 v3
  rw [hm] at hs v4
  have KM:=Lib.hid (fun w=>iv_mul a0 a1 b0 b1 w v2 v3)
  obtain ⟨m0,m1⟩:=m
  obtain ⟨em0,em1⟩:=Prod.mk.inj ((op_mul a0 a1 b0 b1).symm.trans hm)
  rw [em0,em1] at KM
  have KA:=Lib.hid (fun w=>iv_add s0 s1 m0 m1 w v1 v4)
  have h7:=hs
  obtain ⟨r0,r1⟩:=s9
  obtain ⟨er0,er1⟩:=Prod.mk.inj (hs.trans (op_add s0 s1 m0 m1))
  rw [← er0,← er1] at KA
  have i3:(q:Int) < A.length:=by omega
  have i4:(r:Int) < B.length:=by omega
  have hw1:IntKind.i64.wrap ((k:Int) - (q:Int)) = (r:Int):=by rw [← hr]; exact wrapS j3 (by omega)
  have HSZ:=HBW.out.size
  have k9:=HX13.out
  clear hs hm v1 v2 v3 v4 em0 em1 er0 er1 h7 HVC hr j1 j2 j3
  obtain ⟨wq,hwq⟩:∃ wq,wq = wr:=⟨_,rfl⟩
  subst hwq
  have f0:=fun g:Grown wq=>(rda ⟨g.w,HBW.out.trans (g.h.mono HBW.out.size)⟩).1
  have f1:=fun g:Grown wq=>(rda ⟨g.w,HBW.out.trans (g.h.mono HBW.out.size)⟩).2
  have l0:=fun g:Grown wq=>(rdb ⟨g.w,HBW.out.trans (g.h.mono HBW.out.size)⟩).1
  have l1:=fun g:Grown wq=>(rdb ⟨g.w,HBW.out.trans (g.h.mono HBW.out.size)⟩).2
  dsimp only at f0 f1 l0 l1
  have HDq:=Lib.hid (HD.out.grow HBW.out)
  have d0:=fun g:Grown wq=>heapN_cellj (HDq.out.grow g.h) (k:=0) rfl
  have d1:=fun g:Grown wq=>heapN_cellj (HDq.out.grow g.h) (k:=1) rfl
  have d2:=fun g:Grown wq=>heapN_cellj (HDq.out.grow g.h) (k:=2) rfl
  have d3:=fun g:Grown wq=>heapN_cellj (HDq.out.grow g.h) (k:=3) rfl
  have d4:=fun g:Grown wq=>heapN_cellj (HDq.out.grow g.h) (k:=4) rfl
  have d5:=fun g:Grown wq=>heapN_cellj (HDq.out.grow g.h) (k:=5) rfl
  have d6:=fun g:Grown wq=>heapN_cellj (HDq.out.grow g.h) (k:=6) rfl
  have d7:=fun g:Grown wq=>heapN_cellj (HDq.out.grow g.h) (k:=7) rfl
  have d8:=fun g:Grown wq=>heapN_cellj (HDq.out.grow g.h) (k:=8) rfl
  have t0:=fun g:Grown wq=>heapN_cellj (HX.out.grow g.h) (k:=0) rfl
  have t1:=fun g:Grown wq=>heapN_cellj (HX.out.grow g.h) (k:=1) rfl
  refine region_pred_l (lk [(25,fun z_ _=>z_ = .pointer (some ⟨w.heap.size,4,none⟩)),(26,fun z_ _=>z_ = .func (.func 143) #[] #[]),(27,fun z_ _=>z_ = .agg #[.int .i64 s0,.int .i64 s1]),(28,fun z_ _=>z_ = .pointer (some ⟨w.heap.size,6,none⟩)),(29,fun z_ _=>z_ = .func (.func 144) #[] #[]),(30,fun z_ _=>z_ = .slice (some ⟨ba,oa,none⟩) A.length ca),(31,fun z_ _=>z_ = .int .i64 (q:Int)),(32,fun z_ _=>z_ = .pointer (some ⟨ba,oa+q * 2,none⟩)),(33,fun z_ _=>z_ = .agg #[.int .i64 a0,.int .i64 a1]),(34,fun z_ _=>z_ = .slice (some ⟨bb,ob,none⟩) B.length cb),(35,fun z_ _=>z_ = .int .i64 (k:Int)),(36,fun z_ _=>z_ = .int .i64 (q:Int)),(37,fun z_ _=>z_ = .int .i64 (r:Int)),(38,fun z_ _=>z_ = .pointer (some ⟨bb,ob+r * 2,none⟩)),(39,fun z_ _=>z_ = .agg #[.int .i64 b0,.int .i64 b1]),(40,fun z_ _=>z_ = .agg #[.int .i64 m0,.int .i64 m1]),(41,fun z_ _=>z_ = .agg #[.int .i64 r0,.int .i64 r1])]) 17 _ rfl (by kernel_rfl) (by kernel_rfl) (by kernel_rfl) (lk_steady _ ⟨steady_eq _,steady_eq _,steady_eq _,steady_eq _,steady_eq _,steady_eq _,steady_eq _,steady_eq _,steady_eq _,steady_eq _,steady_eq _,steady_eq _,steady_eq _,steady_eq _,steady_eq _,steady_eq _,steady_eq _,trivial⟩) ?_ ?_
  ·refine ⟨?_,?_,?_,?_,?_,?_,?_,?_,?_,?_,?_,?_,?_,?_,?_,?_,?_,?_,trivial⟩
   ·refine fun _=>ob_plain [6] rfl rfl fun _ g h=>?_
    have yy0:=seen_out (v:=.pointer (some ⟨w.heap.size,0,none⟩)) rfl rfl h.1
    exact tvS (by simp [go_sem,yy0]) rfl
   ·refine fun _=>ob_plain [25] rfl rfl fun _ g h=>?_
    obtain ⟨_,yy0,rfl⟩:=seen_in rfl h.1
    exact tvS (by simp [go_sem,yy0,d4 g]) rfl
   ·refine fun _=>ob_plain [13] rfl rfl fun _ g h=>?_
    have yy0:=seen_out (v:=.pointer (some ⟨X13,0,none⟩)) rfl rfl h.1
    exact tvS (by simp [go_sem,yy0,t0 g,t1 g]) rfl
   ·refine fun _=>ob_plain [6] rfl rfl fun _ g h=>?_
    have yy0:=seen_out (v:=.pointer (some ⟨w.heap.size,0,none⟩)) rfl rfl h.1
    exact tvS (by simp [go_sem,yy0]) rfl
   ·refine fun _=>ob_plain [28] rfl rfl fun _ g h=>?_
    obtain ⟨_,yy0,rfl⟩:=seen_in rfl h.1
    exact tvS (by simp [go_sem,yy0,d6 g]) rfl
   ·refine fun _=>ob_plain [1] rfl rfl fun _ g h=>?_
    have yy0:=seen_out (v:=.slice (some ⟨ba,oa,none⟩) A.length ca) rfl rfl h.1
    exact tvS (by simp [go_sem,yy0]) rfl
   ·refine fun _=>ob_plain [14] rfl rfl fun _ g h=>?_
    have yy0:=seen_out (v:=.int .i64 (q:Int)) rfl rfl h.1
    exact tvS (by simp [go_sem,yy0]) rfl
   ·refine fun _=>ob_plain [30,31] rfl rfl fun _ g h=>?_
    obtain ⟨_,yy0,rfl⟩:=seen_in rfl h.1
    obtain ⟨_,yy1,rfl⟩:=seen_in rfl h.2.1
    exact tvS (by simp [go_sem,yy0,yy1,i3]) rfl
   ·refine fun _=>ob_plain [32] rfl rfl fun _ g h=>?_
    obtain ⟨_,yy0,rfl⟩:=seen_in rfl h.1
    exact tvS (by simp [go_sem,yy0,f0 g,f1 g]) rfl
   ·refine fun _=>ob_plain [2] rfl rfl fun _ g h=>?_
    have yy0:=seen_out (v:=.slice (some ⟨bb,ob,none⟩) B.length cb) rfl rfl h.1
    exact tvS (by simp [go_sem,yy0]) rfl
   ·refine fun _=>ob_plain [3] rfl rfl fun _ g h=>?_
    have yy0:=seen_out (v:=.int .i64 (k:Int)) rfl rfl h.1
    exact tvS (by simp [go_sem,yy0]) rfl
   ·refine fun _=>ob_plain [14] rfl rfl fun _ g h=>?_
    have yy0:=seen_out (v:=.int .i64 (q:Int)) rfl rfl h.1
    exact tvS (by simp [go_sem,yy0]) rfl
   ·refine fun _=>ob_plain [35,36] rfl rfl fun _ g h=>?_
    obtain ⟨_,yy0,rfl⟩:=seen_in rfl h.1
    obtain ⟨_,yy1,rfl⟩:=seen_in rfl h.2.1
    exact tvS (by simp [go_sem,yy0,yy1,hw1]) rfl
   ·refine fun _=>ob_plain [34,37] rfl rfl fun _ g h=>?_
    obtain ⟨_,yy0,rfl⟩:=seen_in rfl h.1
    obtain ⟨_,yy1,rfl⟩:=seen_in rfl h.2.1
    exact tvS (by simp [go_sem,yy0,yy1,i4]) rfl
   ·refine fun _=>ob_plain [38] rfl rfl fun _ g h=>?_
    obtain ⟨_,yy0,rfl⟩:=seen_in rfl h.1
    exact tvS (by simp [go_sem,yy0,l0 g,l1 g]) rfl
   ·refine fun _=>ob_plain [29,33,39] rfl rfl fun _ g h=>?_
    obtain ⟨_,yy0,rfl⟩:=seen_in rfl h.1
    obtain ⟨_,yy1,rfl⟩:=seen_in rfl h.2.1
    obtain ⟨_,yy2,rfl⟩:=seen_in rfl h.2.2.1
    refine tupon_enter (f:=144) (args:=#[.agg #[.int .i64 a0,.int .i64 a1],.agg #[.int .i64 b0,.int .i64 b1]]) (by simp [go_sem,yy0,yy1,yy2]) rfl ?_
    exact (KM.out g.w).mono fun e w' ⟨he,hB⟩=>⟨_,he,hB,rfl⟩
   ·refine fun _=>ob_plain [26,27,40] rfl rfl fun _ g h=>?_
    obtain ⟨_,yy0,rfl⟩:=seen_in rfl h.1
    obtain ⟨_,yy1,rfl⟩:=seen_in rfl h.2.1
    obtain ⟨_,yy2,rfl⟩:=seen_in rfl h.2.2.1
    refine tupon_enter (f:=143) (args:=#[.agg #[.int .i64 s0,.int .i64 s1],.agg #[.int .i64 m0,.int .i64 m1]]) (by simp [go_sem,yy0,yy1,yy2]) rfl ?_
    exact (KA.out g.w).mono fun e w' ⟨he,hB⟩=>⟨_,he,hB,rfl⟩
   ·exact fun h=>absurd rfl h
  rintro w6 hB _ rfl _ rfl _ rfl _ rfl _ rfl _ rfl _ rfl _ rfl _ rfl _ rfl _ rfl _ rfl _ rfl _ rfl _ rfl _ rfl _ rfl
  simp only [Act.put,List.setIfInBounds_toArray,List.set_cons_succ,List.set_cons_zero,List.filterMap_nil]
  have hI6:=HX.out.grow hB
  have q0:=heapN_cellj hI6 (k:=0) rfl
  have y0:w6.frozen? ⟨X13,0,none⟩ = false:=by simp [World.frozen?,show w6.heap[X13]? = _ from hI6]
  have q1:=heapN_cellj hI6 (k:=1) rfl
  have y1:w6.frozen? ⟨X13,1,none⟩ = false:=by simp [World.frozen?,show w6.heap[X13]? = _ from hI6]
  refine ⟨_,by simp [go_sem,q0,y0,q1,y1]; rfl,?_⟩
  clear q0 y0 q1 y1
  obtain ⟨W7,eW7,HIW7,HOW7⟩:=set2 (h:=hI6) (.int .i64 r0) (.int .i64 r1)
  rw [eW7]
  clear eW7
  have HX7:=Lib.hid HIW7
  have HB7:=Lib.hid (HOW7.bel (HBW.out.trans (hB.mono HSZ)) k9 (Nat.le_trans HSZ hB.size))
  clear hw1 hB hI6 HIW7 HOW7 f0 f1 l0 l1 d0 d1 d2 d3 d4 d5 d6 d7 d8 t0 t1
  go_wp2_with (fail)
  go_roundw
  case rel=>exact ⟨n+1,q+1,by rw [wrap64_1 (by have:=HQ.out; omega)],Lib.hid (by rw [HQ.out]; omega),by omega,by rw [HS9.out]; exact HX7,HB7⟩
  case measure =>
   have hqm:q < M:=by have a:=HQ.out; have b:=HM.out; omega
   rw [intOf_i,intOf_i,wrap64_1 (by have:=HQ.out; omega)]
   exact meas1 hqm
 ·obtain rfl:n = N:=by omega
  have i2:¬ (q:Int) ≤ last:=by omega
  clear hla hqq
  have hx:=HX.out
  have q0:=heapN_cellj hx (k:=0) rfl
  have q1:=heapN_cellj hx (k:=1) rfl
  have hr:=HR.out.grow HBW.out
  have r0:=heapN_cellj hr (k:=0) rfl
  have r1:=heapN_cellj hr (k:=1) rfl
  have y0:wr.frozen? ⟨w.heap.size+1,0,none⟩ = false:=by simp [World.frozen?,show wr.heap[w.heap.size+1]? = _ from hr]
  have y1:wr.frozen? ⟨w.heap.size+1,1,none⟩ = false:=by simp [World.frozen?,show wr.heap[w.heap.size+1]? = _ from hr]
  have HW9:=Lib.hid (((below_then HW.out HBW.out).setCell (p:=⟨w.heap.size+1,0,none⟩) (by dsimp only; omega) (.int .i64 (cvI A B k f n).1)).setCell (p:=⟨w.heap.size+1,1,none⟩) (by dsimp only; omega) (.int .i64 (cvI A B k f n).2))
  have hs:=cellsT_setN (o:=1) (u:=.int .i64 (cvI A B k f n).2) (cellsT_setN (o:=0) (u:=.int .i64 (cvI A B k f n).1) hr)
  have x0:=heapN_cellj hs (k:=0) (u:=.int .i64 (cvI A B k f n).1) rfl
  have x1:=heapN_cellj hs (k:=1) (u:=.int .i64 (cvI A B k f n).2) rfl
  clear hx hr hs
  go_wp2_with (fail)
  exact bodyPost_ret (v:=.agg #[.int .i64 (cvI A B k f n).1,.int .i64 (cvI A B k f n).2]) (by simp [results,Tryz.results166,go_sem,x0,x1]) rfl ⟨rfl,HW9.out⟩
end Go.Proofs.YtekjflfkbgklhaaGreat
namespace Go.Proofs.YtekjflfkbgklhaaGreat
open Go.ChangeShapes Go.WideShapes Go.ChangeAt Go.RowKit
set_option linter.unusedVariables false
set_option linter.unusedSimpArgs false
set_option maxRecDepth 100000
def Bx (w:World) (v:Value) (l:List (Int × Int)):Prop:=l.length ≤ maxLen∧∃ p cap,v = .slice p l.length cap ∧
 ∀ k x,l[k]? = some x→∃ b o,p = some ⟨b,o,none⟩∧b < w.heap.size∧w.cell? ⟨b,o+k * 2,none⟩ = some (.int .i64 x.1)∧w.cell? ⟨b,o+k * 2+1,none⟩ = some (.int .i64 x.2)
theorem Bx.nil {w:World}:Bx w (.slice none 0 0) []:=⟨by simp,none,0,rfl,fun k x h=>by simp at h⟩

theorem Bx.at {w wr:World} {p:Option Addr} {c n k:Nat} {l:List (Int × Int)} (h:∀ k x,l[k]? = some x→∃ b o,p = some ⟨b,o,none⟩∧b < w.heap.size∧w.cell? ⟨b,o+k * 2,none⟩ = some (.int .i64 x.1)∧w.cell? ⟨b,o+k * 2+1,none⟩ = some (.int .i64 x.2))
  (hk:k < l.length) (hb:Below w.heap.size w wr):∃ b o x y,p = some ⟨b,o,none⟩∧l[k]? = some (x,y)∧b < w.heap.size∧wr.cell? ⟨b,o+k * 2,none⟩ = some (.int .i64 x)∧wr.cell? ⟨b,o+k * 2+1,none⟩ = some (.int .i64 y):=by
 obtain ⟨b,o,h1,h2,h3,h4⟩:=h k l[k] (List.getElem?_eq_getElem hk)
 exact ⟨b,o,l[k].1,l[k].2,h1,List.getElem?_eq_getElem hk,h2,(hb.cell (p:=⟨b,o+k * 2,none⟩) h2).trans h3,(hb.cell (p:=⟨b,o+k * 2+1,none⟩) h2).trans h4⟩

theorem ret_bool {a b:Bool} (h:a = b):Ending.returned (.bool a) = .returned (.bool b):=by rw [h]

end Go.Proofs.YtekjflfkbgklhaaGreat
