/-
 Gj
-/
import Derived.Test.YtdfdpghdjlgghaaGreatKdx
import Derived.Test.YtdfdpghdjlgghaaGreatKdzk
import Derived.Test.YtdfdpghdjlgghaaGreatKdzl
import Derived.Deep.RegionHeld3
namespace Go.Proofs.YtdfdpghdjlgghaaGreat
open Go.ChangeShapes Go.WideShapes Go.ChangeAt Go.RowKit
set_option linter.unusedVariables false
set_option linter.unusedSimpArgs false
set_option maxRecDepth 100000
attribute [local irreducible] Calls
theorem rx_same {α:Type} {enc:α→List Value} {sz B:Nat} {W W':World} {v:Value} {l:List α} (h:Rx enc sz W v l) (hb:FB B v) (hs:W.heap.size ≤ W'.heap.size) (hk:∀ k,B ≤ k→k < W.heap.size→W'.heap[k]? = W.heap[k]?):Rx enc sz W' v l:=by
 obtain ⟨h1,p,c,rfl,h2⟩:=h
 refine ⟨h1,p,c,rfl,fun i x hx=>?_⟩
 obtain ⟨b,o,rfl,h3,h4⟩:=h2 i x hx
 have hbb:B ≤ b:=hb b rfl
 refine ⟨b,o,rfl,Nat.lt_of_lt_of_le h3 hs,fun j z hz=>?_⟩
 have:=h4 j z hz
 unfold World.cell? at this ⊢
 rw [hk b hbb h3]
 exact this
structure OneF (B:Nat) (W:World) (v:Value) (x:Sr):Prop where
 z:Zx W v [x]
 b:SrB W x
 zb:FB B v
 fb:FB B (.slice x.fp x.F.length x.fc)
 pb:FB B (.slice x.pp x.P.length x.pc)
 ub:FB B (.slice x.up x.U.length x.uc)
 eb:FB B (.slice x.ep x.E.length x.ec)
theorem OneF.same {B:Nat} {W W':World} {v:Value} {x:Sr} (h:OneF B W v x) (hs:W.heap.size ≤ W'.heap.size) (hk:∀ k,B ≤ k→k < W.heap.size→W'.heap[k]? = W.heap[k]?):OneF B W' v x :=
 ⟨rx_same h.z h.zb hs hk,⟨rx_same h.b.f h.fb hs hk,rx_same h.b.p h.pb hs hk,rx_same h.b.u h.ub hs hk,rx_same h.b.e h.eb hs hk⟩,h.zb,h.fb,h.pb,h.ub,h.eb⟩
theorem OneF.mono {B B':Nat} {W:World} {v:Value} {x:Sr} (h:OneF B W v x) (hb:B' ≤ B):OneF B' W v x:=⟨h.z,h.b,h.zb.mono hb,h.fb.mono hb,h.pb.mono hb,h.ub.mono hb,h.eb.mono hb⟩
theorem OneF.grow {B:Nat} {W W':World} {v:Value} {x:Sr} (h:OneF B W v x) (hB:Below W.heap.size W W'):OneF B W' v x :=
 ⟨h.z.grow hB,h.b.grow hB,h.zb,h.fb,h.pb,h.ub,h.eb⟩
def nilM (v:Value):Nat:=match v with | .slice none _ _=>1 | _=>0
theorem set2_keep {W:World} {X o1 o2:Nat} {u v:Value}:((W.setCell ⟨X,o1,none⟩ u).setCell ⟨X,o2,none⟩ v).heap.size = W.heap.size∧∀ k,k ≠ X→((W.setCell ⟨X,o1,none⟩ u).setCell ⟨X,o2,none⟩ v).heap[k]? = W.heap[k]?:=by
 unfold World.setCell
 refine ⟨by simp,fun k hk=>?_⟩
 simp [Array.getElem?_modify,Ne.symm hk]
set_option maxHeartbeats 32000000 in
theorem int_one (N T La H fi le mo wi:Int) (K:Nat) (vl vo vx:Value) (L:List Is) (O:List Int) (X B V E:List (Int × Int)) (w:World) (hl:Ix w vl L) (ho:Px w vo O) (hx:Vx w vx X) (htv:tvB N L O = true) (hN1:NmL L) (hXN:(X.length:Int) = N) (hvx:AV X) (ht1:-1048576 ≤ T) (ht2:T ≤ 1048576) (hK:K+1 ≤ 8)
  (hv:vldC K fi le mo wi = true) (hH:La - T = H) (h1:1 ≤ H) (h2:H ≤ 1000000) (hfi:H ≤ fi) (hfi2:fi ≤ 2147483647) (hle:1 ≤ le) (hle2:le ≤ 4294967296) (hmo:-4294967296 ≤ mo∧mo ≤ 4294967296) (hR:advI (fun h=>stpI L O X T h K) le wi H = some (H,B,V,E)) :
  Calls Tryz.prog 19 #[.agg #[.int .i64 N,vl,vo],vx,.agg #[.int .i64 K,.int .i64 fi,.int .i64 le,.int .i64 mo,.int .i64 wi,.int .i64 T,.int .i64 La]] w fun e w'=>∃ q d x,e = .returned (.tuple #[.slice q 1 d,.int .i64 0])∧OneF w.heap.size w' (.slice q 1 d) x∧(x.t = T∧x.h = H∧x.F = X∧x.P = B∧x.U = V∧x.E = E)∧Below w.heap.size w w':=by
 have KV:=Lib.hid (fun w=>cvalid_ok K fi le mo wi w)
 rw [hv] at KV
 have K1:=Lib.hid (fun w=>isnum_yes T w ⟨by omega,by omega⟩)
 have K2:=Lib.hid (fun w=>isnum_yes La w ⟨by omega,by omega⟩)
 have KI:=Lib.hid (fun w=>initial_ok K fi le mo wi H w (by omega) (by omega) ⟨by omega,by omega⟩)
 rw [show min fi H = H by omega] at KI
 have KA:=Lib.hid (fun w a b c=>Advance_ok N T La H H fi le mo wi K vl vo vx L O X w a b c htv hN1 hXN hvx ht1 ht2 hK (by omega) h1 h2 (by omega) (by omega) (by omega) (by omega) hle hle2 hmo _ hR)
 have KE:=Lib.hid (fun p1 p2 p3 p4 n1 n2 n3 n4 c1 c2 c3 c4 w=>end_ok T H p1 p2 p3 p4 n1 c1 n2 c2 n3 c3 n4 c4 w (by omega) (by omega))
 rw [show T+H = La by omega] at KE
 obtain ⟨i0,hi,hz0,hz1,hz2⟩:=info_parts info_sg14
 obtain ⟨pl,cl,rfl⟩:=hl.cut
 obtain ⟨po,co,rfl⟩:=ho.cut
 obtain ⟨px,cx,rfl⟩:=hx.cut
 have hLT:T < La:=by omega
 have hsub:La - T = H:=hH
 have e1:IntKind.i64.wrap (La - T) = H:=by rw [hH]; exact wrapN _ (by omega) (by omega)
 clear hR hv hfi hfi2 hle hle2 hmo hK htv hvx hXN
 have hE:Below w.heap.size w ((w.alloc (.cells #[.int .i64 N,.slice pl L.length cl,.slice po O.length co] 35)).alloc (.cells #[.int .i64 K,.int .i64 fi,.int .i64 le,.int .i64 mo,.int .i64 wi,.int .i64 T,.int .i64 La] 49)):=allocs_below [.cells #[.int .i64 N,.slice pl L.length cl,.slice po O.length co] 35,.cells #[.int .i64 K,.int .i64 fi,.int .i64 le,.int .i64 mo,.int .i64 wi,.int .i64 T,.int .i64 La] 49] w
 have HT:=Lib.hid (show Blk ((w.alloc (.cells #[.int .i64 N,.slice pl L.length cl,.slice po O.length co] 35)).alloc (.cells #[.int .i64 K,.int .i64 fi,.int .i64 le,.int .i64 mo,.int .i64 wi,.int .i64 T,.int .i64 La] 49)) (w.heap.size) (.cells #[.int .i64 N,.slice pl L.length cl,.slice po O.length co] 35) from allocs_at [.cells #[.int .i64 N,.slice pl L.length cl,.slice po O.length co] 35,.cells #[.int .i64 K,.int .i64 fi,.int .i64 le,.int .i64 mo,.int .i64 wi,.int .i64 T,.int .i64 La] 49] w 0 _ rfl)
 have HA:=Lib.hid (show Blk ((w.alloc (.cells #[.int .i64 N,.slice pl L.length cl,.slice po O.length co] 35)).alloc (.cells #[.int .i64 K,.int .i64 fi,.int .i64 le,.int .i64 mo,.int .i64 wi,.int .i64 T,.int .i64 La] 49)) (w.heap.size+1) (.cells #[.int .i64 K,.int .i64 fi,.int .i64 le,.int .i64 mo,.int .i64 wi,.int .i64 T,.int .i64 La] 49) from allocs_at [.cells #[.int .i64 N,.slice pl L.length cl,.slice po O.length co] 35,.cells #[.int .i64 K,.int .i64 fi,.int .i64 le,.int .i64 mo,.int .i64 wi,.int .i64 T,.int .i64 La] 49] w 1 _ rfl)
 have HW:=Lib.hid hE
 have HL:=Lib.hid (hl.grow hE)
 have HO:=Lib.hid (ho.grow hE)
 have HX:=Lib.hid (hx.grow hE)
 have HL0:=Lib.hid hl
 have HO0:=Lib.hid ho
 have HX0:=Lib.hid hx
 clear hE hl ho hx
 have c0:=heapN_cellj HA.out (k:=0) rfl
 have c1:=heapN_cellj HA.out (k:=1) rfl
 have c2:=heapN_cellj HA.out (k:=2) rfl
 have c3:=heapN_cellj HA.out (k:=3) rfl
 have c4:=heapN_cellj HA.out (k:=4) rfl
 have c5:=heapN_cellj HA.out (k:=5) rfl
 have c6:=heapN_cellj HA.out (k:=6) rfl
 go_enter Tryz.func19,Tryz.ntmps19
 go_wp2_with (fail)
 refine (KV.out _).mono ?_
 rintro e w3 ⟨rfl,hB⟩
 have HA:=Lib.hid (HA.out.grow hB)
 have HT:=Lib.hid (HT.out.grow hB)
 have HL:=Lib.hid (HL.out.grow hB)
 have HO:=Lib.hid (HO.out.grow hB)
 have HX:=Lib.hid (HX.out.grow hB)
 have HW:=Lib.hid (below_then HW.out hB)
 clear hB c0 c1 c2 c3 c4 c5 c6
 have c0:=heapN_cellj HA.out (k:=0) rfl
 have c1:=heapN_cellj HA.out (k:=1) rfl
 have c2:=heapN_cellj HA.out (k:=2) rfl
 have c3:=heapN_cellj HA.out (k:=3) rfl
 have c4:=heapN_cellj HA.out (k:=4) rfl
 have c5:=heapN_cellj HA.out (k:=5) rfl
 have c6:=heapN_cellj HA.out (k:=6) rfl
 go_wp2_with (fail)
 refine (K1.out _).mono ?_
 rintro e w4 ⟨rfl,hB⟩
 have HA:=Lib.hid (HA.out.grow hB)
 have HT:=Lib.hid (HT.out.grow hB)
 have HL:=Lib.hid (HL.out.grow hB)
 have HO:=Lib.hid (HO.out.grow hB)
 have HX:=Lib.hid (HX.out.grow hB)
 have HW:=Lib.hid (below_then HW.out hB)
 clear hB c0 c1 c2 c3 c4 c5 c6
 have c0:=heapN_cellj HA.out (k:=0) rfl
 have c1:=heapN_cellj HA.out (k:=1) rfl
 have c2:=heapN_cellj HA.out (k:=2) rfl
 have c3:=heapN_cellj HA.out (k:=3) rfl
 have c4:=heapN_cellj HA.out (k:=4) rfl
 have c5:=heapN_cellj HA.out (k:=5) rfl
 have c6:=heapN_cellj HA.out (k:=6) rfl
 go_wp2_with (fail)
 refine (K2.out _).mono ?_
 rintro e w5 ⟨rfl,hB⟩
 have HA:=Lib.hid (HA.out.grow hB)
 have HT:=Lib.hid (HT.out.grow hB)
 have HL:=Lib.hid (HL.out.grow hB)
 have HO:=Lib.hid (HO.out.grow hB)
 have HX:=Lib.hid (HX.out.grow hB)
 have HW:=Lib.hid (below_then HW.out hB)
 clear hB c0 c1 c2 c3 c4 c5 c6
 have c0:=heapN_cellj HA.out (k:=0) rfl
 have c1:=heapN_cellj HA.out (k:=1) rfl
 have c2:=heapN_cellj HA.out (k:=2) rfl
 have c3:=heapN_cellj HA.out (k:=3) rfl
 have c4:=heapN_cellj HA.out (k:=4) rfl
 have c5:=heapN_cellj HA.out (k:=5) rfl
 have c6:=heapN_cellj HA.out (k:=6) rfl
 go_wp2_with (fail)
 clear c0 c1 c2 c3 c4 c5 c6
 have c0:=fun g:Grown w5=>heapN_cellj (HA.out.grow g.h) (k:=0) rfl
 have c1:=fun g:Grown w5=>heapN_cellj (HA.out.grow g.h) (k:=1) rfl
 have c2:=fun g:Grown w5=>heapN_cellj (HA.out.grow g.h) (k:=2) rfl
 have c3:=fun g:Grown w5=>heapN_cellj (HA.out.grow g.h) (k:=3) rfl
 have c4:=fun g:Grown w5=>heapN_cellj (HA.out.grow g.h) (k:=4) rfl
 have c5:=fun g:Grown w5=>heapN_cellj (HA.out.grow g.h) (k:=5) rfl
 have c6:=fun g:Grown w5=>heapN_cellj (HA.out.grow g.h) (k:=6) rfl
 refine region_pred_g (fun σ_=>lk [(37,fun z_ _=>z_ = .pointer (some ⟨w.heap.size+1,0,none⟩)),(38,fun z_ _=>z_ = .agg #[.int .i64 K,.int .i64 fi,.int .i64 le,.int .i64 mo,.int .i64 wi]),(39,fun z_ _=>z_ = .pointer (some ⟨w.heap.size+1,5,none⟩)),(40,fun z_ _=>z_ = .int .i64 T),(41,fun z_ _=>z_ = .pointer (some ⟨w.heap.size+1,6,none⟩)),(42,fun z_ _=>z_ = .int .i64 La),(43,fun z_ _=>z_ = .pointer (some ⟨w.heap.size+1,0,none⟩)),(44,fun z_ _=>z_ = .agg #[.int .i64 K,.int .i64 fi,.int .i64 le,.int .i64 mo,.int .i64 wi]),(45,fun z_ _=>z_ = .pointer (some ⟨w.heap.size+1,6,none⟩)),(46,fun z_ _=>z_ = .int .i64 La),(47,fun z_ _=>z_ = .pointer (some ⟨w.heap.size+1,5,none⟩)),(48,fun z_ _=>z_ = .int .i64 T),(49,fun z_ _=>z_ = .int .i64 H),(50,fun z_ _=>z_ = .int .i64 H),(51,fun z_ _=>z_ = .agg #[.int .i64 K,.int .i64 fi,.int .i64 le,.int .i64 mo,.int .i64 wi,.int .i64 T,.int .i64 La,.int .i64 H]),(9,fun z_ w'=>∃ X_,z_ = .pointer (some ⟨X_,0,none⟩)∧w5.heap.size ≤ X_∧w'.heap[X_]? = some (.cells (if σ_ 16 = true then #[.int .i64 K,.int .i64 fi,.int .i64 le,.int .i64 mo,.int .i64 wi,.int .i64 T,.int .i64 La,.int .i64 H] else #[(.int .i64 0),(.int .i64 0),(.int .i64 0),(.int .i64 0),(.int .i64 0),(.int .i64 0),(.int .i64 0),(.int .i64 0)]) 27 (0,0)))]) (kk [(9,ptrK)]) [(16,9)] [] (by kernel_rfl) (by kernel_rfl) ?_ (fun σ_=>lk_steady _ ⟨steady_eq _,steady_eq _,steady_eq _,steady_eq _,steady_eq _,steady_eq _,steady_eq _,steady_eq _,steady_eq _,steady_eq _,steady_eq _,steady_eq _,steady_eq _,steady_eq _,steady_eq _,fun u w1 w2 hb ⟨X,e,h1,h2⟩=>⟨X,e,h1,(hb.block X (Array.getElem?_eq_some_iff.1 h2).1).trans h2⟩,trivial⟩) ?_ ?_ ?_ ?_
 ·intro x hx
  cases hx
 ·intro σ_ t v w b h hb
  refine kk_lt (fun x hx e hl hb=>?_) h hb
  simp only [List.mem_cons,List.not_mem_nil,or_false] at hx
  rcases hx with rfl
  ·subst e
   obtain ⟨X,rfl,hX,hI⟩:=hl
   obtain rfl:X = b:=Option.some.inj hb
   exact (Array.getElem?_eq_some_iff.1 hI).1
 ·refine ⟨?_,?_,?_,?_,?_,?_,?_,?_,?_,?_,?_,?_,?_,?_,?_,?_,?_,trivial⟩
  ·intro _ σ_ hσ
   refine oblg_of (ob_plain [5] rfl rfl fun aa g h=>?_) (fun d v hd=>by cases hd; rfl)
   have yy0:=seen_out (v:=.pointer (some ⟨w.heap.size+1,0,none⟩)) rfl rfl h.1
   exact tvS (by simp [go_sem,yy0]) rfl
  ·intro _ σ_ hσ
   refine oblg_of (ob_plain [37] rfl rfl fun aa g h=>?_) (fun d v hd=>by cases hd; rfl)
   obtain ⟨_,yy0,rfl⟩:=seen_in rfl h.1
   exact tvS (by simp [go_sem,yy0,c0 g,c1 g,c2 g,c3 g,c4 g]) rfl
  ·intro _ σ_ hσ
   refine oblg_of (ob_plain [5] rfl rfl fun aa g h=>?_) (fun d v hd=>by cases hd; rfl)
   have yy0:=seen_out (v:=.pointer (some ⟨w.heap.size+1,0,none⟩)) rfl rfl h.1
   exact tvS (by simp [go_sem,yy0]) rfl
  ·intro _ σ_ hσ
   refine oblg_of (ob_plain [39] rfl rfl fun aa g h=>?_) (fun d v hd=>by cases hd; rfl)
   obtain ⟨_,yy0,rfl⟩:=seen_in rfl h.1
   exact tvS (by simp [go_sem,yy0,c5 g]) rfl
  ·intro _ σ_ hσ
   refine oblg_of (ob_plain [5] rfl rfl fun aa g h=>?_) (fun d v hd=>by cases hd; rfl)
   have yy0:=seen_out (v:=.pointer (some ⟨w.heap.size+1,0,none⟩)) rfl rfl h.1
   exact tvS (by simp [go_sem,yy0]) rfl
  ·intro _ σ_ hσ
   refine oblg_of (ob_plain [41] rfl rfl fun aa g h=>?_) (fun d v hd=>by cases hd; rfl)
   obtain ⟨_,yy0,rfl⟩:=seen_in rfl h.1
   exact tvS (by simp [go_sem,yy0,c6 g]) rfl
  ·intro _ σ_ hσ
   refine oblg_of (ob_plain [5] rfl rfl fun aa g h=>?_) (fun d v hd=>by cases hd; rfl)
   have yy0:=seen_out (v:=.pointer (some ⟨w.heap.size+1,0,none⟩)) rfl rfl h.1
   exact tvS (by simp [go_sem,yy0]) rfl
  ·intro _ σ_ hσ
   refine oblg_of (ob_plain [43] rfl rfl fun aa g h=>?_) (fun d v hd=>by cases hd; rfl)
   obtain ⟨_,yy0,rfl⟩:=seen_in rfl h.1
   exact tvS (by simp [go_sem,yy0,c0 g,c1 g,c2 g,c3 g,c4 g]) rfl
  ·intro _ σ_ hσ
   refine oblg_of (ob_plain [5] rfl rfl fun aa g h=>?_) (fun d v hd=>by cases hd; rfl)
   have yy0:=seen_out (v:=.pointer (some ⟨w.heap.size+1,0,none⟩)) rfl rfl h.1
   exact tvS (by simp [go_sem,yy0]) rfl
  ·intro _ σ_ hσ
   refine oblg_of (ob_plain [45] rfl rfl fun aa g h=>?_) (fun d v hd=>by cases hd; rfl)
   obtain ⟨_,yy0,rfl⟩:=seen_in rfl h.1
   exact tvS (by simp [go_sem,yy0,c6 g]) rfl
  ·intro _ σ_ hσ
   refine oblg_of (ob_plain [5] rfl rfl fun aa g h=>?_) (fun d v hd=>by cases hd; rfl)
   have yy0:=seen_out (v:=.pointer (some ⟨w.heap.size+1,0,none⟩)) rfl rfl h.1
   exact tvS (by simp [go_sem,yy0]) rfl
  ·intro _ σ_ hσ
   refine oblg_of (ob_plain [47] rfl rfl fun aa g h=>?_) (fun d v hd=>by cases hd; rfl)
   obtain ⟨_,yy0,rfl⟩:=seen_in rfl h.1
   exact tvS (by simp [go_sem,yy0,c5 g]) rfl
  ·intro _ σ_ hσ
   refine oblg_of (ob_plain [46,48] rfl rfl fun aa g h=>?_) (fun d v hd=>by cases hd; rfl)
   obtain ⟨_,yy0,rfl⟩:=seen_in rfl h.1
   obtain ⟨_,yy1,rfl⟩:=seen_in rfl h.2.1
   exact tvS (by simp [go_sem,yy0,yy1,e1]) rfl
  ·intro _ σ_ hσ
   refine oblg_of (ob_plain [44,49] rfl rfl fun aa g h=>?_) (fun d v hd=>by cases hd; rfl)
   obtain ⟨_,yy0,rfl⟩:=seen_in rfl h.1
   obtain ⟨_,yy1,rfl⟩:=seen_in rfl h.2.1
   refine tupon_enter (f:=47) (args:=#[.agg #[.int .i64 K,.int .i64 fi,.int .i64 le,.int .i64 mo,.int .i64 wi],.int .i64 H]) (by simp [go_sem,yy0,yy1]) rfl ?_
   exact (KI.out g.w).mono fun e w' ⟨he,hB⟩=>⟨_,he,hB,rfl⟩
  ·intro _ σ_ hσ
   refine oblg_of (ob_plain [38,40,42,50] rfl rfl fun aa g h=>?_) (fun d v hd=>by cases hd; rfl)
   obtain ⟨_,yy0,rfl⟩:=seen_in rfl h.1
   obtain ⟨_,yy1,rfl⟩:=seen_in rfl h.2.1
   obtain ⟨_,yy2,rfl⟩:=seen_in rfl h.2.2.1
   obtain ⟨_,yy3,rfl⟩:=seen_in rfl h.2.2.2.1
   exact tvS (by simp [go_sem,yy0,yy1,yy2,yy3]) rfl
  ·intro _ σ_ hσ
   have hsx:σ_ 16 = false:=by
    cases e:σ_ 16 with
    | false=>rfl
    | true=>exact absurd (hσ 16 _ e rfl) (by first | decide | decide +kernel)
   refine oblg_plain [] rfl rfl fun aa g h=>?_
   exact tupon_value (v:=.pointer (some ⟨g.w.heap.size,0,none⟩)) (w1:=g.w.alloc (.cells #[(.int .i64 0),(.int .i64 0),(.int .i64 0),(.int .i64 0),(.int .i64 0),(.int .i64 0),(.int .i64 0),(.int .i64 0)] 27)) (by simp [go_sem]) ((Below.refl _ _).alloc (Nat.le_refl _) _) ⟨⟨_,rfl,g.h.size,by rw [if_neg (by rw [hsx]; exact Bool.false_ne_true)]; exact World.alloc_heap_new _ _⟩,fun d b hd hb=>by cases hd; obtain rfl:=Option.some.inj hb; exact Nat.le_refl _⟩
  ·exact fun h=>absurd h (by decide)
 ·intro i p os hm hos
  simp only [List.mem_cons,List.not_mem_nil,or_false,Prod.mk.injEq] at hm
  rcases hm with ⟨rfl,rfl⟩
  ·obtain rfl:=Option.some.inj hos
   intro σ_ aa gg hσ h
   obtain ⟨_,r0,X,rfl,hX,hI⟩:=seen_in rfl h.1
   have e0:=getD_of r0
   obtain ⟨_,r1,rfl⟩:=seen_in rfl h.2.1
   have e1:=getD_of r1
   rw [if_neg (by rw [hσ]; exact Bool.false_ne_true)] at hI
   have q0:=heapN_cellj hI (k:=0) rfl
   have z0:gg.w.frozen? ⟨X,0,none⟩ = false:=by simp [World.frozen?,hI]
   have q1:=heapN_cellj hI (k:=1) rfl
   have z1:gg.w.frozen? ⟨X,1,none⟩ = false:=by simp [World.frozen?,hI]
   have q2:=heapN_cellj hI (k:=2) rfl
   have z2:gg.w.frozen? ⟨X,2,none⟩ = false:=by simp [World.frozen?,hI]
   have q3:=heapN_cellj hI (k:=3) rfl
   have z3:gg.w.frozen? ⟨X,3,none⟩ = false:=by simp [World.frozen?,hI]
   have q4:=heapN_cellj hI (k:=4) rfl
   have z4:gg.w.frozen? ⟨X,4,none⟩ = false:=by simp [World.frozen?,hI]
   have q5:=heapN_cellj hI (k:=5) rfl
   have z5:gg.w.frozen? ⟨X,5,none⟩ = false:=by simp [World.frozen?,hI]
   have q6:=heapN_cellj hI (k:=6) rfl
   have z6:gg.w.frozen? ⟨X,6,none⟩ = false:=by simp [World.frozen?,hI]
   have q7:=heapN_cellj hI (k:=7) rfl
   have z7:gg.w.frozen? ⟨X,7,none⟩ = false:=by simp [World.frozen?,hI]
   refine ⟨((((((((gg.w.setCell ⟨X,0,none⟩ (.int .i64 K)).setCell ⟨X,1,none⟩ (.int .i64 fi)).setCell ⟨X,2,none⟩ (.int .i64 le)).setCell ⟨X,3,none⟩ (.int .i64 mo)).setCell ⟨X,4,none⟩ (.int .i64 wi)).setCell ⟨X,5,none⟩ (.int .i64 T)).setCell ⟨X,6,none⟩ (.int .i64 La)).setCell ⟨X,7,none⟩ (.int .i64 H)),by simp [go_sem,e0,r0,e1,r1,q0,z0,q1,z1,q2,z2,q3,z3,q4,z4,q5,z5,q6,z6,q7,z7],((((((((gg.h.setCell (p:=⟨X,0,none⟩) hX _).setCell (p:=⟨X,1,none⟩) hX _).setCell (p:=⟨X,2,none⟩) hX _).setCell (p:=⟨X,3,none⟩) hX _).setCell (p:=⟨X,4,none⟩) hX _).setCell (p:=⟨X,5,none⟩) hX _).setCell (p:=⟨X,6,none⟩) hX _).setCell (p:=⟨X,7,none⟩) hX _),fun t v hv hne hΦ=>lk_pair ?_ hΦ⟩
   refine ⟨rfl,fun _ h=>h,rfl,fun _ h=>h,rfl,fun _ h=>h,rfl,fun _ h=>h,rfl,fun _ h=>h,rfl,fun _ h=>h,rfl,fun _ h=>h,rfl,fun _ h=>h,rfl,fun _ h=>h,rfl,fun _ h=>h,rfl,fun _ h=>h,rfl,fun _ h=>h,rfl,fun _ h=>h,rfl,fun _ h=>h,rfl,fun _ h=>h,rfl,?_,trivial⟩
   ·intro e hx
    subst e
    obtain ⟨X',rfl,hX',hI'⟩:=hx
    rw [r0] at hv
    have e:=Option.some.inj hv
    simp only [Value.pointer.injEq,Option.some.injEq,Addr.mk.injEq,and_true] at e
    subst e
    exact ⟨X,rfl,hX,by rw [if_pos (updS_self _ _)]; exact cellsT_setN (o:=7) (u:=.int .i64 H) (cellsT_setN (o:=6) (u:=.int .i64 La) (cellsT_setN (o:=5) (u:=.int .i64 T) (cellsT_setN (o:=4) (u:=.int .i64 wi) (cellsT_setN (o:=3) (u:=.int .i64 mo) (cellsT_setN (o:=2) (u:=.int .i64 le) (cellsT_setN (o:=1) (u:=.int .i64 fi) (cellsT_setN (o:=0) (u:=.int .i64 K) (hI))))))))⟩
 rintro w6 hB _ rfl _ rfl _ rfl _ rfl _ rfl _ rfl _ rfl _ rfl _ rfl _ rfl _ rfl _ rfl _ rfl _ rfl _ rfl _ ⟨X9,rfl,hX9,hI9⟩
 simp only [Act.put,List.setIfInBounds_toArray,List.set_cons_succ,List.set_cons_zero,List.filterMap_nil,finP]
 intro hdis hcp
 have hI9:w6.heap[X9]? = some (.cells #[.int .i64 K,.int .i64 fi,.int .i64 le,.int .i64 mo,.int .i64 wi,.int .i64 T,.int .i64 La,.int .i64 H] 27 (0,0)):=hI9
 have HT6:=Lib.hid (HT.out.grow hB)
 have HB6:=Lib.hid (below_then HW.out hB)
 have HR6:=Lib.hid (show Blk w6 X9 (.cells #[.int .i64 K,.int .i64 fi,.int .i64 le,.int .i64 mo,.int .i64 wi,.int .i64 T,.int .i64 La,.int .i64 H] 27) from hI9)
 have hX9:w.heap.size+2 ≤ X9:=by
  have h1:=hX9
  have h2:=(Array.getElem?_eq_some_iff.1 HA.out).1
  omega
 have HX9:=Lib.hid hX9
 clear hB hI9 hX9 hdis hcp c0 c1 c2 c3 c4 c5 c6 HA HT HL HO HX HW KI K1 K2 KV e1
 go_wp2_with (fail)
 go_loopw [8,10] (fun lv bv wr=>(lv = .slice none 0 0∧bv = .slice px X.length cx∧Hid (Blk wr X9 (.cells #[.int .i64 K,.int .i64 fi,.int .i64 le,.int .i64 mo,.int .i64 wi,.int .i64 T,.int .i64 La,.int .i64 H] 27))∧Hid (Blk wr w.heap.size (.cells #[.int .i64 N,.slice pl L.length cl,.slice po O.length co] 35))∧Hid (Below w.heap.size w wr)) ∨ (∃ (q:Addr) (d:Nat) (x:Sr) (nx:Int),lv = .slice (some q) 1 d∧Hid (OneF (X9+1) wr (.slice (some q) 1 d) x)∧Hid (x.t = T∧x.h = H∧x.F = X∧x.P = B∧x.U = V∧x.E = E)∧Hid (Blk wr X9 (.cells #[.int .i64 K,.int .i64 fi,.int .i64 le,.int .i64 mo,.int .i64 wi,.int .i64 La,.int .i64 La,.int .i64 nx] 27))∧Hid (Below w.heap.size w wr))) (fun lv _ _=>nilM lv)
 case atStart=>exact .inl ⟨rfl,rfl,HR6,HT6,HB6⟩
 case round =>
  clear HR6 HT6 HB6
  rcases hrel with ⟨rfl,rfl,HRQ,HTP,HB⟩ | ⟨q,d,x,nx,rfl,HF,HP,HRQ,HB⟩
  ·have HL:=Lib.hid (HL0.out.grow HB.out)
   have HO:=Lib.hid (HO0.out.grow HB.out)
   have HX:=Lib.hid (HX0.out.grow HB.out)
   have hsz:X9 < wr.heap.size:=(Array.getElem?_eq_some_iff.1 HRQ.out).1
   have r0:=heapN_cellj HRQ.out (k:=0) rfl
   have r1:=heapN_cellj HRQ.out (k:=1) rfl
   have r2:=heapN_cellj HRQ.out (k:=2) rfl
   have r3:=heapN_cellj HRQ.out (k:=3) rfl
   have r4:=heapN_cellj HRQ.out (k:=4) rfl
   have r5:=heapN_cellj HRQ.out (k:=5) rfl
   have r6:=heapN_cellj HRQ.out (k:=6) rfl
   have r7:=heapN_cellj HRQ.out (k:=7) rfl
   have t0:=heapN_cellj HTP.out (k:=0) rfl
   have t1:=heapN_cellj HTP.out (k:=1) rfl
   have t2:=heapN_cellj HTP.out (k:=2) rfl
   go_wp2_with (fail)
   refine (KA.out _ HL.out HO.out HX.out).mono ?_
   rintro e w8 ⟨sv,nx,er,rfl,⟨⟨p1,c1,p2,c2,p3,c3,p4,c4,rfl,k1,k2,k3,k4⟩,hnx,rfl⟩,hB8⟩
   have HB8:=Lib.hid (below_then HB.out hB8)
   have HRQ:=Lib.hid (HRQ.out.grow hB8)
   have hs8:=hB8.size
   obtain ⟨W9,hW9⟩:∃ W9,w8.alloc (.cells #[.int .i64 T,.int .i64 H,.slice p1 X.length c1,.slice p2 B.length c2,.slice p3 V.length c3,.slice p4 E.length c4] 39) = W9:=⟨_,rfl⟩
   have hb9:Below w8.heap.size w8 W9:=by rw [← hW9]; exact (Below.refl _ _).alloc (Nat.le_refl _) _
   have HS9:=Lib.hid (show Blk W9 w8.heap.size (.cells #[.int .i64 T,.int .i64 H,.slice p1 X.length c1,.slice p2 B.length c2,.slice p3 V.length c3,.slice p4 E.length c4] 39) by rw [← hW9]; exact World.alloc_heap_new w8 _)
   have HB9:=Lib.hid (below_then HB8.out hb9)
   have HRQ:=Lib.hid (HRQ.out.grow hb9)
   obtain ⟨W10,hW10⟩:∃ W10,W9.alloc (.cells #[.int .i64 T,.int .i64 H,.slice p1 X.length c1,.slice p2 B.length c2,.slice p3 V.length c3,.slice p4 E.length c4] 39) = W10:=⟨_,rfl⟩
   have hb10:Below W9.heap.size W9 W10:=by rw [← hW10]; exact (Below.refl _ _).alloc (Nat.le_refl _) _
   have hs10:W10.heap[W9.heap.size]? = some (.cells #[.int .i64 T,.int .i64 H,.slice p1 X.length c1,.slice p2 B.length c2,.slice p3 V.length c3,.slice p4 E.length c4] 39 (0,0)):=by rw [← hW10]; exact World.alloc_heap_new W9 _
   have HB10:=Lib.hid (below_then HB9.out hb10)
   have HRQ:=Lib.hid (HRQ.out.grow hb10)
   have HS10:=Lib.hid (HS9.out.grow hb10)
   have hz9:w8.heap.size < W9.heap.size:=by rw [← hW9]; simp
   have hz10:W9.heap.size < W10.heap.size:=by rw [← hW10]; simp
   have K1:=Lib.hid ((k1.grow hb9).grow hb10)
   have K2:=Lib.hid ((k2.grow hb9).grow hb10)
   have K3:=Lib.hid ((k3.grow hb9).grow hb10)
   have K4:=Lib.hid ((k4.grow hb9).grow hb10)
   obtain ⟨y,hy⟩:∃ y:Sr,y = ⟨T,H,p1,p2,p3,p4,c1,c2,c3,c4,X,B,V,E⟩:=⟨_,rfl⟩
   have HYA:Hid (∀ j u,(encSr y)[j]? = some u→W10.cell? ((⟨W9.heap.size,0,none⟩:Addr).add j) = some u):=Lib.hid (sg_at y (by subst hy; exact hs10))
   have HY:=Lib.hid hy
   have HNX:=Lib.hid hnx
   have s0:=heapN_cellj HS9.out (k:=0) rfl
   have s1:=heapN_cellj HS9.out (k:=1) rfl
   have s2:=heapN_cellj HS9.out (k:=2) rfl
   have s3:=heapN_cellj HS9.out (k:=3) rfl
   have s4:=heapN_cellj HS9.out (k:=4) rfl
   have s5:=heapN_cellj HS9.out (k:=5) rfl
   have hlt0:X9+1 ≤ wr.heap.size:=hsz
   clear r0 r1 r2 r3 r4 r5 r6 r7 t0 t1 t2 k1 k2 k3 k4 hnx hB8 hb9 hb10 hs10 hy HTP HL HO HX
   go_wp2_with (fail)
   refine (is14 0 0 _).mono ?_
   rintro e w' ⟨rfl,rfl⟩
   go_wp2_with (at_builtin; refine wpList_append_own _ rfl (.tmp 75) (.tmp 77) 52 rfl (X9+1) 39 i0 (.agg #[.int .i64 0,.int .i64 0,.slice none 0 0,.slice none 0 0,.slice none 0 0,.slice none 0 0]) 6 112 Tryz.underlying52 hi hz0 hz1 hz2 rfl (by decide) (.slice none 0 0) 0 _ rfl (World.ownsRow_nil _ _ _ _) ⟨W9.heap.size,0,none⟩ 1 1 (encSr y) rfl rfl HYA.out (sg_one y) (by unfold maxLen; omega) (by omega) (by omega) ?_)
   intro v' w11 hown' hgrow _
   have hb11:Below W10.heap.size W10 w11:=Below.grown (Below.refl _ _) hgrow (Nat.le_refl _) (fun i hi=>by cases hi)
   have HB11:=Lib.hid (below_then HB10.out hb11)
   have HRQ:=Lib.hid (HRQ.out.grow hb11)
   have HS11:=Lib.hid (HS10.out.grow hb11)
   obtain ⟨O9,c9,rfl,hO9,hO8⟩:=ot_cut hown' (by decide)
   have HOF:Hid (OneF (X9+1) w11 (.slice (some ⟨O9,0,none⟩) 1 c9) y):=Lib.hid (by
    have hy:=HY.out
    subst hy
    have hz:Zx w11 (.slice (some ⟨O9,0,none⟩) 1 c9) [⟨T,H,p1,p2,p3,p4,c1,c2,c3,c4,X,B,V,E⟩]:=Rx.own encSr_len (l:=[⟨T,H,p1,p2,p3,p4,c1,c2,c3,c4,X,B,V,E⟩]) (by simpa [cr] using hown') (by unfold maxLen; simp)
    have g1:=(K1.out.grow hb11).mono (B':=X9+1) (by omega)
    have g2:=(K2.out.grow hb11).mono (B':=X9+1) (by omega)
    have g3:=(K3.out.grow hb11).mono (B':=X9+1) (by omega)
    have g4:=(K4.out.grow hb11).mono (B':=X9+1) (by omega)
    exact ⟨hz,⟨g1.1,g2.1,g3.1,g4.1⟩,fun b e=>by cases e; exact hO9,g1.2,g2.2,g3.2,g4.2⟩)
   clear hown' hgrow hb11 hW9 hW10 s0 s1 s2 s3 s4 s5 HYA K1 K2 K3 K4
   go_wp2_with (fail)
   have hdr:Below w11.heap.size w11 w11.drew:=(Below.refl _ _).drew
   have HDR:=Lib.hid hdr
   have KSF:∀ w',Below w11.heap.size w11 w'→(fun w':World=>w'.cell? ⟨w8.heap.size,0,none⟩ = some (.int .i64 T)∧w'.cell? ⟨w8.heap.size,1,none⟩ = some (.int .i64 H)∧w'.cell? ⟨w8.heap.size,2,none⟩ = some (.slice p1 X.length c1)∧w'.cell? ⟨w8.heap.size,3,none⟩ = some (.slice p2 B.length c2)∧w'.cell? ⟨w8.heap.size,4,none⟩ = some (.slice p3 V.length c3)∧w'.cell? ⟨w8.heap.size,5,none⟩ = some (.slice p4 E.length c4)) w':=fun w' h=>⟨heapN_cellj (HS11.out.grow h) (k:=0) rfl,heapN_cellj (HS11.out.grow h) (k:=1) rfl,heapN_cellj (HS11.out.grow h) (k:=2) rfl,heapN_cellj (HS11.out.grow h) (k:=3) rfl,heapN_cellj (HS11.out.grow h) (k:=4) rfl,heapN_cellj (HS11.out.grow h) (k:=5) rfl⟩
   have KST:∀ (W:World) (k:Nat) (u:Value),(fun w':World=>w'.cell? ⟨w8.heap.size,0,none⟩ = some (.int .i64 T)∧w'.cell? ⟨w8.heap.size,1,none⟩ = some (.int .i64 H)∧w'.cell? ⟨w8.heap.size,2,none⟩ = some (.slice p1 X.length c1)∧w'.cell? ⟨w8.heap.size,3,none⟩ = some (.slice p2 B.length c2)∧w'.cell? ⟨w8.heap.size,4,none⟩ = some (.slice p3 V.length c3)∧w'.cell? ⟨w8.heap.size,5,none⟩ = some (.slice p4 E.length c4)) W→(fun w':World=>w'.cell? ⟨w8.heap.size,0,none⟩ = some (.int .i64 T)∧w'.cell? ⟨w8.heap.size,1,none⟩ = some (.int .i64 H)∧w'.cell? ⟨w8.heap.size,2,none⟩ = some (.slice p1 X.length c1)∧w'.cell? ⟨w8.heap.size,3,none⟩ = some (.slice p2 B.length c2)∧w'.cell? ⟨w8.heap.size,4,none⟩ = some (.slice p3 V.length c3)∧w'.cell? ⟨w8.heap.size,5,none⟩ = some (.slice p4 E.length c4)) (W.setCell ⟨X9,k,none⟩ u):=fun W k u h=>by
    have hne:w8.heap.size ≠ X9:=by have:=hlt0; omega
    have hk:(W.setCell ⟨X9,k,none⟩ u).heap[w8.heap.size]? = W.heap[w8.heap.size]?:=by
     unfold World.setCell
     simp [Array.getElem?_modify,Ne.symm hne]
    simpa only [World.cell?,hk] using h
   have KS0:=Lib.hid (KSF _ hdr)
   have KSF:=Lib.hid KSF
   have KST:=Lib.hid KST
   have hx9:=HX9.out
   clear hdr
   go_region_held3 (fun w':World=>w'.cell? ⟨w8.heap.size,0,none⟩ = some (.int .i64 T)∧w'.cell? ⟨w8.heap.size,1,none⟩ = some (.int .i64 H)∧w'.cell? ⟨w8.heap.size,2,none⟩ = some (.slice p1 X.length c1)∧w'.cell? ⟨w8.heap.size,3,none⟩ = some (.slice p2 B.length c2)∧w'.cell? ⟨w8.heap.size,4,none⟩ = some (.slice p3 V.length c3)∧w'.cell? ⟨w8.heap.size,5,none⟩ = some (.slice p4 E.length c4)) (first | exact KS0.out | exact KS12.out | exact KST.out _ _ _ KS12.out | exact KST.out _ _ _ (KST.out _ _ _ KS12.out)) (first | (refine (KE.out p1 p2 p3 p4 X.length B.length V.length E.length c1 c2 c3 c4 _).mono ?_; rintro e w12 ⟨rfl,hB⟩; have hB1:=below_then HDR.out hB; have HB12:=Lib.hid (below_then HB11.out hB1); have hrq:w12.heap[X9]? = some (.cells #[.int .i64 K,.int .i64 fi,.int .i64 le,.int .i64 mo,.int .i64 wi,.int .i64 T,.int .i64 La,.int .i64 H] 27 (0,0)):=HRQ.out.grow hB1; have HRQ2:=Lib.hid hrq; have HOF:=Lib.hid (HOF.out.grow hB1); have q5:=heapN_cellj hrq (k:=5) rfl; have q7:=heapN_cellj hrq (k:=7) rfl; have y5:w12.frozen? ⟨X9,5,none⟩ = false:=(by simp [World.frozen?,hrq]); have y7:w12.frozen? ⟨X9,7,none⟩ = false:=(by simp [World.frozen?,hrq]); have KS12:=Lib.hid (KSF.out _ hB1); clear hB hB1 hrq))
   have HB13:=Lib.hid ((HB12.out.setCell (p:=⟨X9,5,none⟩) (by dsimp only; omega) (.int .i64 La)).setCell (p:=⟨X9,7,none⟩) (by dsimp only; omega) (.int .i64 nx))
   have HRQ:Hid (Blk ((w12.setCell ⟨X9,5,none⟩ (.int .i64 La)).setCell ⟨X9,7,none⟩ (.int .i64 nx)) X9 (.cells #[.int .i64 K,.int .i64 fi,.int .i64 le,.int .i64 mo,.int .i64 wi,.int .i64 La,.int .i64 La,.int .i64 nx] 27)):=Lib.hid (by
    have h1:=cellsT_setN (o:=7) (u:=.int .i64 nx) (cellsT_setN (o:=5) (u:=.int .i64 La) HRQ2.out)
    simpa [Blk] using h1)
   have HOF:Hid (OneF (X9+1) ((w12.setCell ⟨X9,5,none⟩ (.int .i64 La)).setCell ⟨X9,7,none⟩ (.int .i64 nx)) (.slice (some ⟨O9,0,none⟩) 1 c9) y):=Lib.hid (HOF.out.same (Nat.le_of_eq set2_keep.1.symm) (fun k h1 h2=>set2_keep.2 k (by omega)))
   clear hx9
   go_wp2_with (fail)
   go_roundw
   case rel=>exact .inr ⟨⟨O9,0,none⟩,c9,y,nx,rfl,HOF,Lib.hid (by have:=HY.out; subst this; exact ⟨rfl,rfl,rfl,rfl,rfl,rfl⟩),HRQ,HB13⟩
   case measure=>simp [nilM]
  ·have hx9:=HX9.out
   have r0:=heapN_cellj HRQ.out (k:=0) rfl
   have r1:=heapN_cellj HRQ.out (k:=1) rfl
   have r2:=heapN_cellj HRQ.out (k:=2) rfl
   have r3:=heapN_cellj HRQ.out (k:=3) rfl
   have r4:=heapN_cellj HRQ.out (k:=4) rfl
   have r5:=heapN_cellj HRQ.out (k:=5) rfl
   have r6:=heapN_cellj HRQ.out (k:=6) rfl
   have r7:=heapN_cellj HRQ.out (k:=7) rfl
   go_wp2_with (fail)
   go_ret2
   exact ⟨some q,d,x,rfl,HF.out.mono (by omega),HP.out,HB.out⟩
end Go.Proofs.YtdfdpghdjlgghaaGreat
