/-
 Cf Vm
-/
import Derived.Test.YtdfdpghdjlgghaaGreatKda
import Derived.Test.YtdfdpghdjlgghaaGreatKdb
import Derived.Test.YtdfdpghdjlgghaaGreatKdj
import Derived.Test.YtdfdpghdjlgghaaGreatKdk
import Derived.Test.YtdfdpghdjlgghaaGreatKds
import Derived.Test.YtdfdpghdjlgghaaGreatKdu
import Derived.Test.YtdfdpghdjlgghaaGreatKdzb
import Derived.Test.YtdfdpghdjlgghaaGreatKdzh
import Derived.Great.BuildSlice
import Derived.Laws.Tables
namespace Go.Proofs.YtdfdpghdjlgghaaGreat
open Go.ChangeShapes Go.WideShapes Go.ChangeAt Go.RowKit
set_option linter.unusedVariables false
set_option linter.unusedSimpArgs false
set_option maxRecDepth 100000
attribute [local irreducible] Calls
theorem below_row {B:Nat} {w W:World} (h:Below B w W) {X:Nat} (hX:B ≤ X) (cs:Array Value):Below B w (W.setRow X cs) :=
 ⟨h.os,h.tape,h.output,by rw [setRow_size]; exact h.size,fun j hj=>(setRow_other W X j cs (by omega)).trans (h.block j hj)⟩
set_option maxHeartbeats 4000000 in
theorem bndS_ok (v:Value) (l:List (Int × Int)) (r:Bool) (w:World) (hv:Vx w v l) (h:∀ p ∈ l,VI p.1 p.2) (h1:1 ≤ l.length) (h6:l.length ≤ 6) (hr:bndB l = r) :
  Calls Tryz.prog 123 #[v] w fun e w'=>e = .returned (.bool r)∧Below w.heap.size w w':=by
 have KV:=Lib.hid (fun w hv=>box_valid v l w hv)
 rw [boxv_at h h1 h6] at KV
 obtain ⟨n,hn⟩:∃ n,l.any entB = n:=⟨_,rfl⟩
 have hr2:(!n) = r:=by rw [← hr,← hn]; rfl
 have KC:=Lib.hid (fun w hv=>cnent_ok v l w hv)
 rw [hn] at KC
 obtain ⟨p,c,rfl⟩:=hv.cut
 have HV:=Lib.hid hv
 have HR:=Lib.hid hr2
 clear hv h h1 h6 hr hn hr2
 go_enter Tryz.func123,Tryz.ntmps123
 go_wp2_with (fail)
 refine (KV.out _ (vx_bx HV.out)).mono ?_
 rintro e w5 ⟨rfl,hB5⟩
 have HV5:=Lib.hid (HV.out.grow hB5)
 have HB5:=Lib.hid hB5
 clear hB5
 go_wp2_with (fail)
 refine (KC.out _ HV5.out).mono ?_
 rintro e w6 ⟨rfl,hB6⟩
 have HB6:=Lib.hid (below_then HB5.out hB6)
 clear hB6
 go_wp2_with (fail)
 go_ret
 exact ⟨by rw [← HR.out]; rfl,HB6.out⟩
theorem clone_vx (v:Value) (l:List (Int × Int)) (w:World) (hv:Vx w v l) (hne:0 < l.length) (hsm:l.length ≤ 1000) :
  Calls Tryz.prog 66 #[v] w fun e W'=>∃ p c,e = .returned (.slice p l.length c)∧VxF w.heap.size W' (.slice p l.length c) l∧Below w.heap.size w W':=by
 refine (clone_iv v l w (vx_bx hv) hne hsm).mono ?_
 rintro e w1 ⟨g,c,rfl,ho,hB⟩
 have hc:cz l = cr encB l:=by
  clear hv hne hsm ho
  induction l with
  | nil=>rfl
  | cons p l ih=>show _ :: _ :: cz l = _; rw [ih]; rfl
 rw [hc] at ho
 exact ⟨_,_,rfl,⟨Rx.own encB_len ho (by unfold maxLen; omega),fun b e=>(ho.lt b e).1⟩,hB⟩
set_option maxHeartbeats 4000000 in
theorem finished_ok (T H:Int) (pf pp:Option Addr) (nf np cf cp:Nat) (vt ve:Value) (V E:List (Int × Int)) (r:Bool) (w:World) (ht:Vx w vt V) (he:Vx w ve E) (hvt:AV V) (hve:AV E) (h1:1 ≤ V.length) (h6:V.length ≤ 6) (hl:E.length = V.length) (hr:(bndB V && bndB E) = r) :
  Calls Tryz.prog 95 #[.agg #[.int .i64 T,.int .i64 H,.slice pf nf cf,.slice pp np cp,vt,ve]] w fun e w'=>e = .returned (.tuple #[if r = true then .agg #[.int .i64 T,.int .i64 H,.slice pf nf cf,.slice pp np cp,vt,ve] else .agg #[.int .i64 0,.int .i64 0,.slice none 0 0,.slice none 0 0,.slice none 0 0,.slice none 0 0],.bool r])∧Below w.heap.size w w':=by
 obtain ⟨pt,ct,rfl⟩:=ht.cut
 obtain ⟨pe,ce,rfl⟩:=he.cut
 have KB:=Lib.hid (fun v l b w a c d e f=>bndS_ok v l b w a c d e f)
 have hE:Below w.heap.size w ((w.alloc (.cells #[.int .i64 T,.int .i64 H,.slice pf nf cf,.slice pp np cp,.slice pt V.length ct,.slice pe E.length ce] 39)).alloc (.cells #[.int .i64 0,.int .i64 0,.slice none 0 0,.slice none 0 0,.slice none 0 0,.slice none 0 0] 39)):=allocs_below [.cells #[.int .i64 T,.int .i64 H,.slice pf nf cf,.slice pp np cp,.slice pt V.length ct,.slice pe E.length ce] 39,.cells #[.int .i64 0,.int .i64 0,.slice none 0 0,.slice none 0 0,.slice none 0 0,.slice none 0 0] 39] w
 have HA:=Lib.hid (show Blk ((w.alloc (.cells #[.int .i64 T,.int .i64 H,.slice pf nf cf,.slice pp np cp,.slice pt V.length ct,.slice pe E.length ce] 39)).alloc (.cells #[.int .i64 0,.int .i64 0,.slice none 0 0,.slice none 0 0,.slice none 0 0,.slice none 0 0] 39)) (w.heap.size) (.cells #[.int .i64 T,.int .i64 H,.slice pf nf cf,.slice pp np cp,.slice pt V.length ct,.slice pe E.length ce] 39) from allocs_at [.cells #[.int .i64 T,.int .i64 H,.slice pf nf cf,.slice pp np cp,.slice pt V.length ct,.slice pe E.length ce] 39,.cells #[.int .i64 0,.int .i64 0,.slice none 0 0,.slice none 0 0,.slice none 0 0,.slice none 0 0] 39] w 0 _ rfl)
 have HZ:=Lib.hid (show Blk ((w.alloc (.cells #[.int .i64 T,.int .i64 H,.slice pf nf cf,.slice pp np cp,.slice pt V.length ct,.slice pe E.length ce] 39)).alloc (.cells #[.int .i64 0,.int .i64 0,.slice none 0 0,.slice none 0 0,.slice none 0 0,.slice none 0 0] 39)) (w.heap.size+1) (.cells #[.int .i64 0,.int .i64 0,.slice none 0 0,.slice none 0 0,.slice none 0 0,.slice none 0 0] 39) from allocs_at [.cells #[.int .i64 T,.int .i64 H,.slice pf nf cf,.slice pp np cp,.slice pt V.length ct,.slice pe E.length ce] 39,.cells #[.int .i64 0,.int .i64 0,.slice none 0 0,.slice none 0 0,.slice none 0 0,.slice none 0 0] 39] w 1 _ rfl)
 have HW:=Lib.hid hE
 have HT:=Lib.hid (ht.grow hE)
 have HE:=Lib.hid (he.grow hE)
 have HVT:=Lib.hid hvt
 have HVE:=Lib.hid hve
 have HL:=Lib.hid hl
 obtain ⟨b1,hb1⟩:∃ b,bndB V = b:=⟨_,rfl⟩
 obtain ⟨b2,hb2⟩:∃ b,bndB E = b:=⟨_,rfl⟩
 rw [hb1,hb2] at hr
 have HB1:=Lib.hid hb1
 have HB2:=Lib.hid hb2
 have HRR:=Lib.hid hr
 clear ht he hvt hve hl hb1 hb2 hE hr
 have x4:=heapN_cellj HA.out (k:=4) rfl
 go_enter Tryz.func95,Tryz.ntmps95
 go_wp2_with (fail)
 refine (KB.out _ V b1 _ HT.out HVT.out h1 h6 HB1.out).mono ?_
 rintro e w5 ⟨rfl,hB5⟩
 have HW5:=Lib.hid (below_then HW.out hB5)
 have hz:=HZ.out.grow hB5
 have ha:=HA.out.grow hB5
 have HE5:=Lib.hid (HE.out.grow hB5)
 clear hB5 x4
 cases b1 with
 | false =>
  obtain rfl:false = r:=HRR.out
  clear HRR
  have HW9:=Lib.hid (below_row (X:=w.heap.size+1) HW5.out (by omega) #[.int .i64 0,.int .i64 0,.slice none 0 0,.slice none 0 0,.slice none 0 0,.slice none 0 0])
  have hs9:=setRow_heap w5 (w.heap.size+1) _ #[.int .i64 0,.int .i64 0,.slice none 0 0,.slice none 0 0,.slice none 0 0,.slice none 0 0] _ _ hz
  have x0:=heapN_cellj hs9 (k:=0) rfl
  have x1:=heapN_cellj hs9 (k:=1) rfl
  have x2:=heapN_cellj hs9 (k:=2) rfl
  have x3:=heapN_cellj hs9 (k:=3) rfl
  have x4:=heapN_cellj hs9 (k:=4) rfl
  have x5:=heapN_cellj hs9 (k:=5) rfl
  clear hs9
  go_wp2_with (first | (refine wpList_buildTo rfl 39 #[] rfl _ rfl #[.int .i64 0,.int .i64 0,.slice none 0 0,.slice none 0 0,.slice none 0 0,.slice none 0 0] (by kernel_rfl) ?_) | (refine wpList_store_row rfl 39 (.tmp 2) (.tmp 14) rfl (w.heap.size+1) #[.int .i64 0,.int .i64 0,.slice none 0 0,.slice none 0 0,.slice none 0 0,.slice none 0 0] rfl rfl 39 _ (show w5.heap[w.heap.size+1]? = some (.cells _ 39 (0,0)) from hz) (by kernel_rfl) rfl (by first | rfl | decide | simp [Value.oneCell']) ?_))
  exact bodyPost_ret (v:=.tuple #[.agg #[.int .i64 0,.int .i64 0,.slice none 0 0,.slice none 0 0,.slice none 0 0,.slice none 0 0],.bool false]) (by simp [results,Tryz.results95,go_sem,x0,x1,x2,x3,x4,x5]) rfl ⟨rfl,HW9.out⟩
 | true =>
  have x5:=heapN_cellj ha (k:=5) rfl
  have HA5:=Lib.hid ha
  have HZ5:=Lib.hid hz
  clear ha hz
  go_wp2_with (fail)
  refine (KB.out _ E b2 _ HE5.out HVE.out (by rw [HL.out]; exact h1) (by rw [HL.out]; exact h6) HB2.out).mono ?_
  rintro e w6 ⟨rfl,hB6⟩
  have HW6:=Lib.hid (below_then HW5.out hB6)
  have hz:=HZ5.out.grow hB6
  have ha:=HA5.out.grow hB6
  clear hB6 x5
  cases b2 with
  | false =>
   obtain rfl:false = r:=HRR.out
   clear HRR
   have HW9:=Lib.hid (below_row (X:=w.heap.size+1) HW6.out (by omega) #[.int .i64 0,.int .i64 0,.slice none 0 0,.slice none 0 0,.slice none 0 0,.slice none 0 0])
   have hs9:=setRow_heap w6 (w.heap.size+1) _ #[.int .i64 0,.int .i64 0,.slice none 0 0,.slice none 0 0,.slice none 0 0,.slice none 0 0] _ _ hz
   have x0:=heapN_cellj hs9 (k:=0) rfl
   have x1:=heapN_cellj hs9 (k:=1) rfl
   have x2:=heapN_cellj hs9 (k:=2) rfl
   have x3:=heapN_cellj hs9 (k:=3) rfl
   have x4:=heapN_cellj hs9 (k:=4) rfl
   have x5:=heapN_cellj hs9 (k:=5) rfl
   clear hs9
   go_wp2_with (first | (refine wpList_buildTo rfl 39 #[] rfl _ rfl #[.int .i64 0,.int .i64 0,.slice none 0 0,.slice none 0 0,.slice none 0 0,.slice none 0 0] (by kernel_rfl) ?_) | (refine wpList_store_row rfl 39 (.tmp 2) (.tmp 14) rfl (w.heap.size+1) #[.int .i64 0,.int .i64 0,.slice none 0 0,.slice none 0 0,.slice none 0 0,.slice none 0 0] rfl rfl 39 _ (show w6.heap[w.heap.size+1]? = some (.cells _ 39 (0,0)) from hz) (by kernel_rfl) rfl (by first | rfl | decide | simp [Value.oneCell']) ?_))
   exact bodyPost_ret (v:=.tuple #[.agg #[.int .i64 0,.int .i64 0,.slice none 0 0,.slice none 0 0,.slice none 0 0,.slice none 0 0],.bool false]) (by simp [results,Tryz.results95,go_sem,x0,x1,x2,x3,x4,x5]) rfl ⟨rfl,HW9.out⟩
  | true =>
   obtain rfl:true = r:=HRR.out
   clear HRR
   have a0:=heapN_cellj ha (k:=0) rfl
   have a1:=heapN_cellj ha (k:=1) rfl
   have a2:=heapN_cellj ha (k:=2) rfl
   have a3:=heapN_cellj ha (k:=3) rfl
   have a4:=heapN_cellj ha (k:=4) rfl
   have a5:=heapN_cellj ha (k:=5) rfl
   have HW9:=Lib.hid (below_row (X:=w.heap.size+1) HW6.out (by omega) #[.int .i64 T,.int .i64 H,.slice pf nf cf,.slice pp np cp,.slice pt V.length ct,.slice pe E.length ce])
   have hs9:=setRow_heap w6 (w.heap.size+1) _ #[.int .i64 T,.int .i64 H,.slice pf nf cf,.slice pp np cp,.slice pt V.length ct,.slice pe E.length ce] _ _ hz
   have x0:=heapN_cellj hs9 (k:=0) rfl
   have x1:=heapN_cellj hs9 (k:=1) rfl
   have x2:=heapN_cellj hs9 (k:=2) rfl
   have x3:=heapN_cellj hs9 (k:=3) rfl
   have x4:=heapN_cellj hs9 (k:=4) rfl
   have x5:=heapN_cellj hs9 (k:=5) rfl
   clear hs9
   go_wp2_with (first | (refine wpList_store_row rfl 39 (.tmp 2) (.tmp 15) rfl (w.heap.size+1) #[.int .i64 T,.int .i64 H,.slice pf nf cf,.slice pp np cp,.slice pt V.length ct,.slice pe E.length ce] rfl rfl 39 _ (show w6.heap[w.heap.size+1]? = some (.cells _ 39 (0,0)) from hz) (by kernel_rfl) rfl (by first | rfl | decide | simp [Value.oneCell']) ?_))
   exact bodyPost_ret (v:=.tuple #[.agg #[.int .i64 T,.int .i64 H,.slice pf nf cf,.slice pp np cp,.slice pt V.length ct,.slice pe E.length ce],.bool true]) (by simp [results,Tryz.results95,go_sem,x0,x1,x2,x3,x4,x5]) rfl ⟨rfl,HW9.out⟩
set_option maxHeartbeats 8000000 in
theorem encl1_ok (N T H p0 p1:Int) (pl po px pb:Option Addr) (cl co cx cb:Nat) (L:List Is) (O:List Int) (X B:List (Int × Int)) (K b1 b2 b3 b4 b5:Nat) (w:World) (hl:Ix w (.slice pl L.length cl) L) (ho:Px w (.slice po O.length co) O) (hx:Vx w (.slice px X.length cx) X) (hb:Vx w (.slice pb B.length cb) B) (htv:tvB N L O = true) (hN1:NmL L) (hXN:(X.length:Int) = N) (hBN:(B.length:Int) = N) (hvx:AV X) (hvb:AV B) (ht1:-1048576 ≤ T) (ht2:T ≤ 1048576) (h0:0 ≤ H) (h1:H ≤ 1000000) (hK:K+1 ≤ 8) (hvp:VI p0 p1)
  (hC:Blk w b1 (.cells #[.int .i64 N,.slice pl L.length cl,.slice po O.length co] 35)) (hX:Blk w b2 (.cells #[.slice px X.length cx] 23)) (hB:Blk w b3 (.cells #[.slice pb B.length cb] 23)) (hS:Blk w b4 (.cells #[.int .i64 T,.int .i64 H] 116)) (hO:Blk w b5 (.cells #[.int .i64 K] 3)) :
  Calls Tryz.prog 93 #[.agg #[.int .i64 p0,.int .i64 p1],.pointer (some ⟨b1,0,none⟩),.pointer (some ⟨b2,0,none⟩),.pointer (some ⟨b3,0,none⟩),.pointer (some ⟨b4,0,none⟩),.pointer (some ⟨b5,0,none⟩)] w fun e w'=>∃ p c,e = .returned (.slice p X.length c)∧VxF w.heap.size w' (.slice p X.length c) (encA L O X B T H (p0,p1) K)∧Below w.heap.size w w':=by
 have hln:(encA L O X B T H (p0,p1) K).length = X.length:=encA_len (by omega)
 have KE:=Lib.hid (fun w a b c d=>EnclosureAt_ok N T H p0 p1 (.slice pl L.length cl) (.slice po O.length co) (.slice px X.length cx) (.slice pb B.length cb) L O X B K w a b c d htv hN1 hXN hBN hvx hvb ht1 ht2 h0 h1 hK hvp)
 have h6:=(tv_cases htv).2.1
 have H6:=Lib.hid (show X.length ≤ 6 by omega)
 have hE:Below w.heap.size w (w.alloc (.cells #[.int .i64 p0,.int .i64 p1] 66)):=allocs_below [.cells #[.int .i64 p0,.int .i64 p1] 66] w
 have HP:=Lib.hid (show Blk (w.alloc (.cells #[.int .i64 p0,.int .i64 p1] 66)) (w.heap.size) (.cells #[.int .i64 p0,.int .i64 p1] 66) from allocs_at [.cells #[.int .i64 p0,.int .i64 p1] 66] w 0 _ rfl)
 have HW:=Lib.hid hE
 have KE1:=Lib.hid (KE.out _ (hl.grow hE) (ho.grow hE) (hx.grow hE) (hb.grow hE))
 have u0:=heapN_cellj (hC.grow hE) (k:=0) rfl
 have u1:=heapN_cellj (hC.grow hE) (k:=1) rfl
 have u2:=heapN_cellj (hC.grow hE) (k:=2) rfl
 have u3:=heapN_cellj (hX.grow hE) (k:=0) rfl
 have u4:=heapN_cellj (hB.grow hE) (k:=0) rfl
 have u5:=heapN_cellj (hS.grow hE) (k:=0) rfl
 have u6:=heapN_cellj (hS.grow hE) (k:=1) rfl
 have u7:=heapN_cellj (hO.grow hE) (k:=0) rfl
 have u8:=heapN_cellj HP.out (k:=0) rfl
 have u9:=heapN_cellj HP.out (k:=1) rfl
 have HLN:=Lib.hid hln
 clear hE hl ho hx hb htv hXN hBN hvx hvb ht1 ht2 h0 h1 hK hvp hC hX hB hS hO h6 KE hln
 go_enter Tryz.func93,Tryz.ntmps93
 go_wp2_with (fail)
 refine KE1.out.mono ?_
 rintro e w8 ⟨p8,c8,rfl,ho8,hB8⟩
 have HV:=Lib.hid (show VxF w.heap.size w8 (.slice p8 X.length c8) (encA L O X B T H (p0,p1) K) from ⟨Rx.own encB_len (by rw [HLN.out]; exact ho8) (by rw [HLN.out]; unfold maxLen; have:=H6.out; omega),fun b e=>Nat.le_trans HW.out.size (ho8.lt b e).1⟩)
 have HB:=Lib.hid (below_then HW.out hB8)
 clear ho8 hB8 KE1 u0 u1 u2 u3 u4 u5 u6 u7 u8 u9
 go_wp2_with (fail)
 go_ret
 exact ⟨_,_,rfl,HV.out,HB.out⟩
end Go.Proofs.YtdfdpghdjlgghaaGreat
namespace Go.Proofs.YtdfdpghdjlgghaaGreat
open Go.ChangeShapes Go.WideShapes Go.ChangeAt Go.RowKit
set_option linter.unusedVariables false
set_option linter.unusedSimpArgs false
set_option maxRecDepth 100000
theorem imgP_iso {H H':Int} {x x' f f':Int × Int} (hx:VI x.1 x.2) (hx':VI x'.1 x'.2) (hf:VI f.1 f.2) (hf':VI f'.1 f'.2) (h0:0 ≤ H) (h1:H ≤ H') (h2:H' ≤ 1000000) (h:SbI x x') (g:SbI f f'):SbI (imgP H x f) (imgP H' x' f') :=
 opI_iso 7 hx (opI_vi 9 (num_vi h0 (Int.le_trans h1 h2)) hf) hx' (opI_vi 9 (num_vi (Int.le_trans h0 h1) h2) hf') h (opI_iso 9 (num_vi h0 (Int.le_trans h1 h2)) hf (num_vi (Int.le_trans h0 h1) h2) hf' ⟨Int.le_refl _,h1⟩ g)
theorem imgP_sup {H:Int} {x f:Int × Int} (hx:VI x.1 x.2) (hf:VI f.1 f.2) (h0:0 ≤ H) (h1:H ≤ 1000000):SbI x (imgP H x f):=by
 have hz:SbI (0,0) (opI 9 (0,H) f):=by
  have hm:SbI (opI 9 (0,0) f) (opI 9 (0,H) f):=opI_iso 9 (num_vi (Int.le_refl 0) (by decide)) hf (num_vi h0 h1) hf ⟨Int.le_refl _,h0⟩ ⟨Int.le_refl _,Int.le_refl _⟩
  have h0:SbI (0,0) (opI 9 (0,0) f):=by
   show Sb 0 0 (mulLo 0 0 f.1 f.2) (mulHi 0 0 f.1 f.2)
   unfold mulLo mulHi
   by_cases he:Ent 0 0 ∨ Ent f.1 f.2
   ·rw [if_pos he,if_pos he]; unfold Sb; omega
   ·rw [if_neg he,if_neg he]
    have e1:mn4 0 0 f.1 f.2 = 0:=by unfold mn4; omega
    have e2:mx4 0 0 f.1 f.2 = 0:=by unfold mx4; omega
    rw [e1,e2]
    unfold Sb
    decide
  exact ⟨Int.le_trans hm.1 h0.1,Int.le_trans h0.2 hm.2⟩
 have hs:SbI (opI 7 x (0,0)) (imgP H x f):=opI_iso 7 hx vi_zero hx (opI_vi 9 (num_vi h0 h1) hf) ⟨Int.le_refl _,Int.le_refl _⟩ hz
 have ea:=add_zero2 hx
 have e:opI 7 x (0,0) = x:=by
  show (addLo x.1 x.2 0 0,addHi x.1 x.2 0 0) = x
  rw [ea.1,ea.2]
 rwa [e] at hs
theorem outV_sb {V V':List (Int × Int)} (h:SbL V V') (O:List Int):SbL (outV V O) (outV V' O):=by
 refine ⟨by rw [out_len,out_len],fun i p q hp hq=>?_⟩
 unfold outV at hp hq
 rw [List.getElem?_map] at hp hq
 cases e:O[i]? with
 | none=>rw [e] at hp; cases hp
 | some y =>
  rw [e] at hp hq
  obtain rfl:=Option.some.inj hp
  obtain rfl:=Option.some.inj hq
  exact sbL_getD h y.toNat
theorem imgL_sb {H H':Int} {X X' F F':List (Int × Int)} (hX:SbL X X') (hF:SbL F F') (hl:F.length = X.length) (h0:0 ≤ H) (h1:H ≤ H') (h2:H' ≤ 1000000):SbL (imgL H X F) (imgL H' X' F'):=by
 refine ⟨by rw [imgL_len hl,imgL_len (by rw [← hX.1,← hF.1,hl]),hX.1],fun i p q hp hq=>?_⟩
 have hi:=(List.getElem?_eq_some_iff.1 hp).1
 rw [imgL_len hl] at hi
 obtain ⟨x,hx⟩:∃ x,X[i]? = some x:=⟨_,List.getElem?_eq_getElem hi⟩
 obtain ⟨f,hf⟩:∃ x,F[i]? = some x:=⟨_,List.getElem?_eq_getElem (by rw [hl]; exact hi)⟩
 obtain ⟨x',hx'⟩:∃ x,X'[i]? = some x:=⟨_,List.getElem?_eq_getElem (by rw [← hX.1]; exact hi)⟩
 obtain ⟨f',hf'⟩:∃ x,F'[i]? = some x:=⟨_,List.getElem?_eq_getElem (by rw [← hF.1,hl]; exact hi)⟩
 rw [imgL_at hx hf] at hp
 rw [imgL_at hx' hf'] at hq
 obtain rfl:=Option.some.inj hp
 obtain rfl:=Option.some.inj hq
 obtain ⟨a1,a2,a3⟩:=hX.2 i _ _ hx hx'
 obtain ⟨b1,b2,b3⟩:=hF.2 i _ _ hf hf'
 exact ⟨imgP_vi a1 b1 h0 (Int.le_trans h1 h2),imgP_vi a2 b2 (Int.le_trans h0 h1) h2,imgP_iso a1 a2 b1 b2 h0 h1 h2 a3 b3⟩
theorem imgT_iso {L:List Is} {O:List Int} {N T H T' H':Int} {X X' B B':List (Int × Int)} (htv:tvB N L O = true) (hXN:(X.length:Int) = N) (hX:SbL X X') (hB:SbL B B') (h0:0 ≤ H) (h1:H ≤ H') (h2:H' ≤ 1000000) (t1:-1048576 ≤ T') (t2:T' ≤ T) (t3:T+H ≤ T' + H') (t4:T' ≤ 1048576):SbL (imgT L O T H X B) (imgT L O T' H' X' B'):=by
 obtain ⟨_,_,_,hon,hvl,_⟩:=tv_cases htv
 have hv':VI T' (T' + H'):=time_vi t1 t4 (Int.le_trans h0 h1) h2
 have hv:VI T (T+H):=.inr ⟨by unfold Num; omega,by unfold Num; omega,by omega⟩
 exact imgL_sb hX (outV_sb (evL_iso (t:=(T,T+H)) (t':=(T',T' + H')) hB hv hv' ⟨t2,t3⟩ hvl) O) (by rw [out_len]; omega) h0 h1 h2
theorem sbL_refl {l:List (Int × Int)} (h:∀ p ∈ l,VI p.1 p.2):SbL l l:=⟨rfl,fun i p q hp hq=>by rw [hp] at hq; cases hq; exact ⟨h _ (List.mem_of_getElem? hp),h _ (List.mem_of_getElem? hp),Int.le_refl _,Int.le_refl _⟩⟩
theorem sb_of {l m:List (Int × Int)} (hl:l.length = m.length) (h1:∀ p ∈ l,VI p.1 p.2) (h2:∀ p ∈ m,VI p.1 p.2) (h:subB l m = true):SbL l m:=by
 refine ⟨hl,fun i p q hp hq=>⟨h1 _ (List.mem_of_getElem? hp),h2 _ (List.mem_of_getElem? hq),?_⟩⟩
 unfold subB at h
 have:=List.all_eq_true.1 h (p,q) (List.mem_of_getElem? (List.getElem?_zip_eq_some.2 ⟨hp,hq⟩))
 unfold sub1 at this
 simp at this
 exact this
def ImG (m:Nat) (img:List (Int × Int)→List (Int × Int)):Prop:=∀ B:List (Int × Int),B.length = m→(∀ p ∈ B,VI p.1 p.2)→(img B).length = m∧∀ p ∈ img B,VI p.1 p.2
theorem encG_some {m:Nat} {img:List (Int × Int)→List (Int × Int)} (hi:ImG m img):∀ (n:Nat) (h d:List (Int × Int)),h.length = m→(∀ p ∈ h,VI p.1 p.2)→encG img n h = some d →
  ∃ c:List (Int × Int),c.length = m∧(∀ p ∈ c,VI p.1 p.2)∧d = img c∧subB d c = true∧bndB d = true
 | 0,h,d,_,_,e=>by cases e
 | n+1,h,d,hl,hv,e=>by
  have h1:(infL h).length = m:=by rw [inf_len,hl]
  have h2:=inf_vi hv
  obtain ⟨h3,h4⟩:=hi _ h1 h2
  have hs:encG img (n+1) h = if (bndB (infL h) && bndB (img (infL h))) = false then none else if subB (img (infL h)) (infL h) = true then some (img (infL h)) else encG img n (hulL (infL h) (img (infL h))):=rfl
  rw [hs] at e
  by_cases a:(bndB (infL h) && bndB (img (infL h))) = false
  ·rw [if_pos a] at e; cases e
  ·rw [if_neg a] at e
   by_cases b:subB (img (infL h)) (infL h) = true
   ·rw [if_pos b] at e
    obtain rfl:=Option.some.inj e
    rw [Bool.not_eq_false,Bool.and_eq_true] at a
    exact ⟨_,h1,h2,rfl,b,a.2⟩
   ·rw [if_neg b] at e
    exact encG_some hi n _ d (by rw [hul_len (by rw [h3,h1]),h1]) (hul_vi h2 h4) e
theorem encR_some {m:Nat} {img:List (Int × Int)→List (Int × Int)} {X d:List (Int × Int)} (hi:ImG m img) (hX:X.length = m) (hv:∀ p ∈ X,VI p.1 p.2) (e:encR img X = some d) :
  ∃ c:List (Int × Int),c.length = m∧(∀ p ∈ c,VI p.1 p.2)∧d = img c∧subB d c = true∧bndB d = true:=by
 obtain ⟨h1,h2⟩:=hi X hX hv
 exact encG_some hi 8 _ d (by rw [hul_len (by rw [h1,hX]),hX]) (hul_vi hv h2) e
theorem encl_facts {L:List Is} {O:List Int} {N T H:Int} {X d:List (Int × Int)} (htv:tvB N L O = true) (hXN:(X.length:Int) = N) (hvx:∀ p ∈ X,VI p.1 p.2) (t1:-1048576 ≤ T) (t2:T ≤ 1048576) (h0:0 ≤ H) (h1:H ≤ 1000000) (e:encR (imgT L O T H X) X = some d) :
  d.length = X.length∧(∀ p ∈ d,VI p.1 p.2)∧bndB d = true∧SbL (imgT L O T H X d) d∧SbL X d:=by
 have hi:ImG X.length (imgT L O T H X):=fun B hB hv=>⟨imgT_len htv hXN,imgT_vi htv hvx hv t1 t2 h0 h1⟩
 obtain ⟨c,c1,c2,rfl,c4,c5⟩:=encR_some hi rfl hvx e
 obtain ⟨d1,d2⟩:=hi c c1 c2
 have hdc:SbL (imgT L O T H X c) c:=sb_of (by rw [d1,c1]) d2 c2 c4
 have him:=imgT_iso htv hXN (sbL_refl hvx) hdc h0 (Int.le_refl H) h1 t1 (Int.le_refl T) (Int.le_refl _) t2
 refine ⟨d1,d2,c5,him,d1.symm,fun i p q hp hq=>⟨hvx _ (List.mem_of_getElem? hp),d2 _ (List.mem_of_getElem? hq),?_⟩⟩
 obtain ⟨_,_,_,hon,hvl,_⟩:=tv_cases htv
 have hfl:(outV (evL c (T,T+H) L) O).length = X.length:=by rw [out_len]; omega
 obtain ⟨f,hf⟩:∃ f,(outV (evL c (T,T+H) L) O)[i]? = some f:=⟨_,List.getElem?_eq_getElem (by rw [hfl]; exact (List.getElem?_eq_some_iff.1 hp).1)⟩
 have hq2:(imgL H X (outV (evL c (T,T+H) L) O))[i]? = some q:=hq
 rw [imgL_at hp hf] at hq2
 obtain rfl:=Option.some.inj hq2
 exact imgP_sup (hvx _ (List.mem_of_getElem? hp)) (out_vi (evL_vi c2 (time_vi t1 t2 h0 h1) hvl) _ (List.mem_of_getElem? hf)) h0 h1
end Go.Proofs.YtdfdpghdjlgghaaGreat
