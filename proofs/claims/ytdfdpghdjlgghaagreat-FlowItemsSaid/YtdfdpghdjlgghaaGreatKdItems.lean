/-
 The law of items.
-/
import Derived.Test.YtdfdpghdjlgghaaGreatKdGo
namespace Go.Proofs.YtdfdpghdjlgghaaGreat
open Go.ChangeShapes Go.WideShapes Go.ChangeAt Go.RowKit
set_option linter.unusedVariables false
set_option linter.unusedSimpArgs false
set_option maxRecDepth 100000
attribute [local irreducible] Calls
theorem made_flow (vl:Value) (l:List Sr) (n:Nat) (w:World) (hl:Zx w vl l) (hx:∀ x ∈ l,SrW w x) (n1:1 ≤ n) (n6:n ≤ 6):Calls Tryz.prog 34 #[vl,.int .i64 n,.int .i64 8] w fun e w'=>∃ b c m o,e = .returned (.slice (some ⟨b,0,none⟩) (m+1) c)∧Fx w' (.slice (some ⟨b,0,none⟩) (m+1) c) o∧m+1 ≤ c∧o.length = m+1∧m ≤ 7∧FlG n o∧(∀ x ∈ o,subB x.F x.U = true∧subB x.E x.U = true)∧Below w.heap.size w w' :=
 (made14_ok vl l n w hl hx n1 n6).mono fun e w' ⟨p,c,o,he,hof,⟨t,hmd⟩,h1,h8,hB⟩=>by
 obtain ⟨m,hm⟩:∃ m,o.length = m+1:=⟨o.length - 1,by omega⟩
 have hrow:=hof.row
 obtain ⟨b,c',e9,-,-⟩:=ot_cut hrow (by omega)
 have hc:=own_cap hrow p o.length c rfl
 simp only [Value.slice.injEq] at e9
 obtain ⟨rfl,-,rfl⟩:=e9
 have hfx:=hof.fx (by omega) (fun x hx=>by have:=hmd.box x hx; omega)
 rw [hm] at he hfx hc
 exact ⟨b,c,m,o,he,hfx,hc,hm,by omega,hmd.flow n1 n6 h8,hmd.ins,hB⟩
theorem u8mod14 {n:Int} (h:0 ≤ n∧n ≤ 255):∃ k:Nat,1+n % 3 = (k:Int)∧1 ≤ k∧k ≤ 3:=⟨(1+n % 3).toNat,by omega,by omega,by omega⟩
set_option maxHeartbeats 64000000 in
theorem flitems (w:World) (a0L:Value) (a0n a0t a0p a0q a0i:Int) (a0l:List Sr) (h0L:Zx w a0L a0l∧∀ x ∈ a0l,SrW w x) (h0n:0 ≤ a0n∧a0n ≤ 255) (h0t:W64 a0t) (h0p:W64 a0p) (h0q:W64 a0q) (h0i:W64 a0i) :
  Calls Tryz.prog 11 #[.agg #[a0L,.int .u8 a0n,.int .i64 a0t,.int .i64 a0p,.int .i64 a0q,.int .i64 a0i]] w fun e w'=>e = .returned (.bool true)∧Below w.heap.size w w':=by
 obtain ⟨pL,cL,rfl⟩:=h0L.1.cut
 have HQ:=Lib.hid h0L
 obtain ⟨n,hn,n1,n3⟩:=u8mod14 h0n
 have hn0:=h0n.1
 have hn255:=h0n.2
 clear h0L h0t h0p h0q h0i h0n
 have hE:Below w.heap.size w (w.alloc (.cells #[.slice pL a0l.length cL,.int .u8 a0n,.int .i64 a0t,.int .i64 a0p,.int .i64 a0q,.int .i64 a0i] 81)):=(Below.refl _ _).alloc (Nat.le_refl _) _
 have HA:=Lib.hid (show Blk (w.alloc (.cells #[.slice pL a0l.length cL,.int .u8 a0n,.int .i64 a0t,.int .i64 a0p,.int .i64 a0q,.int .i64 a0i] 81)) w.heap.size (.cells #[.slice pL a0l.length cL,.int .u8 a0n,.int .i64 a0t,.int .i64 a0p,.int .i64 a0q,.int .i64 a0i] 81) from World.alloc_heap_new w _)
 have HW:=Lib.hid hE
 clear hE
 go_enter Tryz.func11,Tryz.ntmps11
 go_wp2_with (fail)
 refine (sanity14 _).mono ?_
 rintro e w2 ⟨rfl,hB2⟩
 have HA:=Lib.hid (HA.out.grow hB2)
 have HW:=Lib.hid (below_then HW.out hB2)
 have KM:=Lib.hid (made_flow (.slice pL a0l.length cL) a0l n w2 (HQ.out.1.grow HW.out) (fun x hx=>⟨(HQ.out.2 x hx).1.grow HW.out,(HQ.out.2 x hx).2⟩) n1 (by omega))
 have a0:=heapN_cellj HA.out (k:=0) rfl
 have a1:=heapN_cellj HA.out (k:=1) rfl
 clear hB2 HQ
 go_wp2_with (fail)
 refine KM.out.mono ?_
 rintro e w3 ⟨bl,cl,m,o,rfl,hfx,hcap,hol,hm7,hfl,hin,hB⟩
 have HF:=Lib.hid hfx
 have HFL:=Lib.hid hfl
 have HOL:=Lib.hid hol
 have HCAP:=Lib.hid hcap
 have HA:=Lib.hid (HA.out.grow hB)
 have HW:=Lib.hid (below_then HW.out hB)
 have KI:=Lib.hid (Items_ok a0i (some ⟨bl,0,none⟩) cl n o w3 (by rw [hol]; exact hfx) hfl)
 rw [hol] at KI
 have a5:=heapN_cellj HA.out (k:=5) rfl
 clear hfx hfl hcap hin hB a0 a1 KM hn
 go_wp2_with (fail)
 refine KI.out.mono ?_
 rintro e w4 ⟨q,d,ms,rfl,hms,himf,hB⟩
 have hml:ms.length = m+1:=himf.1.trans hol
 have hrow:=hms.row
 obtain ⟨bi,di,e9,-,-⟩:=ot_cut hrow (by omega)
 simp only [Value.slice.injEq] at e9
 obtain ⟨rfl,-,rfl⟩:=e9
 have hmz:=Rx.own encIm_len hms.row (by unfold maxLen; omega)
 rw [hml] at hmz
 have HMZ:=Lib.hid hmz
 have HMS:=Lib.hid hms
 have HIM:=Lib.hid himf
 have HML:=Lib.hid hml
 have HF:=Lib.hid (HF.out.grow hB)
 have HA:=Lib.hid (HA.out.grow hB)
 have HW:=Lib.hid (below_then HW.out hB)
 rw [hml]
 obtain ⟨xl,hxl⟩:∃ x,o[m]? = some x:=⟨_,List.getElem?_eq_getElem (by omega)⟩
 have hbl:=HFL.out.box xl (List.mem_of_getElem? hxl)
 have htl:=HFL.out.tm xl (List.mem_of_getElem? hxl)
 have KE:=Lib.hid (End_ok (some ⟨bl,0,none⟩) cl m o xl w4 (by omega) HF.out hol hxl (by omega) (by omega) (by omega) (by omega))
 obtain ⟨x0,hx0⟩:∃ x,o[0]? = some x:=⟨_,List.getElem?_eq_getElem (by omega)⟩
 obtain ⟨y0,hy0⟩:∃ y,ms[0]? = some y:=⟨_,List.getElem?_eq_getElem (by omega)⟩
 obtain ⟨yl,hyl⟩:∃ y,ms[m]? = some y:=⟨_,List.getElem?_eq_getElem (by omega)⟩
 have hp0:=himf.2 0 x0 y0 hx0 hy0
 have hpl:=himf.2 m xl yl hxl hyl
 obtain ⟨b9,o9,e9,-,rd0⟩:=zx_rd HF.out.1 hx0
 obtain ⟨rfl,rfl⟩:bl = b9∧0 = o9:=by simpa using e9
 obtain ⟨b9,o9,e9,-,rdy⟩:=HMZ.out.rd hy0
 obtain ⟨rfl,rfl⟩:bi = b9∧0 = o9:=by simpa using e9
 obtain ⟨b9,o9,e9,-,rdl⟩:=HMZ.out.rd hyl
 obtain ⟨rfl,rfl⟩:bi = b9∧0 = o9:=by simpa using e9
 have RL0:Hid (∀ g:Grown w4,g.w.cell? ⟨bl,0,none⟩ = some (.int .i64 x0.t)):=Lib.hid (fun g=>by simpa using (rd0 g).1)
 have RI0:Hid (∀ g:Grown w4,g.w.cell? ⟨bi,1,none⟩ = some (.int .i64 x0.t)):=Lib.hid (fun g=>by have:=rdy g 1 _ rfl; rw [hp0.2.1] at this; simpa using this)
 have RIL:Hid (∀ g:Grown w4,g.w.cell? ⟨bi,m * 4+2,none⟩ = some (.int .i64 (xl.t+xl.h))):=Lib.hid (fun g=>by have:=rdl g 2 _ rfl; rw [hpl.2.2.1] at this; simpa using this)
 obtain ⟨T0,hT0⟩:∃ t,x0.t = t:=⟨_,rfl⟩
 obtain ⟨TE,hTE⟩:∃ t,xl.t+xl.h = t:=⟨_,rfl⟩
 rw [hT0] at RL0 RI0
 rw [hTE] at RIL KE
 have HN:=Lib.hid (And.intro n1 n3)
 clear hms himf hmz hrow hB hxl hbl htl hx0 hy0 hyl hp0 hpl rd0 rdy rdl hT0 hTE hol hml a5 KI n1 n3
 go_wp2_with (fail)
 refine KE.out.mono ?_
 rintro e w5 ⟨qE,dE,rfl,-,hB⟩
 have HB5:=Lib.hid hB
 have HF:=Lib.hid (HF.out.grow hB)
 have HMZ:=Lib.hid (HMZ.out.grow hB)
 have HMS:=Lib.hid (HMS.out.grow hB)
 have HA:=Lib.hid (HA.out.grow hB)
 have HW:=Lib.hid (below_then HW.out hB)
 clear hB KE
 go_wp2_with (fail)
 have i0:=fun g:Grown w5=>RI0.out ⟨g.w,below_then HB5.out g.h⟩
 have l0:=fun g:Grown w5=>RL0.out ⟨g.w,below_then HB5.out g.h⟩
 have il:=fun g:Grown w5=>RIL.out ⟨g.w,below_then HB5.out g.h⟩
 have hw1:IntKind.i64.wrap (m:Int) = (m:Int):=wrapN _ (by omega) (by omega)
 have hw2:((m:Int)+1 ≤ (m:Int)) = False:=by simp only [eq_iff_iff,iff_false]; omega
 refine region_pred (lk [(31,fun z_ _=>z_ = .slice (some ⟨bi,0,none⟩) (m+1) d),(32,fun z_ _=>z_ = .int .i64 ((m:Int)+1)),(33,fun z_ _=>z_ = .slice (some ⟨bl,0,none⟩) (m+1) cl),(34,fun z_ _=>z_ = .int .i64 ((m:Int)+1)),(35,fun z_ _=>z_ = .bool false),(36,fun z_ _=>z_ = .bool false),(37,fun z_ _=>z_ = .bool true),(38,fun z_ _=>z_ = .bool false),(39,fun z_ _=>z_ = .bool false),(40,fun z_ _=>z_ = .bool false),(41,fun z_ _=>z_ = .slice (some ⟨bi,0,none⟩) (m+1) d),(42,fun z_ _=>z_ = .pointer (some ⟨bi,0,none⟩)),(43,fun z_ _=>z_ = .pointer (some ⟨bi,1,none⟩)),(44,fun z_ _=>z_ = .pointer (some ⟨bi,1,none⟩)),(45,fun z_ _=>z_ = .int .i64 T0),(46,fun z_ _=>z_ = .slice (some ⟨bl,0,none⟩) (m+1) cl),(47,fun z_ _=>z_ = .pointer (some ⟨bl,0,none⟩)),(48,fun z_ _=>z_ = .pointer (some ⟨bl,0,none⟩)),(49,fun z_ _=>z_ = .int .i64 T0),(50,fun z_ _=>z_ = .bool false),(51,fun z_ _=>z_ = .bool false),(52,fun z_ _=>z_ = .bool false),(53,fun z_ _=>z_ = .slice (some ⟨bi,0,none⟩) (m+1) d),(54,fun z_ _=>z_ = .slice (some ⟨bi,0,none⟩) (m+1) d),(55,fun z_ _=>z_ = .int .i64 ((m:Int)+1)),(56,fun z_ _=>z_ = .int .i64 (m:Int)),(57,fun z_ _=>z_ = .pointer (some ⟨bi,m * 4,none⟩)),(58,fun z_ _=>z_ = .pointer (some ⟨bi,m * 4+1,none⟩)),(59,fun z_ _=>z_ = .pointer (some ⟨bi,m * 4+2,none⟩)),(60,fun z_ _=>z_ = .int .i64 TE),(61,fun z_ _=>z_ = .int .i64 TE),(62,fun z_ _=>z_ = .bool false),(63,fun z_ _=>z_ = .bool false)]) (by kernel_rfl) (by kernel_rfl) (lk_steady _ ⟨steady_eq _,steady_eq _,steady_eq _,steady_eq _,steady_eq _,steady_eq _,steady_eq _,steady_eq _,steady_eq _,steady_eq _,steady_eq _,steady_eq _,steady_eq _,steady_eq _,steady_eq _,steady_eq _,steady_eq _,steady_eq _,steady_eq _,steady_eq _,steady_eq _,steady_eq _,steady_eq _,steady_eq _,steady_eq _,steady_eq _,steady_eq _,steady_eq _,steady_eq _,steady_eq _,steady_eq _,steady_eq _,steady_eq _,trivial⟩) ?_ ?_
 ·refine ⟨?_,?_,?_,?_,?_,?_,?_,?_,?_,?_,?_,?_,?_,?_,?_,?_,?_,?_,?_,?_,?_,?_,?_,?_,?_,?_,?_,?_,?_,?_,?_,?_,?_,trivial⟩
  ·exact ob_plain [5] rfl rfl fun _ g h=>by have y0:=seen_out rfl rfl h.1; exact tv14 (by simp [go_sem,y0]) rfl
  ·exact ob_plain [31] rfl rfl fun _ g h=>by obtain ⟨_,y0,rfl⟩:=seen_in rfl h.1; exact tv14 (by simp [go_sem,y0]) rfl
  ·exact ob_plain [4] rfl rfl fun _ g h=>by have y0:=seen_out rfl rfl h.1; exact tv14 (by simp [go_sem,y0]) rfl
  ·exact ob_plain [33] rfl rfl fun _ g h=>by obtain ⟨_,y0,rfl⟩:=seen_in rfl h.1; exact tv14 (by simp [go_sem,y0]) rfl
  ·exact ob_plain [32,34] rfl rfl fun _ g h=>by obtain ⟨_,y0,rfl⟩:=seen_in rfl h.1; obtain ⟨_,y1,rfl⟩:=seen_in rfl h.2.1; exact tv14 (by simp [go_sem,y0,y1]) rfl
  ·exact ob_plain [35] rfl rfl fun _ g h=>by obtain ⟨_,y0,rfl⟩:=seen_in rfl h.1; exact tv14 (by simp [go_sem,y0]) rfl
  ·exact gT14 [8] false 36 rfl rfl rfl fun _ g h=>by have y0:=seen_out rfl rfl h.1; exact tv14 (by simp [go_sem,y0]) rfl
  ·exact gT14 [37] false 36 rfl rfl rfl fun _ g h=>by obtain ⟨_,y0,rfl⟩:=seen_in rfl h.1; exact tv14 (by simp [go_sem,y0]) rfl
  ·exact ob_plain [36,38] rfl rfl fun _ g h=>by obtain ⟨_,y0,rfl⟩:=seen_in rfl h.1; obtain ⟨_,y1,rfl⟩:=seen_in rfl h.2.1; exact tv14 (by simp [go_sem,y0,y1]) rfl
  ·exact ob_plain [39] rfl rfl fun _ g h=>by obtain ⟨_,y0,rfl⟩:=seen_in rfl h.1; exact tv14 (by simp [go_sem,y0]) rfl
  ·exact gT14 [5] false 40 rfl rfl rfl fun _ g h=>by have y0:=seen_out rfl rfl h.1; exact tv14 (by simp [go_sem,y0]) rfl
  ·exact gT14 [41] false 40 rfl rfl rfl fun _ g h=>by obtain ⟨_,y0,rfl⟩:=seen_in rfl h.1; exact tv14 (by simp [go_sem,y0]) rfl
  ·exact gT14 [42] false 40 rfl rfl rfl fun _ g h=>by obtain ⟨_,y0,rfl⟩:=seen_in rfl h.1; exact tv14 (by simp [go_sem,y0]) rfl
  ·exact gT14 [43] false 40 rfl rfl rfl fun _ g h=>by obtain ⟨_,y0,rfl⟩:=seen_in rfl h.1; exact tv14 (by simp [go_sem,y0]) rfl
  ·exact gT14 [44] false 40 rfl rfl rfl fun _ g h=>by obtain ⟨_,y0,rfl⟩:=seen_in rfl h.1; exact tv14 (by simp [go_sem,y0,i0 g]) rfl
  ·exact gT14 [4] false 40 rfl rfl rfl fun _ g h=>by have y0:=seen_out rfl rfl h.1; exact tv14 (by simp [go_sem,y0]) rfl
  ·exact gT14 [46] false 40 rfl rfl rfl fun _ g h=>by obtain ⟨_,y0,rfl⟩:=seen_in rfl h.1; exact tv14 (by simp [go_sem,y0]) rfl
  ·exact gT14 [47] false 40 rfl rfl rfl fun _ g h=>by obtain ⟨_,y0,rfl⟩:=seen_in rfl h.1; exact tv14 (by simp [go_sem,y0]) rfl
  ·exact gT14 [48] false 40 rfl rfl rfl fun _ g h=>by obtain ⟨_,y0,rfl⟩:=seen_in rfl h.1; exact tv14 (by simp [go_sem,y0,l0 g]) rfl
  ·exact gT14 [45,49] false 40 rfl rfl rfl fun _ g h=>by obtain ⟨_,y0,rfl⟩:=seen_in rfl h.1; obtain ⟨_,y1,rfl⟩:=seen_in rfl h.2.1; exact tv14 (by simp [go_sem,y0,y1]) rfl
  ·exact ob_plain [40,50] rfl rfl fun _ g h=>by obtain ⟨_,y0,rfl⟩:=seen_in rfl h.1; obtain ⟨_,y1,rfl⟩:=seen_in rfl h.2.1; exact tv14 (by simp [go_sem,y0,y1]) rfl
  ·exact ob_plain [51] rfl rfl fun _ g h=>by obtain ⟨_,y0,rfl⟩:=seen_in rfl h.1; exact tv14 (by simp [go_sem,y0]) rfl
  ·exact gT14 [5] false 52 rfl rfl rfl fun _ g h=>by have y0:=seen_out rfl rfl h.1; exact tv14 (by simp [go_sem,y0]) rfl
  ·exact gT14 [5] false 52 rfl rfl rfl fun _ g h=>by have y0:=seen_out rfl rfl h.1; exact tv14 (by simp [go_sem,y0]) rfl
  ·exact gT14 [54] false 52 rfl rfl rfl fun _ g h=>by obtain ⟨_,y0,rfl⟩:=seen_in rfl h.1; exact tv14 (by simp [go_sem,y0]) rfl
  ·exact gT14 [55] false 52 rfl rfl rfl fun _ g h=>by obtain ⟨_,y0,rfl⟩:=seen_in rfl h.1; exact tv14 (by simp [go_sem,y0,hw1]) rfl
  ·exact gT14 [53,56] false 52 rfl rfl rfl fun _ g h=>by obtain ⟨_,y0,rfl⟩:=seen_in rfl h.1; obtain ⟨_,y1,rfl⟩:=seen_in rfl h.2.1; exact tv14 (by simp [go_sem,y0,y1,hw2]) rfl
  ·exact gT14 [57] false 52 rfl rfl rfl fun _ g h=>by obtain ⟨_,y0,rfl⟩:=seen_in rfl h.1; exact tv14 (by simp [go_sem,y0]) rfl
  ·exact gT14 [58] false 52 rfl rfl rfl fun _ g h=>by obtain ⟨_,y0,rfl⟩:=seen_in rfl h.1; exact tv14 (by simp [go_sem,y0]) rfl
  ·exact gT14 [59] false 52 rfl rfl rfl fun _ g h=>by obtain ⟨_,y0,rfl⟩:=seen_in rfl h.1; exact tv14 (by simp [go_sem,y0,il g]) rfl
  ·exact gT14 [7] false 52 rfl rfl rfl fun _ g h=>by have y0:=seen_out rfl rfl h.1; exact tv14 (by simp [go_sem,y0]) rfl
  ·exact gT14 [60,61] false 52 rfl rfl rfl fun _ g h=>by obtain ⟨_,y0,rfl⟩:=seen_in rfl h.1; obtain ⟨_,y1,rfl⟩:=seen_in rfl h.2.1; exact tv14 (by simp [go_sem,y0,y1]) rfl
  ·exact ob_plain [52,62] rfl rfl fun _ g h=>by obtain ⟨_,y0,rfl⟩:=seen_in rfl h.1; obtain ⟨_,y1,rfl⟩:=seen_in rfl h.2.1; exact tv14 (by simp [go_sem,y0,y1]) rfl
 rintro w6 hB _ rfl _ rfl _ rfl _ rfl _ rfl _ rfl _ rfl _ rfl _ rfl _ rfl _ rfl _ rfl _ rfl _ rfl _ rfl _ rfl _ rfl _ rfl _ rfl _ rfl _ rfl _ rfl _ rfl _ rfl _ rfl _ rfl _ rfl _ rfl _ rfl _ rfl _ rfl _ rfl _ rfl
 simp only [Act.put,List.setIfInBounds_toArray,List.set_cons_succ,List.set_cons_zero,List.filterMap_nil,finP]
 have HB6:=Lib.hid (below_then HB5.out hB)
 have HF:=Lib.hid (HF.out.grow hB)
 have HMZ:=Lib.hid (HMZ.out.grow hB)
 have HMS:=Lib.hid (HMS.out.grow hB)
 have HA:=Lib.hid (HA.out.grow hB)
 have HW:=Lib.hid (below_then HW.out hB)
 clear hB i0 l0 il RL0 RI0 RIL
 go_wp2_with (fail)
 clear hw1 hw2
 go_loopw [9] (fun i wr=>∃ k:Nat,i = .int .i64 k∧k ≤ m+1∧Below w6.heap.size w6 wr) (fun i _=>m+1 - (intOf i).toNat)
 case atStart=>exact ⟨0,rfl,Nat.zero_le _,Below.refl _ _⟩
 case round =>
  obtain ⟨k,rfl,hk,hB⟩:=hrel
  by_cases hlt:k < m+1
  ·have i2:(k:Int) < (m:Int)+1:=by omega
   obtain ⟨x,hx⟩:∃ x,o[k]? = some x:=⟨_,List.getElem?_eq_getElem (by have:=HOL.out; omega)⟩
   obtain ⟨y,hy⟩:∃ y,ms[k]? = some y:=⟨_,List.getElem?_eq_getElem (by have:=HML.out; omega)⟩
   obtain ⟨hyi,hlo,hhi,hBU⟩:=HIM.out.2 k x y hx hy
   have hxm:=List.mem_of_getElem? hx
   have htm:=HFL.out.tm x hxm
   have hbx:=HFL.out.box x hxm
   have hown:=HMS.out.el y (List.mem_of_getElem? hy)
   rw [hBU] at hown
   have hvb:=hown.vx (by have:=HFL.out.n6; omega)
   have HVB:=Lib.hid (hvb.grow hB)
   obtain ⟨b9,o9,e9,-,rd⟩:=HMZ.out.rd hy
   obtain ⟨rfl,rfl⟩:bi = b9∧0 = o9:=by simpa using e9
   obtain ⟨TL,hTL⟩:∃ t,x.t = t:=⟨_,rfl⟩
   obtain ⟨TH,hTH⟩:∃ t,x.t+x.h = t:=⟨_,rfl⟩
   have RC0:Hid (∀ g:Grown wr,g.w.cell? ⟨bi,k * 4,none⟩ = some (.int .i64 a0i)):=Lib.hid (fun g=>by have:=rd ⟨g.w,hB.trans (g.h.mono hB.size)⟩ 0 _ rfl; rw [hyi] at this; simpa using this)
   have RC1:Hid (∀ g:Grown wr,g.w.cell? ⟨bi,k * 4+1,none⟩ = some (.int .i64 TL)):=Lib.hid (fun g=>by have:=rd ⟨g.w,hB.trans (g.h.mono hB.size)⟩ 1 _ rfl; rw [hlo,hTL] at this; simpa using this)
   have RC2:Hid (∀ g:Grown wr,g.w.cell? ⟨bi,k * 4+2,none⟩ = some (.int .i64 TH)):=Lib.hid (fun g=>by have:=rd ⟨g.w,hB.trans (g.h.mono hB.size)⟩ 2 _ rfl; rw [hhi,hTH] at this; simpa using this)
   have RC3:Hid (∀ g:Grown wr,g.w.cell? ⟨bi,k * 4+3,none⟩ = some (.slice y.bp x.U.length y.bc)):=Lib.hid (fun g=>by have:=rd ⟨g.w,hB.trans (g.h.mono hB.size)⟩ 3 _ rfl; rw [hBU] at this; simpa using this)
   have RCP:Hid (∀ j,k = j+1→∀ g:Grown wr,g.w.cell? ⟨bi,j * 4+2,none⟩ = some (.int .i64 TL)):=Lib.hid (fun j hj g=>by
    obtain ⟨x',hx'⟩:∃ x,o[j]? = some x:=⟨_,List.getElem?_eq_getElem (by have:=HOL.out; omega)⟩
    obtain ⟨y',hy'⟩:∃ y,ms[j]? = some y:=⟨_,List.getElem?_eq_getElem (by have:=HML.out; omega)⟩
    have h3:=(HIM.out.2 j x' y' hx' hy').2.2.1
    have hc:=HFL.out.con j x' x hx' (by rw [← hj]; exact hx)
    obtain ⟨b9,o9,e9,-,rd'⟩:=HMZ.out.rd hy'
    obtain ⟨rfl,rfl⟩:bi = b9∧0 = o9:=by simpa using e9
    have:=rd' ⟨g.w,hB.trans (g.h.mono hB.size)⟩ 2 _ rfl
    rw [h3,← hc,hTL] at this
    simpa using this)
   have KD:=Lib.hid (During_ok (some ⟨bl,0,none⟩) cl n o TL TH wr (by rw [HOL.out]; exact HF.out.grow hB) (by rw [HOL.out]; exact HCAP.out) HFL.out ⟨bl,0,rfl⟩)
   rw [HOL.out] at KD
   have c1:=RC1.out ⟨wr,Below.refl _ _⟩
   have c2:=RC2.out ⟨wr,Below.refl _ _⟩
   have HX:Hid (∀ H:List (Int × Int),HulF n o TL TH (some H)→H.length = x.U.length∧((x.U.zip H).all sub1) = true):=Lib.hid (fun H h=>⟨by rw [h.1,hbx.2.2.1],h.2.2.1 x hxm (by omega) (by omega)⟩)
   have HX0:Hid (HulF n o TL TH none→False):=Lib.hid (fun h=>h x hxm (by omega) (by omega))
   have HAr:=Lib.hid (HA.out.grow hB)
   have HWr:=Lib.hid (below_then HW.out hB)
   have HBr:=Lib.hid hB
   clear hB rd hx hy hyi hlo hhi hBU hxm htm hbx hown hvb hTL hTH e9
   dsimp only at c1 c2
   go_wp2_with (fail)
   refine KD.out.mono ?_
   rintro e w7 ⟨r,u,hfst,he,hdu,hB⟩
   have hul:=dur_hul (hi:=TH) HFL.out hfst
   rcases hD:durR o TH r with _ | H
   ·rw [hD] at hul
    exact absurd hul HX0.out
   rw [hD] at he hdu hul
   subst he
   have hvu:Vx w7 u H:=hdu
   obtain ⟨pu,cu,rfl⟩:=hvu.cut
   obtain ⟨hHl,hsub⟩:=HX.out H hul
   have KS:=Lib.hid (fun w a b=>r3subset (.slice y.bp x.U.length y.bc) (.slice pu H.length cu) x.U H w a b hHl)
   rw [hsub] at KS
   have HVU:=Lib.hid hvu
   have HVB:=Lib.hid (HVB.out.grow hB)
   have HB7:=Lib.hid hB
   have HA7:=Lib.hid (HAr.out.grow hB)
   have HB67:=Lib.hid (HBr.out.trans (hB.mono HBr.out.size))
   clear hB hul hD hdu hvu hsub hHl hfst c1 c2 KD HX HX0
   go_wp2_with (fail)
   have hA7:=HA7.out
   have q0:=fun g:Grown w7=>RC0.out ⟨g.w,below_then HB7.out g.h⟩
   have q1:=fun g:Grown w7=>RC1.out ⟨g.w,below_then HB7.out g.h⟩
   have q3:=fun g:Grown w7=>RC3.out ⟨g.w,below_then HB7.out g.h⟩
   have a5:=fun g:Grown w7=>heapN_cellj (hA7.grow g.h) (k:=5) rfl
   rcases (show k = 0 ∨ 0 < k by omega) with rfl | hkp
   ·rw [Nat.zero_mul] at q0
    rw [Nat.zero_mul,Nat.zero_add] at q1 q3
    refine region_pred (lk [(80,fun z_ _=>z_ = .slice (some ⟨bi,0,none⟩) (m+1) d),(81,fun z_ _=>z_ = .int .i64 0),(82,fun z_ _=>z_ = .pointer (some ⟨bi,0,none⟩)),(83,fun z_ _=>z_ = .pointer (some ⟨bi,0,none⟩)),(84,fun z_ _=>z_ = .int .i64 a0i),(85,fun z_ _=>z_ = .pointer (some ⟨w.heap.size,5,none⟩)),(86,fun z_ _=>z_ = .int .i64 a0i),(87,fun z_ _=>z_ = .bool false),(88,fun z_ _=>z_ = .bool false),(89,fun z_ _=>z_ = .int .i64 0),(90,fun z_ _=>z_ = .bool false),(91,fun z_ _=>z_ = .bool false),(92,fun z_ _=>z_ = undef),(93,fun z_ _=>z_ = undef),(94,fun z_ _=>z_ = undef),(95,fun z_ _=>z_ = undef),(96,fun z_ _=>z_ = undef),(97,fun z_ _=>z_ = undef),(98,fun z_ _=>z_ = undef),(99,fun z_ _=>z_ = undef),(100,fun z_ _=>z_ = undef),(101,fun z_ _=>z_ = undef),(102,fun z_ _=>z_ = undef),(103,fun z_ _=>z_ = undef),(104,fun z_ _=>z_ = undef),(105,fun z_ _=>z_ = undef),(106,fun z_ _=>z_ = .bool false),(107,fun z_ _=>z_ = .bool false),(108,fun z_ _=>z_ = .bool false),(109,fun z_ _=>z_ = .bool true),(110,fun z_ _=>z_ = .bool false),(111,fun z_ _=>z_ = .bool false),(112,fun z_ _=>z_ = .bool false),(113,fun z_ _=>z_ = .slice (some ⟨bi,0,none⟩) (m+1) d),(114,fun z_ _=>z_ = .int .i64 0),(115,fun z_ _=>z_ = .pointer (some ⟨bi,0,none⟩)),(116,fun z_ _=>z_ = .pointer (some ⟨bi,3,none⟩)),(117,fun z_ _=>z_ = .slice y.bp x.U.length y.bc),(118,fun z_ _=>z_ = .slice pu H.length cu),(119,fun z_ _=>z_ = .bool true),(120,fun z_ _=>z_ = .bool false),(121,fun z_ _=>z_ = .bool false)]) (by kernel_rfl) (by kernel_rfl) (lk_steady _ ⟨steady_eq _,steady_eq _,steady_eq _,steady_eq _,steady_eq _,steady_eq _,steady_eq _,steady_eq _,steady_eq _,steady_eq _,steady_eq _,steady_eq _,steady_eq _,steady_eq _,steady_eq _,steady_eq _,steady_eq _,steady_eq _,steady_eq _,steady_eq _,steady_eq _,steady_eq _,steady_eq _,steady_eq _,steady_eq _,steady_eq _,steady_eq _,steady_eq _,steady_eq _,steady_eq _,steady_eq _,steady_eq _,steady_eq _,steady_eq _,steady_eq _,steady_eq _,steady_eq _,steady_eq _,steady_eq _,steady_eq _,steady_eq _,steady_eq _,trivial⟩) ?_ ?_
    ·refine ⟨?_,?_,?_,?_,?_,?_,?_,?_,?_,?_,?_,?_,?_,?_,?_,?_,?_,?_,?_,?_,?_,?_,?_,?_,?_,?_,?_,?_,?_,?_,?_,?_,?_,?_,?_,?_,?_,?_,?_,?_,?_,?_,trivial⟩
     ·exact ob_plain [5] rfl rfl fun _ g h=>by have y0:=seen_out rfl rfl h.1; exact tv14 (by simp [go_sem,y0]) rfl
     ·exact ob_plain [9] rfl rfl fun _ g h=>by have y0:=seen_out rfl rfl h.1; exact tv14 (by simp [go_sem,y0]) rfl
     ·exact ob_plain [80,81] rfl rfl fun _ g h=>by obtain ⟨_,y0,rfl⟩:=seen_in rfl h.1; obtain ⟨_,y1,rfl⟩:=seen_in rfl h.2.1; exact tv14 (by simp [go_sem,y0,y1]) rfl
     ·exact ob_plain [82] rfl rfl fun _ g h=>by obtain ⟨_,y0,rfl⟩:=seen_in rfl h.1; exact tv14 (by simp [go_sem,y0]) rfl
     ·exact ob_plain [83] rfl rfl fun _ g h=>by obtain ⟨_,y0,rfl⟩:=seen_in rfl h.1; exact tv14 (by simp [go_sem,y0,q0 g]) rfl
     ·exact ob_plain [1] rfl rfl fun _ g h=>by have y0:=seen_out rfl rfl h.1; exact tv14 (by simp [go_sem,y0]) rfl
     ·exact ob_plain [85] rfl rfl fun _ g h=>by obtain ⟨_,y0,rfl⟩:=seen_in rfl h.1; exact tv14 (by simp [go_sem,y0,a5 g]) rfl
     ·exact ob_plain [84,86] rfl rfl fun _ g h=>by obtain ⟨_,y0,rfl⟩:=seen_in rfl h.1; obtain ⟨_,y1,rfl⟩:=seen_in rfl h.2.1; exact tv14 (by simp [go_sem,y0,y1]) rfl
     ·exact ob_plain [87] rfl rfl fun _ g h=>by obtain ⟨_,y0,rfl⟩:=seen_in rfl h.1; exact tv14 (by simp [go_sem,y0]) rfl
     ·exact gT14 [9] false 88 rfl rfl rfl fun _ g h=>by have y0:=seen_out rfl rfl h.1; exact tv14 (by simp [go_sem,y0]) rfl
     ·exact gT14 [89] false 88 rfl rfl rfl fun _ g h=>by obtain ⟨_,y0,rfl⟩:=seen_in rfl h.1; exact tv14 (by simp [go_sem,y0]) rfl
     ·exact gT14 [90] false 88 rfl rfl rfl fun _ g h=>by obtain ⟨_,y0,rfl⟩:=seen_in rfl h.1; exact tv14 (by simp [go_sem,y0]) rfl
     ·exact ob_gfalse14 _ _ true 91 rfl rfl rfl rfl (fun v w h=>h) (fun _=>rfl)
     ·exact ob_gfalse14 _ _ true 91 rfl rfl rfl rfl (fun v w h=>h) (fun _=>rfl)
     ·exact ob_gfalse14 _ _ true 91 rfl rfl rfl rfl (fun v w h=>h) (fun _=>rfl)
     ·exact ob_gfalse14 _ _ true 91 rfl rfl rfl rfl (fun v w h=>h) (fun _=>rfl)
     ·exact ob_gfalse14 _ _ true 91 rfl rfl rfl rfl (fun v w h=>h) (fun _=>rfl)
     ·exact ob_gfalse14 _ _ true 91 rfl rfl rfl rfl (fun v w h=>h) (fun _=>rfl)
     ·exact ob_gfalse14 _ _ true 91 rfl rfl rfl rfl (fun v w h=>h) (fun _=>rfl)
     ·exact ob_gfalse14 _ _ true 91 rfl rfl rfl rfl (fun v w h=>h) (fun _=>rfl)
     ·exact ob_gfalse14 _ _ true 91 rfl rfl rfl rfl (fun v w h=>h) (fun _=>rfl)
     ·exact ob_gfalse14 _ _ true 91 rfl rfl rfl rfl (fun v w h=>h) (fun _=>rfl)
     ·exact ob_gfalse14 _ _ true 91 rfl rfl rfl rfl (fun v w h=>h) (fun _=>rfl)
     ·exact ob_gfalse14 _ _ true 91 rfl rfl rfl rfl (fun v w h=>h) (fun _=>rfl)
     ·exact ob_gfalse14 _ _ true 91 rfl rfl rfl rfl (fun v w h=>h) (fun _=>rfl)
     ·exact ob_gfalse14 _ _ true 91 rfl rfl rfl rfl (fun v w h=>h) (fun _=>rfl)
     ·exact gT14 [91,105] false 88 rfl rfl rfl fun _ g h=>by obtain ⟨_,y0,rfl⟩:=seen_in rfl h.1; obtain ⟨_,y1,rfl⟩:=seen_in rfl h.2.1; exact tv14 (by simp [go_sem,y0,y1]) rfl
     ·exact ob_plain [88,106] rfl rfl fun _ g h=>by obtain ⟨_,y0,rfl⟩:=seen_in rfl h.1; obtain ⟨_,y1,rfl⟩:=seen_in rfl h.2.1; exact tv14 (by simp [go_sem,y0,y1]) rfl
     ·exact ob_plain [107] rfl rfl fun _ g h=>by obtain ⟨_,y0,rfl⟩:=seen_in rfl h.1; exact tv14 (by simp [go_sem,y0]) rfl
     ·exact gT14 [11] false 108 rfl rfl rfl fun _ g h=>by have y0:=seen_out rfl rfl h.1; exact tv14 (by simp [go_sem,y0]) rfl
     ·exact gT14 [109] false 108 rfl rfl rfl fun _ g h=>by obtain ⟨_,y0,rfl⟩:=seen_in rfl h.1; exact tv14 (by simp [go_sem,y0]) rfl
     ·exact ob_plain [108,110] rfl rfl fun _ g h=>by obtain ⟨_,y0,rfl⟩:=seen_in rfl h.1; obtain ⟨_,y1,rfl⟩:=seen_in rfl h.2.1; exact tv14 (by simp [go_sem,y0,y1]) rfl
     ·exact ob_plain [111] rfl rfl fun _ g h=>by obtain ⟨_,y0,rfl⟩:=seen_in rfl h.1; exact tv14 (by simp [go_sem,y0]) rfl
     ·exact gT14 [5] false 112 rfl rfl rfl fun _ g h=>by have y0:=seen_out rfl rfl h.1; exact tv14 (by simp [go_sem,y0]) rfl
     ·exact gT14 [9] false 112 rfl rfl rfl fun _ g h=>by have y0:=seen_out rfl rfl h.1; exact tv14 (by simp [go_sem,y0]) rfl
     ·exact gT14 [113,114] false 112 rfl rfl rfl fun _ g h=>by obtain ⟨_,y0,rfl⟩:=seen_in rfl h.1; obtain ⟨_,y1,rfl⟩:=seen_in rfl h.2.1; exact tv14 (by simp [go_sem,y0,y1]) rfl
     ·exact gT14 [115] false 112 rfl rfl rfl fun _ g h=>by obtain ⟨_,y0,rfl⟩:=seen_in rfl h.1; exact tv14 (by simp [go_sem,y0]) rfl
     ·exact gT14 [116] false 112 rfl rfl rfl fun _ g h=>by obtain ⟨_,y0,rfl⟩:=seen_in rfl h.1; exact tv14 (by simp [go_sem,y0,q3 g]) rfl
     ·exact gT14 [10] false 112 rfl rfl rfl fun _ g h=>by have y0:=seen_out rfl rfl h.1; exact tv14 (by simp [go_sem,y0]) rfl
     ·exact gT14 [117,118] false 112 rfl rfl rfl fun _ g h=>by obtain ⟨_,y0,rfl⟩:=seen_in rfl h.1; obtain ⟨_,y1,rfl⟩:=seen_in rfl h.2.1; exact tupon_enter (f:=25) (args:=#[.slice y.bp x.U.length y.bc,.slice pu H.length cu]) (by simp [go_sem,y0,y1]) rfl ((KS.out g.w (vx_bx (HVB.out.grow g.h)) (vx_bx (HVU.out.grow g.h))).mono fun e w' ⟨he,hB⟩=>⟨_,he,hB,rfl⟩)
     ·exact gT14 [119] false 112 rfl rfl rfl fun _ g h=>by obtain ⟨_,y0,rfl⟩:=seen_in rfl h.1; exact tv14 (by simp [go_sem,y0]) rfl
     ·exact ob_plain [112,120] rfl rfl fun _ g h=>by obtain ⟨_,y0,rfl⟩:=seen_in rfl h.1; obtain ⟨_,y1,rfl⟩:=seen_in rfl h.2.1; exact tv14 (by simp [go_sem,y0,y1]) rfl
    rintro w8 hB _ rfl _ rfl _ rfl _ rfl _ rfl _ rfl _ rfl _ rfl _ rfl _ rfl _ rfl _ rfl _ rfl _ rfl _ rfl _ rfl _ rfl _ rfl _ rfl _ rfl _ rfl _ rfl _ rfl _ rfl _ rfl _ rfl _ rfl _ rfl _ rfl _ rfl _ rfl _ rfl _ rfl _ rfl _ rfl _ rfl _ rfl _ rfl _ rfl _ rfl _ rfl _ rfl
    simp only [Act.put,List.setIfInBounds_toArray,List.set_cons_succ,List.set_cons_zero,List.filterMap_nil,finP]
    have HB8:=Lib.hid (HB67.out.trans (hB.mono HB67.out.size))
    clear hB a5 q0 q1 q3
    go_wp2_with (fail)
    go_roundw
    case rel=>exact ⟨0+1,by go_num,by omega,HB8.out⟩
    case measure=>simp [intOf] <;> omega
   ·obtain ⟨j,hj⟩:∃ j,k = j+1:=⟨k - 1,by omega⟩
    have q2:=fun g:Grown w7=>RCP.out j hj ⟨g.w,below_then HB7.out g.h⟩
    have hj2:IntKind.i64.wrap ((k:Int) - 1) = (j:Int):=by rw [wrapN _ (by omega) (by omega)]; omega
    have hj3:(j:Int) < (m:Int)+1:=by omega
    have hj4:j < m+1:=by omega
    clear hj
    refine region_pred (lk [(80,fun z_ _=>z_ = .slice (some ⟨bi,0,none⟩) (m+1) d),(81,fun z_ _=>z_ = .int .i64 (k:Int)),(82,fun z_ _=>z_ = .pointer (some ⟨bi,k * 4,none⟩)),(83,fun z_ _=>z_ = .pointer (some ⟨bi,k * 4,none⟩)),(84,fun z_ _=>z_ = .int .i64 a0i),(85,fun z_ _=>z_ = .pointer (some ⟨w.heap.size,5,none⟩)),(86,fun z_ _=>z_ = .int .i64 a0i),(87,fun z_ _=>z_ = .bool false),(88,fun z_ _=>z_ = .bool false),(89,fun z_ _=>z_ = .int .i64 (k:Int)),(90,fun z_ _=>z_ = .bool true),(91,fun z_ _=>z_ = .bool true),(92,fun z_ _=>z_ = .slice (some ⟨bi,0,none⟩) (m+1) d),(93,fun z_ _=>z_ = .int .i64 (k:Int)),(94,fun z_ _=>z_ = .pointer (some ⟨bi,k * 4,none⟩)),(95,fun z_ _=>z_ = .pointer (some ⟨bi,k * 4+1,none⟩)),(96,fun z_ _=>z_ = .pointer (some ⟨bi,k * 4+1,none⟩)),(97,fun z_ _=>z_ = .int .i64 TL),(98,fun z_ _=>z_ = .slice (some ⟨bi,0,none⟩) (m+1) d),(99,fun z_ _=>z_ = .int .i64 (k:Int)),(100,fun z_ _=>z_ = .int .i64 (j:Int)),(101,fun z_ _=>z_ = .pointer (some ⟨bi,j * 4,none⟩)),(102,fun z_ _=>z_ = .pointer (some ⟨bi,j * 4+1,none⟩)),(103,fun z_ _=>z_ = .pointer (some ⟨bi,j * 4+2,none⟩)),(104,fun z_ _=>z_ = .int .i64 TL),(105,fun z_ _=>z_ = .bool false),(106,fun z_ _=>z_ = .bool false),(107,fun z_ _=>z_ = .bool false),(108,fun z_ _=>z_ = .bool false),(109,fun z_ _=>z_ = .bool true),(110,fun z_ _=>z_ = .bool false),(111,fun z_ _=>z_ = .bool false),(112,fun z_ _=>z_ = .bool false),(113,fun z_ _=>z_ = .slice (some ⟨bi,0,none⟩) (m+1) d),(114,fun z_ _=>z_ = .int .i64 (k:Int)),(115,fun z_ _=>z_ = .pointer (some ⟨bi,k * 4,none⟩)),(116,fun z_ _=>z_ = .pointer (some ⟨bi,k * 4+3,none⟩)),(117,fun z_ _=>z_ = .slice y.bp x.U.length y.bc),(118,fun z_ _=>z_ = .slice pu H.length cu),(119,fun z_ _=>z_ = .bool true),(120,fun z_ _=>z_ = .bool false),(121,fun z_ _=>z_ = .bool false)]) (by kernel_rfl) (by kernel_rfl) (lk_steady _ ⟨steady_eq _,steady_eq _,steady_eq _,steady_eq _,steady_eq _,steady_eq _,steady_eq _,steady_eq _,steady_eq _,steady_eq _,steady_eq _,steady_eq _,steady_eq _,steady_eq _,steady_eq _,steady_eq _,steady_eq _,steady_eq _,steady_eq _,steady_eq _,steady_eq _,steady_eq _,steady_eq _,steady_eq _,steady_eq _,steady_eq _,steady_eq _,steady_eq _,steady_eq _,steady_eq _,steady_eq _,steady_eq _,steady_eq _,steady_eq _,steady_eq _,steady_eq _,steady_eq _,steady_eq _,steady_eq _,steady_eq _,steady_eq _,steady_eq _,trivial⟩) ?_ ?_
    ·refine ⟨?_,?_,?_,?_,?_,?_,?_,?_,?_,?_,?_,?_,?_,?_,?_,?_,?_,?_,?_,?_,?_,?_,?_,?_,?_,?_,?_,?_,?_,?_,?_,?_,?_,?_,?_,?_,?_,?_,?_,?_,?_,?_,trivial⟩
     ·exact ob_plain [5] rfl rfl fun _ g h=>by have y0:=seen_out rfl rfl h.1; exact tv14 (by simp [go_sem,y0]) rfl
     ·exact ob_plain [9] rfl rfl fun _ g h=>by have y0:=seen_out rfl rfl h.1; exact tv14 (by simp [go_sem,y0]) rfl
     ·exact ob_plain [80,81] rfl rfl fun _ g h=>by obtain ⟨_,y0,rfl⟩:=seen_in rfl h.1; obtain ⟨_,y1,rfl⟩:=seen_in rfl h.2.1; exact tv14 (by simp [go_sem,y0,y1,i2,hlt]) rfl
     ·exact ob_plain [82] rfl rfl fun _ g h=>by obtain ⟨_,y0,rfl⟩:=seen_in rfl h.1; exact tv14 (by simp [go_sem,y0]) rfl
     ·exact ob_plain [83] rfl rfl fun _ g h=>by obtain ⟨_,y0,rfl⟩:=seen_in rfl h.1; exact tv14 (by simp [go_sem,y0,q0 g]) rfl
     ·exact ob_plain [1] rfl rfl fun _ g h=>by have y0:=seen_out rfl rfl h.1; exact tv14 (by simp [go_sem,y0]) rfl
     ·exact ob_plain [85] rfl rfl fun _ g h=>by obtain ⟨_,y0,rfl⟩:=seen_in rfl h.1; exact tv14 (by simp [go_sem,y0,a5 g]) rfl
     ·exact ob_plain [84,86] rfl rfl fun _ g h=>by obtain ⟨_,y0,rfl⟩:=seen_in rfl h.1; obtain ⟨_,y1,rfl⟩:=seen_in rfl h.2.1; exact tv14 (by simp [go_sem,y0,y1]) rfl
     ·exact ob_plain [87] rfl rfl fun _ g h=>by obtain ⟨_,y0,rfl⟩:=seen_in rfl h.1; exact tv14 (by simp [go_sem,y0]) rfl
     ·exact gT14 [9] false 88 rfl rfl rfl fun _ g h=>by have y0:=seen_out rfl rfl h.1; exact tv14 (by simp [go_sem,y0]) rfl
     ·exact gT14 [89] false 88 rfl rfl rfl fun _ g h=>by obtain ⟨_,y0,rfl⟩:=seen_in rfl h.1; exact tv14 (by simp [go_sem,y0,hkp]) rfl
     ·exact gT14 [90] false 88 rfl rfl rfl fun _ g h=>by obtain ⟨_,y0,rfl⟩:=seen_in rfl h.1; exact tv14 (by simp [go_sem,y0]) rfl
     ·exact gT14 [5] true 91 rfl rfl rfl fun _ g h=>by have y0:=seen_out rfl rfl h.1; exact tv14 (by simp [go_sem,y0]) rfl
     ·exact gT14 [9] true 91 rfl rfl rfl fun _ g h=>by have y0:=seen_out rfl rfl h.1; exact tv14 (by simp [go_sem,y0]) rfl
     ·exact gT14 [92,93] true 91 rfl rfl rfl fun _ g h=>by obtain ⟨_,y0,rfl⟩:=seen_in rfl h.1; obtain ⟨_,y1,rfl⟩:=seen_in rfl h.2.1; exact tv14 (by simp [go_sem,y0,y1,i2,hlt]) rfl
     ·exact gT14 [94] true 91 rfl rfl rfl fun _ g h=>by obtain ⟨_,y0,rfl⟩:=seen_in rfl h.1; exact tv14 (by simp [go_sem,y0]) rfl
     ·exact gT14 [95] true 91 rfl rfl rfl fun _ g h=>by obtain ⟨_,y0,rfl⟩:=seen_in rfl h.1; exact tv14 (by simp [go_sem,y0]) rfl
     ·exact gT14 [96] true 91 rfl rfl rfl fun _ g h=>by obtain ⟨_,y0,rfl⟩:=seen_in rfl h.1; exact tv14 (by simp [go_sem,y0,q1 g]) rfl
     ·exact gT14 [5] true 91 rfl rfl rfl fun _ g h=>by have y0:=seen_out rfl rfl h.1; exact tv14 (by simp [go_sem,y0]) rfl
     ·exact gT14 [9] true 91 rfl rfl rfl fun _ g h=>by have y0:=seen_out rfl rfl h.1; exact tv14 (by simp [go_sem,y0]) rfl
     ·exact gT14 [99] true 91 rfl rfl rfl fun _ g h=>by obtain ⟨_,y0,rfl⟩:=seen_in rfl h.1; exact tv14 (by simp [go_sem,y0,hj2]) rfl
     ·exact gT14 [98,100] true 91 rfl rfl rfl fun _ g h=>by obtain ⟨_,y0,rfl⟩:=seen_in rfl h.1; obtain ⟨_,y1,rfl⟩:=seen_in rfl h.2.1; exact tv14 (by simp [go_sem,y0,y1,hj3,hj4]) rfl
     ·exact gT14 [101] true 91 rfl rfl rfl fun _ g h=>by obtain ⟨_,y0,rfl⟩:=seen_in rfl h.1; exact tv14 (by simp [go_sem,y0]) rfl
     ·exact gT14 [102] true 91 rfl rfl rfl fun _ g h=>by obtain ⟨_,y0,rfl⟩:=seen_in rfl h.1; exact tv14 (by simp [go_sem,y0]) rfl
     ·exact gT14 [103] true 91 rfl rfl rfl fun _ g h=>by obtain ⟨_,y0,rfl⟩:=seen_in rfl h.1; exact tv14 (by simp [go_sem,y0,q2 g]) rfl
     ·exact gT14 [97,104] true 91 rfl rfl rfl fun _ g h=>by obtain ⟨_,y0,rfl⟩:=seen_in rfl h.1; obtain ⟨_,y1,rfl⟩:=seen_in rfl h.2.1; exact tv14 (by simp [go_sem,y0,y1]) rfl
     ·exact gT14 [91,105] false 88 rfl rfl rfl fun _ g h=>by obtain ⟨_,y0,rfl⟩:=seen_in rfl h.1; obtain ⟨_,y1,rfl⟩:=seen_in rfl h.2.1; exact tv14 (by simp [go_sem,y0,y1]) rfl
     ·exact ob_plain [88,106] rfl rfl fun _ g h=>by obtain ⟨_,y0,rfl⟩:=seen_in rfl h.1; obtain ⟨_,y1,rfl⟩:=seen_in rfl h.2.1; exact tv14 (by simp [go_sem,y0,y1]) rfl
     ·exact ob_plain [107] rfl rfl fun _ g h=>by obtain ⟨_,y0,rfl⟩:=seen_in rfl h.1; exact tv14 (by simp [go_sem,y0]) rfl
     ·exact gT14 [11] false 108 rfl rfl rfl fun _ g h=>by have y0:=seen_out rfl rfl h.1; exact tv14 (by simp [go_sem,y0]) rfl
     ·exact gT14 [109] false 108 rfl rfl rfl fun _ g h=>by obtain ⟨_,y0,rfl⟩:=seen_in rfl h.1; exact tv14 (by simp [go_sem,y0]) rfl
     ·exact ob_plain [108,110] rfl rfl fun _ g h=>by obtain ⟨_,y0,rfl⟩:=seen_in rfl h.1; obtain ⟨_,y1,rfl⟩:=seen_in rfl h.2.1; exact tv14 (by simp [go_sem,y0,y1]) rfl
     ·exact ob_plain [111] rfl rfl fun _ g h=>by obtain ⟨_,y0,rfl⟩:=seen_in rfl h.1; exact tv14 (by simp [go_sem,y0]) rfl
     ·exact gT14 [5] false 112 rfl rfl rfl fun _ g h=>by have y0:=seen_out rfl rfl h.1; exact tv14 (by simp [go_sem,y0]) rfl
     ·exact gT14 [9] false 112 rfl rfl rfl fun _ g h=>by have y0:=seen_out rfl rfl h.1; exact tv14 (by simp [go_sem,y0]) rfl
     ·exact gT14 [113,114] false 112 rfl rfl rfl fun _ g h=>by obtain ⟨_,y0,rfl⟩:=seen_in rfl h.1; obtain ⟨_,y1,rfl⟩:=seen_in rfl h.2.1; exact tv14 (by simp [go_sem,y0,y1,i2,hlt]) rfl
     ·exact gT14 [115] false 112 rfl rfl rfl fun _ g h=>by obtain ⟨_,y0,rfl⟩:=seen_in rfl h.1; exact tv14 (by simp [go_sem,y0]) rfl
     ·exact gT14 [116] false 112 rfl rfl rfl fun _ g h=>by obtain ⟨_,y0,rfl⟩:=seen_in rfl h.1; exact tv14 (by simp [go_sem,y0,q3 g]) rfl
     ·exact gT14 [10] false 112 rfl rfl rfl fun _ g h=>by have y0:=seen_out rfl rfl h.1; exact tv14 (by simp [go_sem,y0]) rfl
     ·exact gT14 [117,118] false 112 rfl rfl rfl fun _ g h=>by obtain ⟨_,y0,rfl⟩:=seen_in rfl h.1; obtain ⟨_,y1,rfl⟩:=seen_in rfl h.2.1; exact tupon_enter (f:=25) (args:=#[.slice y.bp x.U.length y.bc,.slice pu H.length cu]) (by simp [go_sem,y0,y1]) rfl ((KS.out g.w (vx_bx (HVB.out.grow g.h)) (vx_bx (HVU.out.grow g.h))).mono fun e w' ⟨he,hB⟩=>⟨_,he,hB,rfl⟩)
     ·exact gT14 [119] false 112 rfl rfl rfl fun _ g h=>by obtain ⟨_,y0,rfl⟩:=seen_in rfl h.1; exact tv14 (by simp [go_sem,y0]) rfl
     ·exact ob_plain [112,120] rfl rfl fun _ g h=>by obtain ⟨_,y0,rfl⟩:=seen_in rfl h.1; obtain ⟨_,y1,rfl⟩:=seen_in rfl h.2.1; exact tv14 (by simp [go_sem,y0,y1]) rfl
    rintro w8 hB _ rfl _ rfl _ rfl _ rfl _ rfl _ rfl _ rfl _ rfl _ rfl _ rfl _ rfl _ rfl _ rfl _ rfl _ rfl _ rfl _ rfl _ rfl _ rfl _ rfl _ rfl _ rfl _ rfl _ rfl _ rfl _ rfl _ rfl _ rfl _ rfl _ rfl _ rfl _ rfl _ rfl _ rfl _ rfl _ rfl _ rfl _ rfl _ rfl _ rfl _ rfl _ rfl
    simp only [Act.put,List.setIfInBounds_toArray,List.set_cons_succ,List.set_cons_zero,List.filterMap_nil,finP]
    have HB8:=Lib.hid (HB67.out.trans (hB.mono HB67.out.size))
    clear hB a5 q0 q1 q3 q2 hj2 hj3 hj4
    go_wp2_with (fail)
    go_roundw
    case rel=>exact ⟨k+1,by go_num,by omega,HB8.out⟩
    case measure=>simp [intOf] <;> omega
  ·obtain rfl:k = m+1:=by omega
   have HW8:=Lib.hid (below_then HW.out hB)
   clear hB
   go_wp2_with (fail)
   exact bodyPost_ret (v:=.bool true) (by simp [results,Tryz.results11,go_sem]) rfl ⟨rfl,HW8.out⟩
end Go.Proofs.YtdfdpghdjlgghaaGreat
