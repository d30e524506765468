/-
 Sk Ca
-/
import Derived.Test.YtdfdpghdjlgghaaGreatKds
import Derived.Test.YtdfdpghdjlgghaaGreatKdy
import Derived.Test.YtdfdpghdjlgghaaGreatKdzd
namespace Go.Proofs.YtdfdpghdjlgghaaGreat
open Go.ChangeShapes Go.WideShapes Go.ChangeAt Go.RowKit
set_option linter.unusedVariables false
set_option linter.unusedSimpArgs false
set_option maxRecDepth 100000
attribute [local irreducible] Calls
theorem own_cap {W:World} {B n size:Nat} {e:TypeId} {v:Value} {xs:List Value} (h:W.ownsRow B e size v n xs):CutOk v:=by
 intro p m c hv
 rcases h.2 with ⟨rfl,e⟩ | ⟨g,cap,cur,rfl,hb,hg,hle,_⟩
 ·cases hv
  omega
 ·cases hv
  exact hle
theorem hoI_vi {h:Int × Int} (hh:VI h.1 h.2):∀ {l:List (Int × Int)},AV l→VI (hoI h l).1 (hoI h l).2
 | [],_=>.inl ⟨rfl,rfl⟩
 | [c],hl=>hl c List.mem_cons_self
 | c :: d :: r,hl=>opI_vi 7 (opI_vi 9 (hoI_vi hh (l:=d :: r) fun p hp=>hl p (List.mem_cons_of_mem _ hp)) hh) (hl c List.mem_cons_self)
set_option maxHeartbeats 8000000 in
theorem horner_ok (va:Value) (la:List (Int × Int)) (h0 h1:Int) (w:World) (hva:Vx w va la) (hcap:CutOk va) (hsm:la.length ≤ 1000) (hv:AV la) (hvh:VI h0 h1) :
  Calls Tryz.prog 175 #[.agg domV,va,.agg #[.int .i64 h0,.int .i64 h1]] w fun e W'=>e = .returned (iva (hoI (h0,h1) la))∧Below w.heap.size w W':=by
 by_cases hne:la ≠ []
 ·exact (callsIn_wide (n:=5)).1 (horner_in 5 (by decide) va la h0 h1 w hva hcap hsm hne hv hvh)
 have hla:la = []:=Classical.not_not.1 hne
 subst hla
 obtain ⟨p,c,rfl⟩:=hva.cut
 clear hne hva hcap hsm hv hvh
 have hE:Below w.heap.size w (((w.alloc (.cells domV 201)).alloc (.cells #[.int .i64 h0,.int .i64 h1] 66)).alloc (.cells #[.int .i64 0,.int .i64 0] 66)):=allocs_below [.cells domV 201,.cells #[.int .i64 h0,.int .i64 h1] 66,.cells #[.int .i64 0,.int .i64 0] 66] w
 have HD:=Lib.hid (show Blk (((w.alloc (.cells domV 201)).alloc (.cells #[.int .i64 h0,.int .i64 h1] 66)).alloc (.cells #[.int .i64 0,.int .i64 0] 66)) (w.heap.size) (.cells domV 201) from allocs_at [.cells domV 201,.cells #[.int .i64 h0,.int .i64 h1] 66,.cells #[.int .i64 0,.int .i64 0] 66] w 0 _ rfl)
 have HH:=Lib.hid (show Blk (((w.alloc (.cells domV 201)).alloc (.cells #[.int .i64 h0,.int .i64 h1] 66)).alloc (.cells #[.int .i64 0,.int .i64 0] 66)) (w.heap.size+1) (.cells #[.int .i64 h0,.int .i64 h1] 66) from allocs_at [.cells domV 201,.cells #[.int .i64 h0,.int .i64 h1] 66,.cells #[.int .i64 0,.int .i64 0] 66] w 1 _ rfl)
 have HR:=Lib.hid (show Blk (((w.alloc (.cells domV 201)).alloc (.cells #[.int .i64 h0,.int .i64 h1] 66)).alloc (.cells #[.int .i64 0,.int .i64 0] 66)) (w.heap.size+1+1) (.cells #[.int .i64 0,.int .i64 0] 66) from allocs_at [.cells domV 201,.cells #[.int .i64 h0,.int .i64 h1] 66,.cells #[.int .i64 0,.int .i64 0] 66] w 2 _ rfl)
 have HW:=Lib.hid hE
 unfold domV at HD HH HR HW
 clear hE
 go_enter Tryz.func175,Tryz.ntmps175
 unfold domV
 go_wp2_with (fail)
 generalize hW0:World.alloc (World.alloc (World.alloc w _) _) _ = W0 at *
 clear hW0
 have d0:=fun g:Grown W0=>heapN_cellj (HD.out.grow g.h) (k:=0) rfl
 have d1:=fun g:Grown W0=>heapN_cellj (HD.out.grow g.h) (k:=1) rfl
 have d2:=fun g:Grown W0=>heapN_cellj (HD.out.grow g.h) (k:=2) rfl
 have d3:=fun g:Grown W0=>heapN_cellj (HD.out.grow g.h) (k:=3) rfl
 have d4:=fun g:Grown W0=>heapN_cellj (HD.out.grow g.h) (k:=4) rfl
 have d5:=fun g:Grown W0=>heapN_cellj (HD.out.grow g.h) (k:=5) rfl
 have d6:=fun g:Grown W0=>heapN_cellj (HD.out.grow g.h) (k:=6) rfl
 have d7:=fun g:Grown W0=>heapN_cellj (HD.out.grow g.h) (k:=7) rfl
 have d8:=fun g:Grown W0=>heapN_cellj (HD.out.grow g.h) (k:=8) rfl
 refine region_pred_l (lk [(14,fun z_ _=>z_ = .pointer (some ⟨w.heap.size,0,none⟩)),(15,fun z_ _=>z_ = .func (.func 169) #[] #[]),(16,fun z_ _=>z_ = .agg #[.int .i64 (-2147483648),.int .i64 2147483648]),(17,fun z_ _=>z_ = .agg #[.int .i64 (-2147483648),.int .i64 2147483648])]) 4 _ rfl (by kernel_rfl) (by kernel_rfl) (by kernel_rfl) (lk_steady _ ⟨steady_eq _,steady_eq _,steady_eq _,steady_eq _,trivial⟩) ?_ ?_
 ·refine ⟨?_,?_,?_,?_,?_,trivial⟩
  ·refine fun _=>ob_plain [3] rfl rfl fun _ g h=>?_
   have yy0:=seen_out (v:=.pointer (some ⟨w.heap.size,0,none⟩)) rfl rfl h.1
   exact tvS (by simp [go_sem,yy0]) rfl
  ·refine fun _=>ob_plain [14] rfl rfl fun _ g h=>?_
   obtain ⟨_,yy0,rfl⟩:=seen_in rfl h.1
   exact tvS (by simp [go_sem,yy0,d0 g]) rfl
  ·refine fun _=>ob_plain [] rfl rfl fun _ g h=>?_
   refine tupon_enter (f:=111) (args:=#[]) (by simp [go_sem]) rfl ?_
   exact (iv_entire g.w).mono fun e w' ⟨he,hB⟩=>⟨_,he,hB,rfl⟩
  ·refine fun _=>ob_plain [15,16] rfl rfl fun _ g h=>?_
   obtain ⟨_,yy0,rfl⟩:=seen_in rfl h.1
   obtain ⟨_,yy1,rfl⟩:=seen_in rfl h.2.1
   refine tupon_enter (f:=169) (args:=#[.agg #[.int .i64 (-2147483648),.int .i64 2147483648]]) (by simp [go_sem,yy0,yy1]) rfl ?_
   exact (same_ok (-2147483648) 2147483648 g.w).mono fun e w' ⟨he,hB⟩=>⟨_,he,hB,rfl⟩
  ·exact fun h=>absurd rfl h
 rintro w5 hB _ rfl _ rfl _ rfl _ rfl
 simp only [Act.put,List.setIfInBounds_toArray,List.set_cons_succ,List.set_cons_zero,List.filterMap_nil]
 have hx:=HR.out.grow hB
 have HB9:=below_then HW.out hB
 have q0:=heapN_cellj hx (k:=0) rfl
 have q1:=heapN_cellj hx (k:=1) rfl
 have y0:w5.frozen? ⟨w.heap.size+1+1,0,none⟩ = false:=by simp [World.frozen?,show w5.heap[w.heap.size+1+1]? = _ from hx]
 have y1:w5.frozen? ⟨w.heap.size+1+1,1,none⟩ = false:=by simp [World.frozen?,show w5.heap[w.heap.size+1+1]? = _ from hx]
 refine ⟨_,by simp [go_sem,q0,y0,q1,y1]; rfl,?_⟩
 have HW9:=Lib.hid ((HB9.setCell (p:=⟨w.heap.size+1+1,0,none⟩) (by dsimp only; omega) (.int .i64 (-2147483648))).setCell (p:=⟨w.heap.size+1+1,1,none⟩) (by dsimp only; omega) (.int .i64 2147483648))
 have hs9:=cellsT_setN (o:=1) (u:=.int .i64 2147483648) (cellsT_setN (o:=0) (u:=.int .i64 (-2147483648)) hx)
 have x0:=heapN_cellj hs9 (k:=0) (u:=.int .i64 (-2147483648)) rfl
 have x1:=heapN_cellj hs9 (k:=1) (u:=.int .i64 2147483648) rfl
 clear hs9 hx q0 q1 y0 y1
 clear d0 d1 d2 d3 d4 d5 d6 d7 d8
 go_wp2_with (fail)
 exact bodyPost_ret (v:=.agg #[.int .i64 (-2147483648),.int .i64 2147483648]) (by simp [results,Tryz.results175,go_sem,x0,x1]) rfl ⟨rfl,HW9.out⟩
def Cq9 (W:World) (v:Value) (l:List (Int × Int)):Prop:=Vx W v l∧CutOk v
theorem grows_cq9:Grows Cq9:=fun _ _ _ _ h hb=>⟨h.1.grow hb,h.2⟩
abbrev Sq9:=Lx (α:=List (Int × Int)) Cq9
theorem OwT.sq9 {t ts:TypeId} {B:Nat} {W:World} {v:Value} {rows:List (List (Int × Int))} {us:List Value} (h:OwT encB 2 t ts B W v rows us) (hl:rows.length ≤ maxLen) (hr:∀ r ∈ rows,r.length ≤ maxLen):Sq9 W v rows:=by
 refine ⟨hl,?_⟩
 rcases h.out.2 with ⟨rfl,e⟩ | ⟨g,cap,cur,rfl,hb,hg,_⟩
 ·refine ⟨none,0,by rw [e],fun k x hx=>?_⟩
  have:=(List.getElem?_eq_some_iff.1 hx).1
  omega
 ·refine ⟨some ⟨g,0,none⟩,cap,rfl,fun k x hx=>?_⟩
  obtain ⟨u,h1,h2⟩:=h.row k x hx
  have hk:=(List.getElem?_eq_some_iff.1 hx).1
  refine ⟨g,0,u,rfl,(Array.getElem?_eq_some_iff.1 hg).1,?_,Rx.own encB_len h2 (hr x (List.mem_of_getElem? hx)),own_cap h2⟩
  rw [Nat.zero_add,h.out.cellAt k (by omega)]
  exact h1
def evS9 (h:Int × Int) (S:List (List (Int × Int))):List (Int × Int):=S.map (hoI h)
set_option maxHeartbeats 16000000 in
theorem evaluate_ok (vs:Value) (S:List (List (Int × Int))) (h0 h1:Int) (w:World) (hs:Sq9 w vs S) (hsm:S.length ≤ 1000) (hrow:∀ r ∈ S,r.length ≤ 1000) (hv:AVR S) (hvh:VI h0 h1) :
  Calls Tryz.prog 149 #[.agg domV,vs,.agg #[.int .i64 h0,.int .i64 h1]] w fun e w'=>∃ v,e = .returned v∧w'.ownsRow w.heap.size 66 2 v S.length (cr encB (evS9 (h0,h1) S))∧Below w.heap.size w w':=by
 obtain ⟨i0,hi,hz0,hz1,hz2⟩:=info_parts info_ivB
 obtain ⟨_,p,c,rfl,_⟩:=id hs
 have hE:Below w.heap.size w ((w.alloc (.cells domV 201)).alloc (.cells #[.int .i64 h0,.int .i64 h1] 66)):=allocs_below [.cells domV 201,.cells #[.int .i64 h0,.int .i64 h1] 66] w
 have HD:=Lib.hid (show Blk ((w.alloc (.cells domV 201)).alloc (.cells #[.int .i64 h0,.int .i64 h1] 66)) (w.heap.size) (.cells domV 201) from allocs_at [.cells domV 201,.cells #[.int .i64 h0,.int .i64 h1] 66] w 0 _ rfl)
 have HH:=Lib.hid (show Blk ((w.alloc (.cells domV 201)).alloc (.cells #[.int .i64 h0,.int .i64 h1] 66)) (w.heap.size+1) (.cells #[.int .i64 h0,.int .i64 h1] 66) from allocs_at [.cells domV 201,.cells #[.int .i64 h0,.int .i64 h1] 66] w 1 _ rfl)
 have HW:=Lib.hid hE
 have HS:=Lib.hid (Lx.grow grows_cq9 hs hE)
 have KH:=Lib.hid (fun (va:Value) (la:List (Int × Int)) w j1 j2 j3 j4=>horner_ok va la h0 h1 w j1 j2 j3 j4 hvh)
 have HV:=Lib.hid hv
 have HRW:=Lib.hid hrow
 unfold domV at HD HH HW HS KH
 clear hE hs hv hrow hvh
 have e0:=heapN_cellj HH.out (k:=0) rfl
 obtain ⟨W0,hW0⟩:∃ W0,((w.alloc (.cells #[.func (.func 169) #[] #[],.func (.func 169) #[] #[],.func (.func 170) #[] #[],.func (.func 171) #[] #[],.func (.func 165) #[] #[],.func (.func 172) #[] #[],.func (.func 166) #[] #[],.func (.func 166) #[] #[],.func (.func 173) #[] #[]] 201)).alloc (.cells #[.int .i64 h0,.int .i64 h1] 66)) = W0:=⟨_,rfl⟩
 obtain ⟨W1,hW1⟩:∃ W1,W0.alloc (.cells (madeCells (Value.agg #[.int .i64 0,.int .i64 0]).cells (S.length * 2)) 66) = W1:=⟨_,rfl⟩
 have hmk:(Instr.makeSlice 23 (.int .i64 0) (.int .i64 (S.length:Int))).run Tryz.prog W0 = .ok (.slice (some ⟨W0.heap.size,0,none⟩) 0 S.length) W1:=by
  have:=run_make (P:=Tryz.prog) W0 23 66 i0 _ Tryz.underlying23 hi hz0 .i64 .i64 0 S.length (Int.le_refl _) (by omega) (by rw [hz2]; omega) (by omega)
  rw [hz1] at this
  simpa [hW1] using this
 have HR0:=Lib.hid (show W1.ownsRow W0.heap.size 66 2 (.slice (some ⟨W0.heap.size,0,none⟩) 0 S.length) 0 (cr encB (evS9 (h0,h1) (S.take 0))) by
  rw [← hW1]
  exact World.ownsRow_made W0 _ S.length (Nat.le_refl _) (by unfold maxLen; omega) (size_madeCells _ _))
 have HB1:=Lib.hid (show Below W0.heap.size W0 W1 by rw [← hW1]; exact (Below.refl _ W0).alloc (Nat.le_refl _) _)
 clear hW1 e0
 have hWS:=HW.out
 rw [hW0] at HD HH HW HS
 go_enter Tryz.func149,Tryz.ntmps149
 unfold domV
 go_wp2_with (fail)
 have HSZ:=Lib.hid (show w.heap.size ≤ W0.heap.size from HW.out.size)
 clear hmk hW0 hWS
 go_loopw [7,15] (fun v i wr=>∃ k:Nat,i = .int .i64 k∧k ≤ S.length∧Hid (wr.ownsRow W0.heap.size 66 2 v k (cr encB (evS9 (h0,h1) (S.take k))))∧Hid (Below W0.heap.size W0 wr)) (fun v i _=>S.length - (intOf i).toNat)
 case atStart=>exact ⟨0,rfl,Nat.zero_le _,HR0,HB1⟩
 case round =>
  clear HR0 HB1
  obtain ⟨k,rfl,hk,HR,HB⟩:=hrel
  obtain ⟨pv,cv,rfl⟩:=own_slice HR.out
  have hsr:=HB.out.size
  by_cases hlt:k < S.length
  ·have i2:(k:Int) < S.length:=by omega
   have hxa:=gR_of hlt
   obtain ⟨bx,ox,u,hpe,hbx,hcu,hcx⟩:∃ b o u,p = some ⟨b,o,none⟩∧b < W0.heap.size∧W0.cell? ⟨b,o+k,none⟩ = some u∧Cq9 W0 u (gR S k):=by
    obtain ⟨_,p',c',e,h⟩:=HS.out
    cases e
    exact h k _ hxa
   subst hpe
   have hcu:=(HB.out.cell (p:=⟨bx,ox+k,none⟩) hbx).trans hcu
   have hcx:=grows_cq9 _ _ _ _ hcx HB.out
   have hsn:evS9 (h0,h1) (S.take (k+1)) = evS9 (h0,h1) (S.take k) ++ [hoI (h0,h1) (gR S k)]:=by rw [List.take_add_one,hxa]; simp [evS9]
   have HSN:=Lib.hid hsn
   have HCX:=Lib.hid hcx
   obtain ⟨pu,cu,rfl⟩:=hcx.1.cut
   have hr1:=HRW.out _ (List.mem_of_getElem? hxa)
   have hr2:=HV.out _ (List.mem_of_getElem? hxa)
   generalize gR S k = G at *
   have KH1:=Lib.hid (fun w h=>KH.out (.slice pu G.length cu) G w h HCX.out.2 hr1 hr2)
   clear hxa hsn hcx hr1 hr2
   have hd7:=HD.out.grow HB.out
   have hh7:=HH.out.grow HB.out
   have d0:=heapN_cellj hd7 (k:=0) rfl
   have d1:=heapN_cellj hd7 (k:=1) rfl
   have d2:=heapN_cellj hd7 (k:=2) rfl
   have d3:=heapN_cellj hd7 (k:=3) rfl
   have d4:=heapN_cellj hd7 (k:=4) rfl
   have d5:=heapN_cellj hd7 (k:=5) rfl
   have d6:=heapN_cellj hd7 (k:=6) rfl
   have d7:=heapN_cellj hd7 (k:=7) rfl
   have d8:=heapN_cellj hd7 (k:=8) rfl
   have g0:=heapN_cellj hh7 (k:=0) rfl
   have g1:=heapN_cellj hh7 (k:=1) rfl
   clear hd7 hh7
   go_wp2_with (fail)
   refine (KH1.out _ HCX.out.1).mono ?_
   rintro e w8 ⟨rfl,hB8⟩
   obtain ⟨z,hz⟩:∃ z,hoI (h0,h1) G = z:=⟨_,rfl⟩
   rw [hz] at HSN ⊢
   obtain ⟨a,b⟩:=z
   simp only [iva]
   have HR8:=Lib.hid (own_keptN HR.out hB8)
   have HB8:=Lib.hid (HB.out.trans (hB8.mono HB.out.size))
   have HNB:=Lib.hid (two_at (a,b) (World.alloc_heap_new w8 (.cells #[.int .i64 a,.int .i64 b] 66)))
   have HR9:=Lib.hid (HR8.out.alloc (.cells #[.int .i64 a,.int .i64 b] 66))
   have HB9:=Lib.hid (HB8.out.alloc HB8.out.size (.cells #[.int .i64 a,.int .i64 b] 66))
   clear hB8 d0 d1 d2 d3 d4 d5 d6 d7 d8 g0 g1 HR HB HR8 HB8 hz KH1 hcu
   go_wp2_with (at_builtin; refine wpList_append_own _ rfl (.tmp 19) (.tmp 24) 23 rfl W0.heap.size 66 i0 (.agg #[.int .i64 0,.int .i64 0]) 2 16 Tryz.underlying23 hi hz0 hz1 hz2 rfl (by decide) (.slice pv k cv) k _ rfl HR9.out ⟨w8.heap.size,0,none⟩ 1 1 (encB (a,b)) rfl rfl HNB.out (one_b _) (by unfold maxLen; omega) (by omega) HB9.out.size ?_)
   intro v' w10 hown' hgrow _
   have hB10:=Below.grown HB9.out hgrow HB9.out.size (fun i hi=>(HR9.out.lt i hi).1)
   have HR10:=Lib.hid hown'
   have HB10:=Lib.hid hB10
   clear hown' hgrow hB10 HR9 HB9
   go_wp2_with (fail)
   go_roundw
   case rel=>exact ⟨k+1,by go_num,by omega,Lib.hid (by rw [HSN.out,cr_snoc]; exact HR10.out),HB10⟩
   case measure=>simp [intOf]; omega
  ·obtain rfl:k = S.length:=by omega
   have i2:¬ (S.length:Int) < S.length:=by omega
   go_wp2_with (fail)
   go_ret
   have h:=HR.out
   rw [List.take_length] at h
   exact ⟨_,rfl,⟨h.1,h.2.imp id fun ⟨g,c,cur,e1,hb,r⟩=>⟨g,c,cur,e1,Nat.le_trans HSZ.out hb,r⟩⟩,below_then HW.out HB.out⟩
theorem dom_ok' (w:World):Calls Tryz.prog 142 #[] w fun e w'=>e = .returned (.agg #[.func (.func 169) #[] #[],.func (.func 169) #[] #[],.func (.func 170) #[] #[],.func (.func 171) #[] #[],.func (.func 165) #[] #[],.func (.func 172) #[] #[],.func (.func 166) #[] #[],.func (.func 166) #[] #[],.func (.func 173) #[] #[]])∧Below w.heap.size w w':=dom_ok w
set_option maxHeartbeats 8000000 in
theorem Coefficients_ok (N t0 t1:Int) (vl vo vx:Value) (L:List Is) (O:List Int) (X:List (Int × Int)) (K:Nat) (w:World) (hl:Ix w vl L) (ho:Px w vo O) (hx:Vx w vx X) (htv:tvB N L O = true) (hN1:NmL L) (hXN:(X.length:Int) = N) (hvx:AV X) (hvt:VI t0 t1) (hK:K ≤ 8) :
  Calls Tryz.prog 118 #[.agg #[.int .i64 N,vl,vo],vx,.agg #[.int .i64 t0,.int .i64 t1],.int .i64 K] w fun e w'=>∃ sv sus,e = .returned sv∧OwT encB 2 66 23 w.heap.size w' sv (serI L O X (t0,t1) K) sus∧Below w.heap.size w w':=by
 obtain ⟨pl,cl,rfl⟩:=hl.cut
 obtain ⟨po,co,rfl⟩:=ho.cut
 obtain ⟨px,cx,rfl⟩:=hx.cut
 have hE:Below w.heap.size w ((w.alloc (.cells #[.int .i64 N,.slice pl L.length cl,.slice po O.length co] 35)).alloc (.cells #[.int .i64 t0,.int .i64 t1] 66)):=allocs_below [.cells #[.int .i64 N,.slice pl L.length cl,.slice po O.length co] 35,.cells #[.int .i64 t0,.int .i64 t1] 66] w
 have HC:=Lib.hid (show Blk ((w.alloc (.cells #[.int .i64 N,.slice pl L.length cl,.slice po O.length co] 35)).alloc (.cells #[.int .i64 t0,.int .i64 t1] 66)) (w.heap.size) (.cells #[.int .i64 N,.slice pl L.length cl,.slice po O.length co] 35) from allocs_at [.cells #[.int .i64 N,.slice pl L.length cl,.slice po O.length co] 35,.cells #[.int .i64 t0,.int .i64 t1] 66] w 0 _ rfl)
 have HT:=Lib.hid (show Blk ((w.alloc (.cells #[.int .i64 N,.slice pl L.length cl,.slice po O.length co] 35)).alloc (.cells #[.int .i64 t0,.int .i64 t1] 66)) (w.heap.size+1) (.cells #[.int .i64 t0,.int .i64 t1] 66) from allocs_at [.cells #[.int .i64 N,.slice pl L.length cl,.slice po O.length co] 35,.cells #[.int .i64 t0,.int .i64 t1] 66] w 1 _ rfl)
 have HW:=Lib.hid hE
 have HL:=Lib.hid (hl.grow hE)
 have HO:=Lib.hid (ho.grow hE)
 have HX:=Lib.hid (hx.grow hE)
 have KE:=Lib.hid (fun (w:World) h1 h2 h3=>show Calls Tryz.prog 141 #[.agg #[.func (.func 169) #[] #[],.func (.func 169) #[] #[],.func (.func 170) #[] #[],.func (.func 171) #[] #[],.func (.func 165) #[] #[],.func (.func 172) #[] #[],.func (.func 166) #[] #[],.func (.func 166) #[] #[],.func (.func 173) #[] #[]],.agg #[.int .i64 N,.slice pl L.length cl,.slice po O.length co],.slice px X.length cx,.agg #[.int .i64 t0,.int .i64 t1],.int .i64 K] w _ from expand_ok N t0 t1 (.slice pl L.length cl) (.slice po O.length co) (.slice px X.length cx) L O X K w h1 h2 h3 htv hN1 hXN hvx hvt hK)
 clear hE hl ho hx htv hXN hvx hvt hK
 go_enter Tryz.func118,Tryz.ntmps118
 go_wp2_with (fail)
 generalize hW0:World.alloc (World.alloc w _) _ = W0 at *
 clear hW0
 have x0:=fun g:Grown W0=>heapN_cellj (HC.out.grow g.h) (k:=0) rfl
 have x1:=fun g:Grown W0=>heapN_cellj (HC.out.grow g.h) (k:=1) rfl
 have x2:=fun g:Grown W0=>heapN_cellj (HC.out.grow g.h) (k:=2) rfl
 have y0:=fun g:Grown W0=>heapN_cellj (HT.out.grow g.h) (k:=0) rfl
 have y1:=fun g:Grown W0=>heapN_cellj (HT.out.grow g.h) (k:=1) rfl
 refine region_pred (lk [(9,fun z_ _=>z_ = .agg #[.func (.func 169) #[] #[],.func (.func 169) #[] #[],.func (.func 170) #[] #[],.func (.func 171) #[] #[],.func (.func 165) #[] #[],.func (.func 172) #[] #[],.func (.func 166) #[] #[],.func (.func 166) #[] #[],.func (.func 173) #[] #[]]),(10,fun z_ _=>z_ = .agg #[.int .i64 N,.slice pl L.length cl,.slice po O.length co]),(11,fun z_ _=>z_ = .slice px X.length cx),(12,fun z_ _=>z_ = .agg #[.int .i64 t0,.int .i64 t1]),(13,fun z_ _=>z_ = .int .i64 (K:Int)),(14,fun z_ w'=>∃ sus,OwT encB 2 66 23 w.heap.size w' z_ (serI L O X (t0,t1) K) sus),(8,fun z_ w'=>∃ sus,OwT encB 2 66 23 w.heap.size w' z_ (serI L O X (t0,t1) K) sus)]) (by kernel_rfl) (by kernel_rfl) (lk_steady _ ⟨steady_eq _,steady_eq _,steady_eq _,steady_eq _,steady_eq _,fun u w1 w2 hb ⟨s_,h_⟩=>⟨s_,h_.grow hb⟩,fun u w1 w2 hb ⟨s_,h_⟩=>⟨s_,h_.grow hb⟩,trivial⟩) ?_ ?_
 ·refine ⟨?_,?_,?_,?_,?_,?_,?_,trivial⟩
  ·refine ob_plain [] rfl rfl fun aa g h=>?_
   refine tupon_enter (f:=142) (args:=#[]) (by simp [go_sem]) rfl ?_
   exact (dom_ok' g.w).mono fun e w' ⟨he,hB⟩=>⟨_,he,hB,rfl⟩
  ·refine ob_plain [4] rfl rfl fun aa g h=>?_
   have yy0:=seen_out (v:=.pointer (some ⟨w.heap.size,0,none⟩)) rfl rfl h.1
   exact tvS (by simp [go_sem,yy0,x0 g,x1 g,x2 g]) rfl
  ·refine ob_plain [1] rfl rfl fun aa g h=>?_
   have yy0:=seen_out (v:=.slice px X.length cx) rfl rfl h.1
   exact tvS (by simp [go_sem,yy0]) rfl
  ·refine ob_plain [6] rfl rfl fun aa g h=>?_
   have yy0:=seen_out (v:=.pointer (some ⟨w.heap.size+1,0,none⟩)) rfl rfl h.1
   exact tvS (by simp [go_sem,yy0,y0 g,y1 g]) rfl
  ·refine ob_plain [3] rfl rfl fun aa g h=>?_
   have yy0:=seen_out (v:=.int .i64 (K:Int)) rfl rfl h.1
   exact tvS (by simp [go_sem,yy0]) rfl
  ·refine ob_plain [9,10,11,12,13] rfl rfl fun aa g h=>?_
   obtain ⟨_,yy0,rfl⟩:=seen_in rfl h.1
   obtain ⟨_,yy1,rfl⟩:=seen_in rfl h.2.1
   obtain ⟨_,yy2,rfl⟩:=seen_in rfl h.2.2.1
   obtain ⟨_,yy3,rfl⟩:=seen_in rfl h.2.2.2.1
   obtain ⟨_,yy4,rfl⟩:=seen_in rfl h.2.2.2.2.1
   refine tupon_enter (f:=141) (args:=#[.agg #[.func (.func 169) #[] #[],.func (.func 169) #[] #[],.func (.func 170) #[] #[],.func (.func 171) #[] #[],.func (.func 165) #[] #[],.func (.func 172) #[] #[],.func (.func 166) #[] #[],.func (.func 166) #[] #[],.func (.func 173) #[] #[]],.agg #[.int .i64 N,.slice pl L.length cl,.slice po O.length co],.slice px X.length cx,.agg #[.int .i64 t0,.int .i64 t1],.int .i64 (K:Int)]) (by simp [go_sem,yy0,yy1,yy2,yy3,yy4]) rfl ?_
   exact (KE.out g.w (HL.out.grow g.h) (HO.out.grow g.h) (HX.out.grow g.h)).mono fun e w' ⟨sv,sus,he,hO,hB⟩=>⟨_,he,hB,⟨sus,hO.base (Nat.le_trans HW.out.size g.h.size)⟩⟩
  ·refine ob_plain [14] rfl rfl fun aa g h=>?_
   obtain ⟨v14,yy0,⟨sus,hO⟩⟩:=seen_in rfl h.1
   exact tupon_value (v:=v14) (by simp [go_sem,yy0]) (Below.refl _ _) ⟨sus,hO⟩
 rintro w5 hB _ rfl _ rfl _ rfl _ rfl _ rfl v14 ⟨sus,hO⟩ v8 ⟨sus8,hO8⟩
 simp only [Act.put,List.setIfInBounds_toArray,List.set_cons_succ,List.set_cons_zero,List.filterMap_nil,finP]
 clear x0 x1 x2 y0 y1
 have HB9:=Lib.hid (below_then HW.out hB)
 have HO9:=Lib.hid hO8
 clear hO8 hO hB
 go_wp2_with (fail)
 go_ret
 exact ⟨_,_,rfl,HO9.out,HB9.out⟩
set_option maxHeartbeats 8000000 in
theorem Eval_ok (vs:Value) (S:List (List (Int × Int))) (h0 h1:Int) (w:World) (hs:Sq9 w vs S) (hsm:S.length ≤ 1000) (hrow:∀ r ∈ S,r.length ≤ 1000) (hv:AVR S) (hvh:VI h0 h1) :
  Calls Tryz.prog 121 #[vs,.agg #[.int .i64 h0,.int .i64 h1]] w fun e w'=>∃ v,e = .returned v∧w'.ownsRow w.heap.size 66 2 v S.length (cr encB (evS9 (h0,h1) S))∧Below w.heap.size w w':=by
 obtain ⟨_,p,c,rfl,_⟩:=id hs
 have hE:Below w.heap.size w (w.alloc (.cells #[.int .i64 h0,.int .i64 h1] 66)):=allocs_below [.cells #[.int .i64 h0,.int .i64 h1] 66] w
 have HH:=Lib.hid (show Blk (w.alloc (.cells #[.int .i64 h0,.int .i64 h1] 66)) (w.heap.size) (.cells #[.int .i64 h0,.int .i64 h1] 66) from allocs_at [.cells #[.int .i64 h0,.int .i64 h1] 66] w 0 _ rfl)
 have HW:=Lib.hid hE
 have HS:=Lib.hid (Lx.grow grows_cq9 hs hE)
 have KE:=Lib.hid (fun (w:World) j1=>show Calls Tryz.prog 149 #[.agg #[.func (.func 169) #[] #[],.func (.func 169) #[] #[],.func (.func 170) #[] #[],.func (.func 171) #[] #[],.func (.func 165) #[] #[],.func (.func 172) #[] #[],.func (.func 166) #[] #[],.func (.func 166) #[] #[],.func (.func 173) #[] #[]],.slice p S.length c,.agg #[.int .i64 h0,.int .i64 h1]] w _ from evaluate_ok (.slice p S.length c) S h0 h1 w j1 hsm hrow hv hvh)
 clear hE hs hsm hrow hv hvh
 go_enter Tryz.func121,Tryz.ntmps121
 go_wp2_with (fail)
 generalize hW0:World.alloc w _ = W0 at *
 clear hW0
 have y0:=fun g:Grown W0=>heapN_cellj (HH.out.grow g.h) (k:=0) rfl
 have y1:=fun g:Grown W0=>heapN_cellj (HH.out.grow g.h) (k:=1) rfl
 have hob:∀ {W':World} {B':Nat} {v:Value} {xs:List Value},w.heap.size ≤ B'→W'.ownsRow B' 66 2 v S.length xs→W'.ownsRow w.heap.size 66 2 v S.length xs:=fun hb h=>⟨h.1,h.2.imp id fun ⟨g,c,cur,e1,hb1,r⟩=>⟨g,c,cur,e1,Nat.le_trans hb hb1,r⟩⟩
 refine region_pred (lk [(5,fun z_ _=>z_ = .agg #[.func (.func 169) #[] #[],.func (.func 169) #[] #[],.func (.func 170) #[] #[],.func (.func 171) #[] #[],.func (.func 165) #[] #[],.func (.func 172) #[] #[],.func (.func 166) #[] #[],.func (.func 166) #[] #[],.func (.func 173) #[] #[]]),(6,fun z_ _=>z_ = .slice p S.length c),(7,fun z_ _=>z_ = .agg #[.int .i64 h0,.int .i64 h1]),(8,fun z_ w'=>World.ownsRow w' w.heap.size 66 2 z_ S.length (cr encB (evS9 (h0,h1) S))),(4,fun z_ w'=>World.ownsRow w' w.heap.size 66 2 z_ S.length (cr encB (evS9 (h0,h1) S)))]) (by kernel_rfl) (by kernel_rfl) (lk_steady _ ⟨steady_eq _,steady_eq _,steady_eq _,fun u w1 w2 hb h_=>own_keptN h_ hb,fun u w1 w2 hb h_=>own_keptN h_ hb,trivial⟩) ?_ ?_
 ·refine ⟨?_,?_,?_,?_,?_,trivial⟩
  ·refine ob_plain [] rfl rfl fun aa g h=>?_
   refine tupon_enter (f:=142) (args:=#[]) (by simp [go_sem]) rfl ?_
   exact (dom_ok' g.w).mono fun e w' ⟨he,hB⟩=>⟨_,he,hB,rfl⟩
  ·refine ob_plain [0] rfl rfl fun aa g h=>?_
   have yy0:=seen_out (v:=.slice p S.length c) rfl rfl h.1
   exact tvS (by simp [go_sem,yy0]) rfl
  ·refine ob_plain [3] rfl rfl fun aa g h=>?_
   have yy0:=seen_out (v:=.pointer (some ⟨w.heap.size,0,none⟩)) rfl rfl h.1
   exact tvS (by simp [go_sem,yy0,y0 g,y1 g]) rfl
  ·refine ob_plain [5,6,7] rfl rfl fun aa g h=>?_
   obtain ⟨_,yy0,rfl⟩:=seen_in rfl h.1
   obtain ⟨_,yy1,rfl⟩:=seen_in rfl h.2.1
   obtain ⟨_,yy2,rfl⟩:=seen_in rfl h.2.2.1
   refine tupon_enter (f:=149) (args:=#[.agg #[.func (.func 169) #[] #[],.func (.func 169) #[] #[],.func (.func 170) #[] #[],.func (.func 171) #[] #[],.func (.func 165) #[] #[],.func (.func 172) #[] #[],.func (.func 166) #[] #[],.func (.func 166) #[] #[],.func (.func 173) #[] #[]],.slice p S.length c,.agg #[.int .i64 h0,.int .i64 h1]]) (by simp [go_sem,yy0,yy1,yy2]) rfl ?_
   exact (KE.out g.w (Lx.grow grows_cq9 HS.out g.h)).mono fun e w' ⟨sv,he,hO,hB⟩=>⟨_,he,hB,hob (Nat.le_trans HW.out.size g.h.size) hO⟩
  ·refine ob_plain [8] rfl rfl fun aa g h=>?_
   obtain ⟨v14,yy0,hO⟩:=seen_in rfl h.1
   exact tupon_value (v:=v14) (by simp [go_sem,yy0]) (Below.refl _ _) hO
 rintro w5 hB _ rfl _ rfl _ rfl v14 hO v8 hO8
 simp only [Act.put,List.setIfInBounds_toArray,List.set_cons_succ,List.set_cons_zero,List.filterMap_nil,finP]
 clear y0 y1
 have HB9:=Lib.hid (below_then HW.out hB)
 have HO9:=Lib.hid hO8
 clear hO8 hO hB hob
 go_wp2_with (fail)
 go_ret
 exact ⟨_,rfl,HO9.out,HB9.out⟩
end Go.Proofs.YtdfdpghdjlgghaaGreat
namespace Go.Proofs.YtdfdpghdjlgghaaGreat
open Go.ChangeShapes Go.WideShapes Go.ChangeAt Go.RowKit
set_option linter.unusedVariables false
set_option linter.unusedSimpArgs false
set_option maxRecDepth 100000
def lastI (r:List (Int × Int)):Int × Int:=gI r (r.length - 1)
def remI (S:List (List (Int × Int))):List (Int × Int):=S.map lastI
def extI (S:List (List (Int × Int))) (R:List (Int × Int)):List (List (Int × Int)):=List.zipWith (fun s r=>s ++ [r]) S R
def rsP (a b:Int × Int):Int × Int:=if max a.1 b.1 ≤ min a.2 b.2 then (max a.1 b.1,min a.2 b.2) else b
def rsL (A B:List (Int × Int)):List (Int × Int):=List.zipWith rsP A B
def serR (L:List Is) (O:List Int) (X B:List (Int × Int)) (T H:Int) (K:Nat):List (List (Int × Int)):=extI (serI L O X (T,T) K) (remI (serI L O B (T,T+H) (K+1)))
def encA (L:List Is) (O:List Int) (X B:List (Int × Int)) (T H:Int) (p:Int × Int) (K:Nat):List (Int × Int):=rsL (evS9 p (serR L O X B T H K)) B
def stpQ (L:List Is) (O:List Int) (X:List (Int × Int)) (T H:Int) (K:Nat):Option (List (Int × Int))→Option (List (Int × Int) × List (Int × Int) × List (Int × Int))
 | none=>none
 | some B=>if bndB (encA L O X B T H (0,H) K) && bndB (encA L O X B T H (H,H) K) then some (B,encA L O X B T H (0,H) K,encA L O X B T H (H,H) K) else none
def stpI (L:List Is) (O:List Int) (X:List (Int × Int)) (T H:Int) (K:Nat):Option (List (Int × Int) × List (Int × Int) × List (Int × Int)):=stpQ L O X T H K (encR (imgT L O T H X) X)
theorem rsP_vi {a b:Int × Int} (ha:VI a.1 a.2) (hb:VI b.1 b.2):VI (rsP a b).1 (rsP a b).2:=by
 unfold rsP
 split
 ·rename_i h
  have:=mk_meet ha hb h
  rcases ha with ⟨e1,e2⟩ | ⟨⟨h1,h2⟩,⟨h3,h4⟩,h5⟩
  ·rcases hb with ⟨f1,f2⟩ | ⟨⟨k1,k2⟩,⟨k3,k4⟩,k5⟩
   ·exact .inl ⟨by dsimp only; omega,by dsimp only; omega⟩
   ·exact .inr ⟨⟨by dsimp only; omega,by dsimp only; omega⟩,⟨by dsimp only; omega,by dsimp only; omega⟩,h⟩
  ·rcases hb with ⟨f1,f2⟩ | ⟨⟨k1,k2⟩,⟨k3,k4⟩,k5⟩
   ·exact .inr ⟨⟨by dsimp only; omega,by dsimp only; omega⟩,⟨by dsimp only; omega,by dsimp only; omega⟩,h⟩
   ·exact .inr ⟨⟨by dsimp only; omega,by dsimp only; omega⟩,⟨by dsimp only; omega,by dsimp only; omega⟩,h⟩
 ·exact hb
theorem remI_len (S:List (List (Int × Int))):(remI S).length = S.length:=List.length_map _
theorem remI_av {S:List (List (Int × Int))} (h:AVR S):AV (remI S):=by
 intro p hp
 obtain ⟨r,hr,rfl⟩:=List.mem_map.1 hp
 exact gI_vi (h r hr) _
theorem extI_len {S:List (List (Int × Int))} {R:List (Int × Int)} (h:R.length = S.length):(extI S R).length = S.length:=by
 unfold extI
 rw [List.length_zipWith,h,Nat.min_self]
theorem extI_at {S:List (List (Int × Int))} {R:List (Int × Int)} {k:Nat} {s:List (Int × Int)} {r:Int × Int} (hs:S[k]? = some s) (hr:R[k]? = some r):(extI S R)[k]? = some (s ++ [r]):=by
 unfold extI
 rw [List.getElem?_zipWith,hs,hr]
theorem extI_snoc {S:List (List (Int × Int))} {R:List (Int × Int)} {k:Nat} {s:List (Int × Int)} {r:Int × Int} (hs:S[k]? = some s) (hr:R[k]? = some r):(extI S R).take (k+1) = (extI S R).take k ++ [s ++ [r]]:=by
 rw [List.take_add_one,extI_at hs hr]
 rfl
theorem mem_zipWith_of {α β γ:Type} {f:α→β→γ} {z:γ}:∀ {l:List α} {m:List β},z ∈ List.zipWith f l m→∃ a ∈ l,∃ b ∈ m,z = f a b
 | [],_,h=>by simp at h
 | a :: l,[],h=>by simp at h
 | a :: l,b :: m,h=>by
  rw [List.zipWith_cons_cons] at h
  rcases List.mem_cons.1 h with rfl | h
  ·exact ⟨a,List.mem_cons_self,b,List.mem_cons_self,rfl⟩
  ·obtain ⟨x,hx,y,hy,e⟩:=mem_zipWith_of h
   exact ⟨x,List.mem_cons_of_mem _ hx,y,List.mem_cons_of_mem _ hy,e⟩
theorem extI_av {S:List (List (Int × Int))} {R:List (Int × Int)} (hS:AVR S) (hR:AV R):AVR (extI S R):=by
 intro z hz
 obtain ⟨s,hs,r,hr,rfl⟩:=mem_zipWith_of hz
 exact av_snoc (hS s hs) (hR r hr)
theorem rsL_len {A B:List (Int × Int)} (h:B.length = A.length):(rsL A B).length = A.length:=by
 unfold rsL
 rw [List.length_zipWith,h,Nat.min_self]
theorem rsL_at {A B:List (Int × Int)} {k:Nat} {x y:Int × Int} (hx:A[k]? = some x) (hy:B[k]? = some y):(rsL A B)[k]? = some (rsP x y):=by
 unfold rsL
 rw [List.getElem?_zipWith,hx,hy]
theorem rsL_snoc {A B:List (Int × Int)} {k:Nat} {x y:Int × Int} (hx:A[k]? = some x) (hy:B[k]? = some y):(rsL A B).take (k+1) = (rsL A B).take k ++ [rsP x y]:=by
 rw [List.take_add_one,rsL_at hx hy]
 rfl
theorem rsL_av {A B:List (Int × Int)} (hA:AV A) (hB:AV B):AV (rsL A B):=by
 intro z hz
 obtain ⟨a,ha,b,hb,rfl⟩:=mem_zipWith_of hz
 exact rsP_vi (hA a ha) (hB b hb)
theorem remI_snoc {S:List (List (Int × Int))} {k:Nat} {s:List (Int × Int)} (hs:S[k]? = some s):(remI S).take (k+1) = (remI S).take k ++ [lastI s]:=by
 unfold remI
 rw [← List.map_take,← List.map_take,List.take_add_one,hs]
 simp
theorem evS9_av {p:Int × Int} (hp:VI p.1 p.2) {S:List (List (Int × Int))} (h:AVR S):AV (evS9 p S):=by
 intro q hq
 obtain ⟨r,hr,rfl⟩:=List.mem_map.1 hq
 exact hoI_vi hp (h r hr)
theorem evS9_len (p:Int × Int) (S:List (List (Int × Int))):(evS9 p S).length = S.length:=List.length_map _
theorem tv_cv {N:Int} {L:List Is} {O:List Int} (htv:tvB N L O = true):CV L:=fun x hx e=>by
 obtain ⟨k,hk⟩:=List.getElem?_of_mem hx
 rcases vin_cases ((tv_cases htv).2.2.2.2.1 k x hk) with ⟨_,h⟩ | ⟨h,_⟩ | h | ⟨h,_⟩ | ⟨h,_⟩ <;> first | exact h | omega
theorem ser_av {N:Int} {L:List Is} {O:List Int} {X:List (Int × Int)} {t:Int × Int} (htv:tvB N L O = true) (hXN:(X.length:Int) = N) (hX:AV X) (ht:VI t.1 t.2) (k:Nat):AVR (serI L O X t k) :=
 (ex_ok (tv_cv htv) hX ht (by have:=(tv_cases htv).2.2.2.1; omega) k).2.av
theorem ser_rows {N:Int} {L:List Is} {O:List Int} {X:List (Int × Int)} {t:Int × Int} (htv:tvB N L O = true) (hXN:(X.length:Int) = N) (k:Nat):∀ r ∈ serI L O X t k,r.length = k+1:=by
 intro r hr
 obtain ⟨j,hj⟩:=List.getElem?_of_mem hr
 have hl:=(List.getElem?_eq_some_iff.1 hj).1
 rw [ser_len] at hl
 have:=ser_at (L:=L) (t:=t) (show O.length = X.length by have:=(tv_cases htv).2.2.2.1; omega) j hl k
 unfold gR at this
 rw [List.getD_eq_getElem?_getD,hj] at this
 exact this
theorem extI_rows {S:List (List (Int × Int))} {R:List (Int × Int)} {n:Nat} (h:∀ r ∈ S,r.length = n):∀ r ∈ extI S R,r.length = n+1:=by
 intro z hz
 obtain ⟨s,hs,r,hr,rfl⟩:=mem_zipWith_of hz
 rw [List.length_append,h s hs]
 rfl
theorem serR_len {N:Int} {L:List Is} {O:List Int} {X B:List (Int × Int)} {T H:Int} {K:Nat} (hB:B.length = X.length):(serR L O X B T H K).length = X.length:=by
 unfold serR
 rw [extI_len (by rw [remI_len,ser_len,ser_len,hB]),ser_len]
theorem encA_len {L:List Is} {O:List Int} {X B:List (Int × Int)} {T H:Int} {p:Int × Int} {K:Nat} (hB:B.length = X.length):(encA L O X B T H p K).length = X.length:=by
 unfold encA
 rw [rsL_len (by rw [evS9_len,serR_len (N:=0) hB,hB]),evS9_len,serR_len (N:=0) hB]
theorem serR_av {N:Int} {L:List Is} {O:List Int} {X B:List (Int × Int)} {T H:Int} {K:Nat} (htv:tvB N L O = true) (hXN:(X.length:Int) = N) (hBN:(B.length:Int) = N) (hX:AV X) (hB:AV B) (ht:VI T T) (ht2:VI T (T+H)):AVR (serR L O X B T H K) :=
 extI_av (ser_av htv hXN hX ht K) (remI_av (ser_av htv hBN hB ht2 (K+1)))
theorem encA_av {N:Int} {L:List Is} {O:List Int} {X B:List (Int × Int)} {T H:Int} {p:Int × Int} {K:Nat} (htv:tvB N L O = true) (hXN:(X.length:Int) = N) (hBN:(B.length:Int) = N) (hX:AV X) (hB:AV B) (ht:VI T T) (ht2:VI T (T+H)) (hp:VI p.1 p.2):AV (encA L O X B T H p K) :=
 rsL_av (evS9_av hp (serR_av htv hXN hBN hX hB ht ht2)) hB
end Go.Proofs.YtdfdpghdjlgghaaGreat
