/-
 Si
-/
import Derived.Test.YtdfdpghdjlgghaaGreatKdza
import Derived.Test.YtdfdpghdjlgghaaGreatKdzb
namespace Go.Proofs.YtdfdpghdjlgghaaGreat
open Go.ChangeShapes Go.WideShapes Go.ChangeAt Go.RowKit
set_option linter.unusedVariables false
set_option linter.unusedSimpArgs false
set_option maxRecDepth 100000
attribute [local irreducible] Calls
theorem set16 {t:TypeId} {W:World} {X:Nat} {u0 u1 u2 u3 u4 u5 u6 u7 u8 u9 u10 u11 u12 u13 u14 u15:Value} (h:W.heap[X]? = some (.cells #[u0,u1,u2,u3,u4,u5,u6,u7,u8,u9,u10,u11,u12,u13,u14,u15] t (0,0))) (a0 a1 a2 a3 a4 a5 a6 a7 a8 a9 a10 a11 a12 a13 a14 a15:Value):∃ W',((((((((((((((((W.setCell ⟨X,0,none⟩ a0).setCell ⟨X,1,none⟩ a1).setCell ⟨X,2,none⟩ a2).setCell ⟨X,3,none⟩ a3).setCell ⟨X,4,none⟩ a4).setCell ⟨X,5,none⟩ a5).setCell ⟨X,6,none⟩ a6).setCell ⟨X,7,none⟩ a7).setCell ⟨X,8,none⟩ a8).setCell ⟨X,9,none⟩ a9).setCell ⟨X,10,none⟩ a10).setCell ⟨X,11,none⟩ a11).setCell ⟨X,12,none⟩ a12).setCell ⟨X,13,none⟩ a13).setCell ⟨X,14,none⟩ a14).setCell ⟨X,15,none⟩ a15) = W'∧W'.heap[X]? = some (.cells #[a0,a1,a2,a3,a4,a5,a6,a7,a8,a9,a10,a11,a12,a13,a14,a15] t (0,0))∧Oth X W W':=by
 refine ⟨_,rfl,?_,((((((((((((((((oth_at W X 0 a0).trans (oth_at _ X 1 a1)).trans (oth_at _ X 2 a2)).trans (oth_at _ X 3 a3)).trans (oth_at _ X 4 a4)).trans (oth_at _ X 5 a5)).trans (oth_at _ X 6 a6)).trans (oth_at _ X 7 a7)).trans (oth_at _ X 8 a8)).trans (oth_at _ X 9 a9)).trans (oth_at _ X 10 a10)).trans (oth_at _ X 11 a11)).trans (oth_at _ X 12 a12)).trans (oth_at _ X 13 a13)).trans (oth_at _ X 14 a14)).trans (oth_at _ X 15 a15))⟩
 have h:=cellsT_setN (o:=0) (u:=a0) h
 simp only [List.setIfInBounds_toArray,List.set_cons_zero,List.set_cons_succ] at h
 have h:=cellsT_setN (o:=1) (u:=a1) h
 simp only [List.setIfInBounds_toArray,List.set_cons_zero,List.set_cons_succ] at h
 have h:=cellsT_setN (o:=2) (u:=a2) h
 simp only [List.setIfInBounds_toArray,List.set_cons_zero,List.set_cons_succ] at h
 have h:=cellsT_setN (o:=3) (u:=a3) h
 simp only [List.setIfInBounds_toArray,List.set_cons_zero,List.set_cons_succ] at h
 have h:=cellsT_setN (o:=4) (u:=a4) h
 simp only [List.setIfInBounds_toArray,List.set_cons_zero,List.set_cons_succ] at h
 have h:=cellsT_setN (o:=5) (u:=a5) h
 simp only [List.setIfInBounds_toArray,List.set_cons_zero,List.set_cons_succ] at h
 have h:=cellsT_setN (o:=6) (u:=a6) h
 simp only [List.setIfInBounds_toArray,List.set_cons_zero,List.set_cons_succ] at h
 have h:=cellsT_setN (o:=7) (u:=a7) h
 simp only [List.setIfInBounds_toArray,List.set_cons_zero,List.set_cons_succ] at h
 have h:=cellsT_setN (o:=8) (u:=a8) h
 simp only [List.setIfInBounds_toArray,List.set_cons_zero,List.set_cons_succ] at h
 have h:=cellsT_setN (o:=9) (u:=a9) h
 simp only [List.setIfInBounds_toArray,List.set_cons_zero,List.set_cons_succ] at h
 have h:=cellsT_setN (o:=10) (u:=a10) h
 simp only [List.setIfInBounds_toArray,List.set_cons_zero,List.set_cons_succ] at h
 have h:=cellsT_setN (o:=11) (u:=a11) h
 simp only [List.setIfInBounds_toArray,List.set_cons_zero,List.set_cons_succ] at h
 have h:=cellsT_setN (o:=12) (u:=a12) h
 simp only [List.setIfInBounds_toArray,List.set_cons_zero,List.set_cons_succ] at h
 have h:=cellsT_setN (o:=13) (u:=a13) h
 simp only [List.setIfInBounds_toArray,List.set_cons_zero,List.set_cons_succ] at h
 have h:=cellsT_setN (o:=14) (u:=a14) h
 simp only [List.setIfInBounds_toArray,List.set_cons_zero,List.set_cons_succ] at h
 have h:=cellsT_setN (o:=15) (u:=a15) h
 simp only [List.setIfInBounds_toArray,List.set_cons_zero,List.set_cons_succ] at h
 exact h
theorem ow_nil {α:Type} {enc:α→List Value} {sz:Nat} {t ts:TypeId} (B:Nat) (W:World):OwT enc sz t ts B W (.slice none 0 0) [] [] :=
 ⟨World.ownsRow_nil W B ts 1,fun i r h=>by simp at h,fun i j u x h=>by simp at h⟩
theorem ow_made {α:Type} {enc:α→List Value} {sz:Nat} {t ts:TypeId} {B X n:Nat} {W:World} (h:W.heap[X]? = some (.cells (madeCells #[.slice none 0 0] n) ts (0,0))) (hB:B ≤ X) (hn:n ≤ maxLen):OwT enc sz t ts B W (.slice (some ⟨X,0,none⟩) n n) (List.replicate n []) (List.replicate n (.slice none 0 0)):=by
 refine ⟨⟨by simp,.inr ⟨X,n,_,by simp,hB,h,by simp,by simpa using hn,by simp [madeCells],?_⟩⟩,fun i r hr=>?_,fun i j u x hu hx hij=>.inl ?_⟩
 ·rw [toList_madeCells_one]
  simp
 ·have hi:=(List.getElem?_eq_some_iff.1 hr).1
  rw [List.length_replicate] at hi
  obtain rfl:=(List.eq_of_mem_replicate (List.mem_of_getElem? hr))
  exact ⟨.slice none 0 0,by simp [hi],World.ownsRow_nil W B t sz⟩
 ·obtain rfl:=(List.eq_of_mem_replicate (List.mem_of_getElem? hu))
  rfl
theorem own_lit2 {W:World} {B R:Nat} {a b:Int} (h:W.heap[R]? = some (.cells #[.int .i64 a,.int .i64 b] 66 (0,0))) (hB:B ≤ R):W.ownsRow B 66 2 (.slice (some ⟨R,0,none⟩) 1 1) 1 (cr encB [(a,b)]) :=
 ⟨rfl,.inr ⟨R,1,_,rfl,hB,h,Nat.le_refl _,by unfold maxLen; omega,rfl,rfl⟩⟩
theorem info_ivs:(Tryz.prog.info? 23).map (fun i=>(i.zero,i.size,i.bytes)) = some (some (.slice none 0 0),1,24):=by kernel_rfl
theorem one_sl (p:Option Addr) (n c:Nat):∀ u ∈ [Value.slice p n c],u.oneCell' = true:=by
 intro u hu
 rw [List.mem_singleton.1 hu]
 rfl
theorem eC_set14 (N:Int) (pl:Option Addr) (nl cl:Nat) (po:Option Addr) (no co:Nat) (t0 t1:Int) (a b c:Value):(eC N pl nl cl po no co t0 t1 a b).setIfInBounds 14 c = eC N pl nl cl po no co t0 t1 c b:=rfl
abbrev ExV (N:Int) (pl:Option Addr) (nl cl:Nat) (po:Option Addr) (no co:Nat) (t0 t1:Int):=ExS encB 2 66 23 214 (eC N pl nl cl po no co t0 t1)
theorem ExS.exw {N:Int} {pl:Option Addr} {cl:Nat} {po:Option Addr} {no co:Nat} {t0 t1:Int} {B eb:Nat} {W:World} {sv rv:Value} {L:List Is} {st rows:List (List (Int × Int))} {sus rus:List Value} (h:ExV N pl L.length cl po no co t0 t1 B eb W sv rv st rows sus rus) (hl:Ix W (.slice pl L.length cl) L) (h1:st.length ≤ 1000) (h2:rows.length ≤ 1000) (h3:∀ r ∈ st,r.length ≤ 1000) (h4:∀ r ∈ rows,r.length ≤ 1000):ExW W eb N pl cl po no co t0 t1 sv rv L st rows :=
 ⟨h.blk,hl,h.os.lx encB_len (by unfold maxLen; omega) (fun r hr=>Nat.le_trans (h3 r hr) (by decide)),h.orr.lx encB_len (by unfold maxLen; omega) (fun r hr=>Nat.le_trans (h4 r hr) (by decide))⟩
theorem rwk_mem {k i n:Nat} {rows:List (List (Int × Int))} (h:RwK k i n rows) (hk:k ≤ 100):∀ r ∈ rows,r.length ≤ 1000:=by
 intro r hr
 obtain ⟨j,hj⟩:=List.getElem?_of_mem hr
 have hl:=(List.getElem?_eq_some_iff.1 hj).1
 have e:gR rows j = r:=by unfold gR; rw [List.getD_eq_getElem?_getD,hj]; rfl
 have:=h.row j (by rw [← h.len]; exact hl)
 rw [e] at this
 rw [this]
 split <;> omega
set_option maxHeartbeats 64000000 in
theorem expand_ok (N t0 t1:Int) (vl vo vx:Value) (L:List Is) (O:List Int) (X:List (Int × Int)) (K:Nat) (w:World) (hl:Ix w vl L) (ho:Px w vo O) (hx:Vx w vx X) (htv:tvB N L O = true) (hN1:NmL L) (hXN:(X.length:Int) = N) (hvx:AV X) (hvt:VI t0 t1) (hK:K ≤ 8) :
  Calls Tryz.prog 141 #[.agg domV,.agg #[.int .i64 N,vl,vo],vx,.agg #[.int .i64 t0,.int .i64 t1],.int .i64 K] w fun e w'=>∃ sv sus,e = .returned sv∧OwT encB 2 66 23 w.heap.size w' sv (serI L O X (t0,t1) K) sus∧Below w.heap.size w w':=by
 obtain ⟨i0,hi,hz0,hz1,hz2⟩:=info_parts info_ivB
 obtain ⟨j0,hj,hy0,hy1,hy2⟩:=info_parts info_ivs
 obtain ⟨pl,cl,rfl⟩:=hl.cut
 obtain ⟨po,co,rfl⟩:=ho.cut
 obtain ⟨px,cx,rfl⟩:=hx.cut
 obtain ⟨hn1,hn6,h400,hon,hvl,hout⟩:=tv_cases htv
 have hCV:CV L:=fun x hx e=>by
  obtain ⟨k,hk⟩:=List.getElem?_of_mem hx
  rcases vin_cases (hvl k x hk) with ⟨_,h⟩ | ⟨h,_⟩ | h | ⟨h,_⟩ | ⟨h,_⟩ <;> first | exact h | omega
 have hox:O.length = X.length:=by omega
 have hL1:0 < L.length:=by
  obtain ⟨y,hy⟩:∃ y,O[0]? = some y:=⟨_,List.getElem?_eq_getElem (by omega)⟩
  have:=hout y (List.mem_of_getElem? hy)
  omega
 have hX6:X.length ≤ 6:=by omega
 have hX1:0 < X.length:=by omega
 have hex:=fun k=>ex_ok (L:=L) (out:=O) (X:=X) (t:=(t0,t1)) hCV hvx hvt hox k
 have hE:Below w.heap.size w (((w.alloc (.cells domV 201)).alloc (.cells #[.int .i64 N,.slice pl L.length cl,.slice po O.length co] 35)).alloc (.cells #[.int .i64 t0,.int .i64 t1] 66)):=allocs_below [.cells domV 201,.cells #[.int .i64 N,.slice pl L.length cl,.slice po O.length co] 35,.cells #[.int .i64 t0,.int .i64 t1] 66] w
 have HD:=Lib.hid (show Blk (((w.alloc (.cells domV 201)).alloc (.cells #[.int .i64 N,.slice pl L.length cl,.slice po O.length co] 35)).alloc (.cells #[.int .i64 t0,.int .i64 t1] 66)) (w.heap.size) (.cells domV 201) from allocs_at [.cells domV 201,.cells #[.int .i64 N,.slice pl L.length cl,.slice po O.length co] 35,.cells #[.int .i64 t0,.int .i64 t1] 66] w 0 _ rfl)
 have HC:=Lib.hid (show Blk (((w.alloc (.cells domV 201)).alloc (.cells #[.int .i64 N,.slice pl L.length cl,.slice po O.length co] 35)).alloc (.cells #[.int .i64 t0,.int .i64 t1] 66)) (w.heap.size+1) (.cells #[.int .i64 N,.slice pl L.length cl,.slice po O.length co] 35) from allocs_at [.cells domV 201,.cells #[.int .i64 N,.slice pl L.length cl,.slice po O.length co] 35,.cells #[.int .i64 t0,.int .i64 t1] 66] w 1 _ rfl)
 have HS:=Lib.hid (show Blk (((w.alloc (.cells domV 201)).alloc (.cells #[.int .i64 N,.slice pl L.length cl,.slice po O.length co] 35)).alloc (.cells #[.int .i64 t0,.int .i64 t1] 66)) (w.heap.size+1+1) (.cells #[.int .i64 t0,.int .i64 t1] 66) from allocs_at [.cells domV 201,.cells #[.int .i64 N,.slice pl L.length cl,.slice po O.length co] 35,.cells #[.int .i64 t0,.int .i64 t1] 66] w 2 _ rfl)
 have HL:=Lib.hid (hl.grow hE)
 have HO:=Lib.hid (ho.grow hE)
 have HX:=Lib.hid (hx.grow hE)
 have HW:=Lib.hid hE
 have HEX:=Lib.hid hex
 have HVL:=Lib.hid hvl
 have HOUT:=Lib.hid hout
 have HCV:=Lib.hid hCV
 have HVT:=Lib.hid (show VI ((t0,t1):Int × Int).1 ((t0,t1):Int × Int).2 from hvt)
 have hox':(X.length:Int) = O.length:=by omega
 have KU:=Lib.hid (fun w h1 h2=>show Calls Tryz.prog 167 #[.agg #[.int .i64 N,.slice pl L.length cl,.slice po O.length co],.int .i64 (X.length:Int)] w _ from by rw [hox']; exact usable_ok N (.slice pl L.length cl) (.slice po O.length co) L O w h1 h2 htv)
 have HOX:=Lib.hid hox
 have HXN:=Lib.hid hXN
 have c0:=heapN_cellj HC.out (k:=0) rfl
 have c1:=heapN_cellj HC.out (k:=1) rfl
 have c2:=heapN_cellj HC.out (k:=2) rfl
 unfold domV at HD HL HO HX HW HC HS c0 c1 c2
 have i8:¬ ((K:Int) < 0):=by omega
 have i9:¬ ((8:Int) < K):=by omega
 have i10:decide ((K:Int) > 8) = false:=by simp; omega
 clear hE hl ho hx htv hXN hvx hvt hn1 hn6 hon hvl hout hCV hox hex hox'
 go_enter Tryz.func141,Tryz.ntmps141
 unfold domV
 go_wp2_with (fail)
 generalize hW0:World.alloc (World.alloc (World.alloc w _) _) _ = W0 at *
 clear hW0
 refine (KU.out _ HL.out HO.out).mono ?_
 rintro e w1 ⟨rfl,hB1⟩
 have HD:=Lib.hid (HD.out.grow hB1)
 have HC:=Lib.hid (HC.out.grow hB1)
 have HS:=Lib.hid (HS.out.grow hB1)
 have HL:=Lib.hid (HL.out.grow hB1)
 have HO:=Lib.hid (HO.out.grow hB1)
 have HX:=Lib.hid (HX.out.grow hB1)
 have HW:=Lib.hid (below_then HW.out hB1)
 clear hB1 c0 c1 c2 KU
 go_wp2_with (fail)
 obtain ⟨NR,hNR⟩:∃ NR,madeCells #[Value.slice none 0 0] L.length = NR:=⟨_,rfl⟩
 have qmk:∀ w:World,(Instr.makeSlice 157 (.int .i64 (L.length:Int)) (.int .i64 (L.length:Int))).run Tryz.prog w = .ok (.slice (some ⟨w.heap.size,0,none⟩) L.length L.length) (w.alloc (.cells NR 23)):=fun w=>by
  have:=run_make (P:=Tryz.prog) w 157 23 j0 _ Tryz.underlying157 hj hy0 .i64 .i64 L.length L.length (by omega) (Int.le_refl _) (by rw [hy2]; omega) (by omega)
  rw [hy1] at this
  simpa [Value.cells,hNR] using this
 have d0:=fun g:Grown w1=>heapN_cellj (HD.out.grow g.h) (k:=0) rfl
 have d1:=fun g:Grown w1=>heapN_cellj (HD.out.grow g.h) (k:=1) rfl
 have d2:=fun g:Grown w1=>heapN_cellj (HD.out.grow g.h) (k:=2) rfl
 have d3:=fun g:Grown w1=>heapN_cellj (HD.out.grow g.h) (k:=3) rfl
 have d4:=fun g:Grown w1=>heapN_cellj (HD.out.grow g.h) (k:=4) rfl
 have d5:=fun g:Grown w1=>heapN_cellj (HD.out.grow g.h) (k:=5) rfl
 have d6:=fun g:Grown w1=>heapN_cellj (HD.out.grow g.h) (k:=6) rfl
 have d7:=fun g:Grown w1=>heapN_cellj (HD.out.grow g.h) (k:=7) rfl
 have d8:=fun g:Grown w1=>heapN_cellj (HD.out.grow g.h) (k:=8) rfl
 have c0:=fun g:Grown w1=>heapN_cellj (HC.out.grow g.h) (k:=0) rfl
 have c1:=fun g:Grown w1=>heapN_cellj (HC.out.grow g.h) (k:=1) rfl
 have c2:=fun g:Grown w1=>heapN_cellj (HC.out.grow g.h) (k:=2) rfl
 have s0:=fun g:Grown w1=>heapN_cellj (HS.out.grow g.h) (k:=0) rfl
 have s1:=fun g:Grown w1=>heapN_cellj (HS.out.grow g.h) (k:=1) rfl
 refine region_pred_l (lk [(31,fun z_ _=>z_ = .agg #[.func (.func 169) #[] #[],.func (.func 169) #[] #[],.func (.func 170) #[] #[],.func (.func 171) #[] #[],.func (.func 165) #[] #[],.func (.func 172) #[] #[],.func (.func 166) #[] #[],.func (.func 166) #[] #[],.func (.func 173) #[] #[]]),(32,fun z_ _=>z_ = .agg #[.int .i64 N,.slice pl L.length cl,.slice po O.length co]),(33,fun z_ _=>z_ = .agg #[.int .i64 t0,.int .i64 t1]),(34,fun z_ _=>z_ = .pointer (some ⟨w.heap.size+1,1,none⟩)),(35,fun z_ _=>z_ = .slice pl L.length cl),(36,fun z_ _=>z_ = .int .i64 (L.length:Int)),(37,fun z_ w'=>∃ X_,z_ = .slice (some ⟨X_,0,none⟩) L.length L.length∧w1.heap.size ≤ X_∧w'.heap[X_]? = some (.cells NR 23 (0,0))),(38,fun z_ w'=>∃ X_,z_ = .agg #[.func (.func 169) #[] #[],.func (.func 169) #[] #[],.func (.func 170) #[] #[],.func (.func 171) #[] #[],.func (.func 165) #[] #[],.func (.func 172) #[] #[],.func (.func 166) #[] #[],.func (.func 166) #[] #[],.func (.func 173) #[] #[],.int .i64 N,.slice pl L.length cl,.slice po O.length co,.int .i64 t0,.int .i64 t1,.slice none 0 0,.slice (some ⟨X_,0,none⟩) L.length L.length]∧w1.heap.size ≤ X_∧w'.heap[X_]? = some (.cells NR 23 (0,0))),(11,fun z_ w'=>∃ X_,z_ = .pointer (some ⟨X_,0,none⟩)∧w1.heap.size ≤ X_∧w'.heap[X_]? = some (.cells #[.nilFunc,.nilFunc,.nilFunc,.nilFunc,.nilFunc,.nilFunc,.nilFunc,.nilFunc,.nilFunc,.int .i64 0,.slice none 0 0,.slice none 0 0,.int .i64 0,.int .i64 0,.slice none 0 0,.slice none 0 0] 214 (0,0)))]) 9 _ rfl (by kernel_rfl) (by kernel_rfl) (by kernel_rfl) (lk_steady _ ⟨steady_eq _,steady_eq _,steady_eq _,steady_eq _,steady_eq _,steady_eq _,fun u w1 w2 hb ⟨X,e,h1,h2⟩=>⟨X,e,h1,(hb.block X (Array.getElem?_eq_some_iff.1 h2).1).trans h2⟩,fun u w1 w2 hb ⟨X,e,h1,h2⟩=>⟨X,e,h1,(hb.block X (Array.getElem?_eq_some_iff.1 h2).1).trans h2⟩,fun u w1 w2 hb ⟨X,e,h1,h2⟩=>⟨X,e,h1,(hb.block X (Array.getElem?_eq_some_iff.1 h2).1).trans h2⟩,trivial⟩) ?_ ?_
 ·refine ⟨?_,?_,?_,?_,?_,?_,?_,?_,?_,?_,trivial⟩
  ·refine fun _=>ob_plain [5] rfl rfl fun _ g h=>?_
   have yy0:=seen_out (v:=.pointer (some ⟨w.heap.size,0,none⟩)) rfl rfl h.1
   exact tvS (by simp [go_sem,yy0,d0 g,d1 g,d2 g,d3 g,d4 g,d5 g,d6 g,d7 g,d8 g]) rfl
  ·refine fun _=>ob_plain [6] rfl rfl fun _ g h=>?_
   have yy0:=seen_out (v:=.pointer (some ⟨w.heap.size+1,0,none⟩)) rfl rfl h.1
   exact tvS (by simp [go_sem,yy0,c0 g,c1 g,c2 g]) rfl
  ·refine fun _=>ob_plain [8] rfl rfl fun _ g h=>?_
   have yy0:=seen_out (v:=.pointer (some ⟨w.heap.size+1+1,0,none⟩)) rfl rfl h.1
   exact tvS (by simp [go_sem,yy0,s0 g,s1 g]) rfl
  ·refine fun _=>ob_plain [6] rfl rfl fun _ g h=>?_
   have yy0:=seen_out (v:=.pointer (some ⟨w.heap.size+1,0,none⟩)) rfl rfl h.1
   exact tvS (by simp [go_sem,yy0]) rfl
  ·refine fun _=>ob_plain [34] rfl rfl fun _ g h=>?_
   obtain ⟨_,yy0,rfl⟩:=seen_in rfl h.1
   exact tvS (by simp [go_sem,yy0,c1 g]) rfl
  ·refine fun _=>ob_plain [35] rfl rfl fun _ g h=>?_
   obtain ⟨_,yy0,rfl⟩:=seen_in rfl h.1
   exact tvS (by simp [go_sem,yy0]) rfl
  ·refine fun _=>ob_plain [36,36] rfl rfl fun _ g h=>?_
   obtain ⟨_,yy0,rfl⟩:=seen_in rfl h.1
   obtain ⟨_,yy1,rfl⟩:=seen_in rfl h.2.1
   exact tupon_value (v:=.slice (some ⟨g.w.heap.size,0,none⟩) L.length L.length) (w1:=g.w.alloc (.cells NR 23)) (by simp [go_sem,yy0,yy1,qmk g.w]) ((Below.refl _ _).alloc (Nat.le_refl _) _) ⟨_,rfl,g.h.size,World.alloc_heap_new _ _⟩
  ·refine fun _=>ob_plain [31,32,33,37] rfl rfl fun _ g h=>?_
   obtain ⟨_,yy0,rfl⟩:=seen_in rfl h.1
   obtain ⟨_,yy1,rfl⟩:=seen_in rfl h.2.1
   obtain ⟨_,yy2,rfl⟩:=seen_in rfl h.2.2.1
   obtain ⟨_,yy3,⟨X37,rfl,hX37,hI37⟩⟩:=seen_in rfl h.2.2.2.1
   exact tupon_value (v:=.agg #[.func (.func 169) #[] #[],.func (.func 169) #[] #[],.func (.func 170) #[] #[],.func (.func 171) #[] #[],.func (.func 165) #[] #[],.func (.func 172) #[] #[],.func (.func 166) #[] #[],.func (.func 166) #[] #[],.func (.func 173) #[] #[],.int .i64 N,.slice pl L.length cl,.slice po O.length co,.int .i64 t0,.int .i64 t1,.slice none 0 0,.slice (some ⟨X37,0,none⟩) L.length L.length]) (by simp [go_sem,yy0,yy1,yy2,yy3]) (Below.refl _ _) ⟨_,rfl,hX37,hI37⟩
  ·refine fun _=>ob_plain [] rfl rfl fun _ g h=>?_
   exact tupon_value (v:=.pointer (some ⟨g.w.heap.size,0,none⟩)) (w1:=g.w.alloc (.cells #[.nilFunc,.nilFunc,.nilFunc,.nilFunc,.nilFunc,.nilFunc,.nilFunc,.nilFunc,.nilFunc,.int .i64 0,.slice none 0 0,.slice none 0 0,.int .i64 0,.int .i64 0,.slice none 0 0,.slice none 0 0] 214)) (by simp [go_sem]) ((Below.refl _ _).alloc (Nat.le_refl _) _) ⟨_,rfl,g.h.size,World.alloc_heap_new _ _⟩
  ·exact fun h=>absurd rfl h
 rintro w5 hB _ rfl _ rfl _ rfl _ rfl _ rfl _ rfl _ ⟨X37,rfl,hX37,hI37⟩ _ ⟨Y37,rfl,hY37,hJ37⟩ _ ⟨X11,rfl,hX11,hI11⟩
 simp only [Act.put,List.setIfInBounds_toArray,List.set_cons_succ,List.set_cons_zero,List.filterMap_nil]
 have q0:=heapN_cellj hI11 (k:=0) rfl
 have y0:w5.frozen? ⟨X11,0,none⟩ = false:=by simp [World.frozen?,show w5.heap[X11]? = _ from hI11]
 have q1:=heapN_cellj hI11 (k:=1) rfl
 have y1:w5.frozen? ⟨X11,1,none⟩ = false:=by simp [World.frozen?,show w5.heap[X11]? = _ from hI11]
 have q2:=heapN_cellj hI11 (k:=2) rfl
 have y2:w5.frozen? ⟨X11,2,none⟩ = false:=by simp [World.frozen?,show w5.heap[X11]? = _ from hI11]
 have q3:=heapN_cellj hI11 (k:=3) rfl
 have y3:w5.frozen? ⟨X11,3,none⟩ = false:=by simp [World.frozen?,show w5.heap[X11]? = _ from hI11]
 have q4:=heapN_cellj hI11 (k:=4) rfl
 have y4:w5.frozen? ⟨X11,4,none⟩ = false:=by simp [World.frozen?,show w5.heap[X11]? = _ from hI11]
 have q5:=heapN_cellj hI11 (k:=5) rfl
 have y5:w5.frozen? ⟨X11,5,none⟩ = false:=by simp [World.frozen?,show w5.heap[X11]? = _ from hI11]
 have q6:=heapN_cellj hI11 (k:=6) rfl
 have y6:w5.frozen? ⟨X11,6,none⟩ = false:=by simp [World.frozen?,show w5.heap[X11]? = _ from hI11]
 have q7:=heapN_cellj hI11 (k:=7) rfl
 have y7:w5.frozen? ⟨X11,7,none⟩ = false:=by simp [World.frozen?,show w5.heap[X11]? = _ from hI11]
 have q8:=heapN_cellj hI11 (k:=8) rfl
 have y8:w5.frozen? ⟨X11,8,none⟩ = false:=by simp [World.frozen?,show w5.heap[X11]? = _ from hI11]
 have q9:=heapN_cellj hI11 (k:=9) rfl
 have y9:w5.frozen? ⟨X11,9,none⟩ = false:=by simp [World.frozen?,show w5.heap[X11]? = _ from hI11]
 have q10:=heapN_cellj hI11 (k:=10) rfl
 have y10:w5.frozen? ⟨X11,10,none⟩ = false:=by simp [World.frozen?,show w5.heap[X11]? = _ from hI11]
 have q11:=heapN_cellj hI11 (k:=11) rfl
 have y11:w5.frozen? ⟨X11,11,none⟩ = false:=by simp [World.frozen?,show w5.heap[X11]? = _ from hI11]
 have q12:=heapN_cellj hI11 (k:=12) rfl
 have y12:w5.frozen? ⟨X11,12,none⟩ = false:=by simp [World.frozen?,show w5.heap[X11]? = _ from hI11]
 have q13:=heapN_cellj hI11 (k:=13) rfl
 have y13:w5.frozen? ⟨X11,13,none⟩ = false:=by simp [World.frozen?,show w5.heap[X11]? = _ from hI11]
 have q14:=heapN_cellj hI11 (k:=14) rfl
 have y14:w5.frozen? ⟨X11,14,none⟩ = false:=by simp [World.frozen?,show w5.heap[X11]? = _ from hI11]
 have q15:=heapN_cellj hI11 (k:=15) rfl
 have y15:w5.frozen? ⟨X11,15,none⟩ = false:=by simp [World.frozen?,show w5.heap[X11]? = _ from hI11]
 refine ⟨_,by simp [go_sem,q0,y0,q1,y1,q2,y2,q3,y3,q4,y4,q5,y5,q6,y6,q7,y7,q8,y8,q9,y9,q10,y10,q11,y11,q12,y12,q13,y13,q14,y14,q15,y15]; rfl,?_⟩
 clear q0 y0 q1 y1 q2 y2 q3 y3 q4 y4 q5 y5 q6 y6 q7 y7 q8 y8 q9 y9 q10 y10 q11 y11 q12 y12 q13 y13 q14 y14 q15 y15 d0 d1 d2 d3 d4 d5 d6 d7 d8 c0 c1 c2 s0 s1
 obtain ⟨W2,eW2,HIW2,HOW2⟩:=set16 hI11 (.func (.func 169) #[] #[]) (.func (.func 169) #[] #[]) (.func (.func 170) #[] #[]) (.func (.func 171) #[] #[]) (.func (.func 165) #[] #[]) (.func (.func 172) #[] #[]) (.func (.func 166) #[] #[]) (.func (.func 166) #[] #[]) (.func (.func 173) #[] #[]) (.int .i64 N) (.slice pl L.length cl) (.slice po O.length co) (.int .i64 t0) (.int .i64 t1) (.slice none 0 0) (.slice (some ⟨Y37,0,none⟩) L.length L.length)
 rw [eW2]
 clear eW2
 have hne:Y37 ≠ X11:=fun e=>by
  rw [e,hI11] at hJ37
  simp only [Option.some.injEq,Obj.cells.injEq] at hJ37
  exact absurd hJ37.2.1 (by decide)
 have hJ37b:=HOW2.blk' hJ37 hne
 rw [← hNR] at hJ37b
 have hEX:ExV N pl L.length cl po O.length co t0 t1 w1.heap.size X11 W2 (.slice none 0 0) (.slice (some ⟨Y37,0,none⟩) L.length L.length) [] (List.replicate L.length []) [] (List.replicate L.length (.slice none 0 0)) :=
  ⟨HIW2,ow_nil _ _,ow_made hJ37b hY37 (by unfold maxLen; omega),.inl rfl,fun u hu=>by simp at hu,hX11⟩
 have HES:=Lib.hid hEX
 have HB1:=Lib.hid (HOW2.bel hB hX11 hB.size)
 clear hB hI11 hJ37 hI37 hJ37b hNR qmk HIW2 HOW2 hEX hne hX37 hY37 hX11 HD HS
 go_wp2_with (fail)
 go_loopw [41] (fun i wr=>∃ k:Nat,i = .int .i64 k∧k ≤ X.length∧∃ sv sus,Hid (ExV N pl L.length cl po O.length co t0 t1 w1.heap.size X11 wr sv (.slice (some ⟨Y37,0,none⟩) L.length L.length) ((X.take k).map fun p=>[p]) (List.replicate L.length []) sus (List.replicate L.length (.slice none 0 0)))∧Hid (Below w1.heap.size w1 wr)) (fun i _=>X.length - (intOf i).toNat)
 case atStart=>exact ⟨0,rfl,Nat.zero_le _,_,_,HES,HB1⟩
 case round =>
  clear HES HB1
  obtain ⟨k,rfl,hk,sv,sus,HES,HB1⟩:=hrel
  by_cases hlt:k < X.length
  ·have i2:(k:Int) < X.length:=by omega
   obtain ⟨⟨a,b⟩,hxa⟩:∃ x,X[k]? = some x:=⟨_,List.getElem?_eq_getElem hlt⟩
   obtain ⟨bx,ox,hpe,hbx,rdx⟩:=vx_rd HX.out hxa
   subst hpe
   have hsn:(X.take (k+1)).map (fun p=>[p]) = ((X.take k).map fun p=>[p]) ++ [[(a,b)]]:=by rw [List.take_add_one,hxa,List.map_append]; rfl
   have HSN:=Lib.hid hsn
   have hlk:((X.take k).map fun p=>[p]).length = k:=by rw [List.length_map,List.length_take]; omega
   obtain ⟨x0,x1⟩:=rdx ⟨wr,HB1.out⟩
   dsimp only at x0 x1
   obtain ⟨stk,hstk⟩:∃ l,((X.take k).map fun p=>[p]) = l:=⟨_,rfl⟩
   rw [hstk] at HES HSN hlk
   clear hxa hsn rdx hstk
   have hE3:Below wr.heap.size wr (((wr.alloc (.cells #[.int .i64 a,.int .i64 b] 66)).alloc (.cells #[.int .i64 a,.int .i64 b] 66)).alloc (.cells #[.slice (some ⟨wr.heap.size+1,0,none⟩) 1 1] 23)):=allocs_below [.cells #[.int .i64 a,.int .i64 b] 66,.cells #[.int .i64 a,.int .i64 b] 66,.cells #[.slice (some ⟨wr.heap.size+1,0,none⟩) 1 1] 23] wr
   have hA1:Below wr.heap.size wr (wr.alloc (.cells #[.int .i64 a,.int .i64 b] 66)):=allocs_below [.cells #[.int .i64 a,.int .i64 b] 66] wr
   have e14:=heapN_cellj (HES.out.grow hA1).blk (k:=14) rfl
   have z0:=heapN_cellj (World.alloc_heap_new wr (.cells #[.int .i64 a,.int .i64 b] 66)) (k:=0) rfl
   have z1:=heapN_cellj (World.alloc_heap_new wr (.cells #[.int .i64 a,.int .i64 b] 66)) (k:=1) rfl
   have HR3:=Lib.hid (show (((wr.alloc (.cells #[.int .i64 a,.int .i64 b] 66)).alloc (.cells #[.int .i64 a,.int .i64 b] 66)).alloc (.cells #[.slice (some ⟨wr.heap.size+1,0,none⟩) 1 1] 23)).heap[wr.heap.size+1]? = some (.cells #[.int .i64 a,.int .i64 b] 66 (0,0)) from allocs_at [.cells #[.int .i64 a,.int .i64 b] 66,.cells #[.int .i64 a,.int .i64 b] 66,.cells #[.slice (some ⟨wr.heap.size+1,0,none⟩) 1 1] 23] wr 1 _ rfl)
   have HN3:=Lib.hid (one_newN ((wr.alloc (.cells #[.int .i64 a,.int .i64 b] 66)).alloc (.cells #[.int .i64 a,.int .i64 b] 66)) (.slice (some ⟨wr.heap.size+1,0,none⟩) 1 1) 23)
   have HES3:=Lib.hid (HES.out.grow hE3)
   have HB3:=Lib.hid (HB1.out.trans (hE3.mono HB1.out.size))
   have hsz3:(((wr.alloc (.cells #[.int .i64 a,.int .i64 b] 66)).alloc (.cells #[.int .i64 a,.int .i64 b] 66)).alloc (.cells #[.slice (some ⟨wr.heap.size+1,0,none⟩) 1 1] 23)).heap.size = wr.heap.size+3:=by simp only [World.size_alloc]
   have HSZ3:=Lib.hid hsz3
   have hown3:=HES3.out.os.out
   rw [hlk] at hown3
   have HOWN3:=Lib.hid hown3
   have HLK:=Lib.hid hlk
   have HBW:=Lib.hid HB1.out.size
   have HSU:=Lib.hid (fun (y:Value) (hy:y ∈ sus) (q:Nat) (hq:y.ownBlock = some q)=>by
    obtain ⟨s,_,hs⟩:=HES.out.os.mem hy
    exact (hs.lt q hq).2)
   clear hE3 hA1 hsz3 hown3 hlk HES HB1
   go_wp2_with (at_builtin; go_loud (refine wpList_append_own_at _ rfl (.tmp 46) (.tmp 49) 157 rfl w1.heap.size 23 j0 (.slice none 0 0) 1 24 Tryz.underlying157 hj hy0 hy1 hy2 rfl (by decide) sv k _ rfl HOWN3.out ⟨wr.heap.size+1+1,0,none⟩ 1 1 [.slice (some ⟨wr.heap.size+1,0,none⟩) 1 1] rfl rfl (by have h:=HN3.out; simpa only [World.size_alloc] using h) (one_sl _ _ _) (by unfold maxLen; omega) (by omega) (by have:=HBW.out; have:=HSZ3.out; omega) ?_))
   intro v' w8 hown' hgrow _ hat
   obtain ⟨p9,c9,rfl⟩:=own_slice hown'
   have hb8:=(hgrow.block X11 (Array.getElem?_eq_some_iff.1 HES3.out.blk).1 (fun e=>by
    rcases blk_ne (by decide) HES3.out.blk HES3.out.os.out with q | q
    ·rw [q] at e; cases e
    ·exact q e.symm)).trans HES3.out.blk
   have q14:=heapN_cellj hb8 (k:=14) rfl
   have y14:w8.frozen? ⟨X11,14,none⟩ = false:=by simp [World.frozen?,show w8.heap[X11]? = _ from hb8]
   have hrl:=own_lit2 (B:=w1.heap.size) HR3.out (by have:=HBW.out; omega)
   have hadd:=HES3.out.addS (by decide) (by decide) (by decide) (eC_set14 N pl L.length cl po O.length co t0 t1) (u:=.slice (some ⟨wr.heap.size+1,0,none⟩) 1 1) (r:=[(a,b)]) hrl (fun y hy=>by
     rcases e2:y.ownBlock with _ | q
     ·exact .inl rfl
     ·refine .inr fun e3=>?_
      have h2:=HSU.out y hy q e2
      have h3:=Option.some.inj e3
      dsimp only at h3
      omega) (fun y hy=>by
     rw [List.eq_of_mem_replicate hy]
     exact .inr (by simp [Value.ownBlock])) (by rw [HLK.out]; exact hown') hgrow (hat.imp_right fun h=>by rw [h,HSZ3.out])
   have hb9:=(Below.grown HB3.out hgrow HB3.out.size (fun i hi=>(HOWN3.out.lt i hi).1)).setCell (p:=⟨X11,14,none⟩) HES3.out.lo (.slice p9 (k+1) c9)
   have HES9:=Lib.hid hadd
   have HB9:=Lib.hid hb9
   clear hadd hb9 hb8 hrl hown' hgrow hat e14 z0 z1 x0 x1 HES3 HB3 HR3 HN3 HOWN3 HSZ3 HBW HSU
   go_wp2_with (fail)
   go_roundw
   case rel=>exact ⟨k+1,by go_num,by omega,_,_,by rw [HSN.out]; exact HES9,HB9⟩
   case measure=>simp [intOf]; omega
  ·obtain rfl:k = X.length:=by omega
   have i2:¬ (X.length:Int) < X.length:=by omega
   go_wp2_with (fail)
   rw [List.take_length] at HES
   have hlm:(X.map fun p=>[p]).length = X.length:=List.length_map _
   obtain ⟨Os,cs,rfl,-,-⟩:=ot_cut HES.out.os.out (by rw [hlm]; omega)
   rw [hlm] at HES
   have HES:=Lib.hid (show ExV N pl L.length cl po O.length co t0 t1 w1.heap.size X11 wr (.slice (some ⟨Os,0,none⟩) X.length cs) (.slice (some ⟨Y37,0,none⟩) L.length L.length) (exN L O X (t0,t1) 0).2 (exN L O X (t0,t1) 0).1 sus (List.replicate L.length (.slice none 0 0)) from HES.out)
   obtain ⟨wv,hwv⟩:∃ wv,wv = wr:=⟨_,rfl⟩
   subst hwv
   clear hlm
   go_loopw [54] (fun i wr=>∃ k:Nat,i = .int .i64 k∧k ≤ K∧∃ sus rus,Hid (ExV N pl L.length cl po O.length co t0 t1 w1.heap.size X11 wr (.slice (some ⟨Os,0,none⟩) X.length cs) (.slice (some ⟨Y37,0,none⟩) L.length L.length) (exN L O X (t0,t1) k).2 (exN L O X (t0,t1) k).1 sus rus)∧Hid (Below w1.heap.size w1 wr)) (fun i _=>K - (intOf i).toNat)
   case atStart=>exact ⟨0,rfl,Nat.zero_le _,_,_,HES,HB1⟩
   case round =>
    clear HES HB1
    obtain ⟨k,rfl,hk2,sus,rus,HES,HB1⟩:=hrel
    by_cases hlt2:k < K
    ·have i3:(k:Int) < K:=by omega
     have c1:=heapN_cellj (HC.out.grow HB1.out) (k:=1) rfl
     have HR0:=Lib.hid (HEX.out k).1
     have HS0:=Lib.hid (HEX.out k).2
     have HQ2:=Lib.hid (show exN L O X (t0,t1) (k+1) = (rwN L (exN L O X (t0,t1) k).2 (t0,t1) k (exN L O X (t0,t1) k).1 L.length,stN O (rwN L (exN L O X (t0,t1) k).2 (t0,t1) k (exN L O X (t0,t1) k).1 L.length) k (exN L O X (t0,t1) k).2 O.length) from rfl)
     generalize (exN L O X (t0,t1) k).2 = st at *
     generalize (exN L O X (t0,t1) k).1 = rows at *
     go_wp2_with (fail)
     clear c1
     obtain ⟨wv2,hwv2⟩:∃ wv2,wv2 = wr:=⟨_,rfl⟩
     subst hwv2
     go_loopw [60] (fun i wr=>∃ j:Nat,i = .int .i64 j∧j ≤ L.length∧∃ rus,Hid (ExV N pl L.length cl po O.length co t0 t1 w1.heap.size X11 wr (.slice (some ⟨Os,0,none⟩) X.length cs) (.slice (some ⟨Y37,0,none⟩) L.length L.length) st (rwN L st (t0,t1) k rows j) sus rus)∧Hid (Below w1.heap.size w1 wr)) (fun i _=>L.length - (intOf i).toNat)
     case atStart=>exact ⟨0,rfl,Nat.zero_le _,_,HES,HB1⟩
     case round =>
      clear HES HB1
      obtain ⟨j,rfl,hj2,rus,HES,HB1⟩:=hrel
      by_cases hlt3:j < L.length
      ·have i4:(j:Int) < L.length:=by omega
       go_wp2_with (fail)
       obtain ⟨x,hx⟩:∃ x,L[j]? = some x:=⟨_,List.getElem?_eq_getElem hlt3⟩
       have hRj:=rw_all (t:=(t0,t1)) HCV.out HS0.out.av HVT.out HR0.out j (by omega)
       have hstp:rwN L st (t0,t1) k rows (j+1) = (rwN L st (t0,t1) k rows j).set j (gR (rwN L st (t0,t1) k rows j) j ++ [nxI x st (rwN L st (t0,t1) k rows j) (gR (rwN L st (t0,t1) k rows j) j) (t0,t1) k]):=by
        show rwStep L st (t0,t1) k (rwN L st (t0,t1) k rows j) j = _
        unfold rwStep
        rw [List.getD_eq_getElem?_getD,hx]
        rfl
       have HSTP:=Lib.hid hstp
       clear hstp
       generalize rwN L st (t0,t1) k rows j = rj at *
       have hlen:=hRj.len
       have hsl:=HS0.out.len
       have hrj:=gR_of (show j < rj.length by omega)
       have hlk:=rwk_at hRj hlt3
       have hvx:=HVL.out j x hx
       have KN:=Lib.hid (fun w h=>next_ok w X11 N pl cl po O.length co t0 t1 (.slice (some ⟨Os,0,none⟩) X.length cs) (.slice (some ⟨Y37,0,none⟩) L.length L.length) L st rj j k x h hx hN1 (by rw [hsl,HXN.out]; exact hvx) (by omega) hRj (by rw [hsl]; exact HS0.out))
       obtain ⟨r,hr⟩:∃ r,gR rj j = r:=⟨_,rfl⟩
       rw [hr] at KN HSTP hrj hlk
       obtain ⟨⟨r0,r1⟩,hn⟩:∃ p,nxI x st rj r (t0,t1) k = p:=⟨_,rfl⟩
       rw [hn] at KN HSTP
       obtain ⟨uo,huo,hrow⟩:=HES.out.orr.row j r hrj
       obtain ⟨pq,cq,rfl⟩:=own_slice hrow
       have hrl:r.length ≤ 100:=by omega
       have hout:=HES.out.orr.out
       rw [hlen] at hout
       have q0:=fun g:Grown wr=>((ot_kept hout g.h).cellAt j (by omega)).trans huo
       have hUW:=HES.out.exw (HL.out.grow HB1.out) (by omega) (by omega) (rwk_mem HS0.out (by omega)) (rwk_mem hRj (by omega))
       have HUW:=Lib.hid hUW
       have HROW:=Lib.hid hrow
       have HUO:=Lib.hid huo
       have HOUT9:=Lib.hid hout
       have HRJ:=Lib.hid hrj
       have HLK:=Lib.hid hlk
       have HLEN:=Lib.hid hlen
       have hult:∀ b,(Value.slice pq r.length cq).ownBlock = some b→b < wr.heap.size:=fun b hb=>(HROW.out.lt b hb).2
       have HBS:=HB1.out.size
       have hxb:=HES.out.blk
       have hxn:some X11 ≠ (Value.slice pq r.length cq).ownBlock:=fun e=>by
        rcases blk_ne (by decide) hxb hrow with q | q
        ·rw [q] at e; cases e
        ·exact q e.symm
       have HXB:=Lib.hid hxb
       have HXNE:=Lib.hid hxn
       have e15r:=fun (w9:World) (hg9:wr.grownBy w9 (Value.slice pq r.length cq).ownBlock)=>heapN_cellj ((hg9.block X11 (Array.getElem?_eq_some_iff.1 HXB.out).1 HXNE.out).trans HXB.out) (k:=15) (u:=.slice (some ⟨Y37,0,none⟩) L.length L.length) rfl
       have e15:=fun g:Grown wr=>e15r g.w (grown_of g.h)
       clear hx hRj hlen hsl hrj hlk hvx hr hn huo hrow hout hUW hxb hxn
       refine region_pred_a (lk [(63,fun z_ _=>z_ = .pointer (some ⟨X11,15,none⟩)),(64,fun z_ _=>z_ = .slice (some ⟨Y37,0,none⟩) L.length L.length),(65,fun z_ _=>z_ = .int .i64 (j:Int)),(66,fun z_ _=>z_ = .pointer (some ⟨X11,15,none⟩)),(67,fun z_ _=>z_ = .slice (some ⟨Y37,0,none⟩) L.length L.length),(68,fun z_ _=>z_ = .int .i64 (j:Int)),(69,fun z_ _=>z_ = .pointer (some ⟨Y37,j,none⟩)),(70,fun z_ _=>z_ = .slice pq r.length cq),(71,fun z_ _=>z_ = .int .i64 (j:Int)),(72,fun z_ _=>z_ = .int .i64 (k:Int)),(73,fun z_ _=>z_ = .agg #[.int .i64 r0,.int .i64 r1]),(74,fun z_ w'=>∃ X_,z_ = .slice (some ⟨X_,0,none⟩) 1 1∧wr.heap.size ≤ X_∧w'.heap[X_]? = some (.cells #[.int .i64 r0,.int .i64 r1] 66 (0,0))),(75,fun _ _=>True),(76,fun z_ _=>z_ = .pointer (some ⟨Y37,j,none⟩))]) 14 _ rfl (by kernel_rfl) (by kernel_rfl) (by kernel_rfl) ((Value.slice pq r.length cq).ownBlock) (fun g v w'=>w'.ownsRow w1.heap.size 66 2 v (r.length+1) (cr encB r ++ encB (r0,r1))∧(v.ownBlock = (Value.slice pq r.length cq).ownBlock ∨ v.ownBlock = some g.heap.size)) 12 _ 75 [0,1,2,13,14] rfl rfl rfl (by kernel_rfl) (lk_steadyR _ _ ⟨steadyR_eq _ _,steadyR_eq _ _,steadyR_eq _ _,steadyR_eq _ _,steadyR_eq _ _,steadyR_eq _ _,steadyR_eq _ _,steadyR_eq _ _,steadyR_eq _ _,steadyR_eq _ _,steadyR_eq _ _,steadyR_blk (hult),fun _ _ _ _ _=>trivial,steadyR_eq _ _,trivial⟩) ?_ ?_ ?_
       ·refine ⟨?_,?_,?_,?_,?_,?_,?_,?_,?_,?_,?_,?_,?_,?_,?_,trivial⟩
        ·intro _ _
         rw [if_pos (by decide)]
         refine oblR_plain [11] rfl rfl fun aa w9 hg9 h=>?_
         have yy0:=seen_out (v:=.pointer (some ⟨X11,0,none⟩)) rfl rfl h.1
         exact tvS (by simp [go_sem,yy0]) rfl
        ·intro _ _
         rw [if_pos (by decide)]
         refine oblR_plain [63] rfl rfl fun aa w9 hg9 h=>?_
         obtain ⟨_,yy0,rfl⟩:=seen_in rfl h.1
         exact tvS (by simp [go_sem,yy0,e15r w9 hg9]) rfl
        ·intro _ _
         rw [if_pos (by decide)]
         refine oblR_plain [15] rfl rfl fun aa w9 hg9 h=>?_
         have yy0:=seen_out (v:=.int .i64 (j:Int)) rfl rfl h.1
         exact tvS (by simp [go_sem,yy0]) rfl
        ·intro _ _
         rw [if_neg (by decide)]
         refine ob_plain [11] rfl rfl fun aa g h=>?_
         have yy0:=seen_out (v:=.pointer (some ⟨X11,0,none⟩)) rfl rfl h.1
         exact tvS (by simp [go_sem,yy0]) rfl
        ·intro _ _
         rw [if_neg (by decide)]
         refine ob_plain [66] rfl rfl fun aa g h=>?_
         obtain ⟨_,yy0,rfl⟩:=seen_in rfl h.1
         exact tvS (by simp [go_sem,yy0,e15 g]) rfl
        ·intro _ _
         rw [if_neg (by decide)]
         refine ob_plain [15] rfl rfl fun aa g h=>?_
         have yy0:=seen_out (v:=.int .i64 (j:Int)) rfl rfl h.1
         exact tvS (by simp [go_sem,yy0]) rfl
        ·intro _ _
         rw [if_neg (by decide)]
         refine ob_plain [67,68] rfl rfl fun aa g h=>?_
         obtain ⟨_,yy0,rfl⟩:=seen_in rfl h.1
         obtain ⟨_,yy1,rfl⟩:=seen_in rfl h.2.1
         exact tvS (by simp [go_sem,yy0,yy1,i4]) rfl
        ·intro _ _
         rw [if_neg (by decide)]
         refine ob_plain [69] rfl rfl fun aa g h=>?_
         obtain ⟨_,yy0,rfl⟩:=seen_in rfl h.1
         exact tvS (by simp [go_sem,yy0,q0 g]) rfl
        ·intro _ _
         rw [if_neg (by decide)]
         refine ob_plain [15] rfl rfl fun aa g h=>?_
         have yy0:=seen_out (v:=.int .i64 (j:Int)) rfl rfl h.1
         exact tvS (by simp [go_sem,yy0]) rfl
        ·intro _ _
         rw [if_neg (by decide)]
         refine ob_plain [14] rfl rfl fun aa g h=>?_
         have yy0:=seen_out (v:=.int .i64 (k:Int)) rfl rfl h.1
         exact tvS (by simp [go_sem,yy0]) rfl
        ·intro _ _
         rw [if_neg (by decide)]
         refine ob_plain [11,71,72] rfl rfl fun aa g h=>?_
         have yy0:=seen_out (v:=.pointer (some ⟨X11,0,none⟩)) rfl rfl h.1
         obtain ⟨_,yy1,rfl⟩:=seen_in rfl h.2.1
         obtain ⟨_,yy2,rfl⟩:=seen_in rfl h.2.2.1
         refine tupon_enter (f:=168) (args:=#[.pointer (some ⟨X11,0,none⟩),.int .i64 (j:Int),.int .i64 (k:Int)]) (by simp [go_sem,yy0,yy1,yy2]) rfl ?_
         exact (KN.out g.w (HUW.out.grow g.h)).mono fun e w' ⟨he,hB⟩=>⟨_,he,hB,rfl⟩
        ·intro _ _
         rw [if_neg (by decide)]
         refine ob_plain [73] rfl rfl fun aa g h=>?_
         obtain ⟨_,yy0,rfl⟩:=seen_in rfl h.1
         exact tupon_value (v:=.slice (some ⟨g.w.heap.size,0,none⟩) 1 1) (w1:=g.w.alloc (.cells #[.int .i64 r0,.int .i64 r1] 66)) (by simp [go_sem,yy0]) ((Below.refl _ _).alloc (Nat.le_refl _) _) ⟨_,rfl,g.h.size,World.alloc_heap_new _ _⟩
        ·exact fun _ h=>absurd rfl h
        ·intro _ _
         rw [if_pos (by decide)]
         refine oblR_plain [64,65] rfl rfl fun aa w9 hg9 h=>?_
         obtain ⟨_,yy0,rfl⟩:=seen_in rfl h.1
         obtain ⟨_,yy1,rfl⟩:=seen_in rfl h.2.1
         exact tvS (by simp [go_sem,yy0,yy1,i4]) rfl
        ·exact fun h=>absurd rfl h
       ·intro aa g h
        rw [looks_none _ rfl] at h
        change seenAll _ _ _ _ _ [70,74] at h
        obtain ⟨_,yy0,rfl⟩:=seen_in rfl h.1
        obtain ⟨_,yy1,⟨X74,rfl,hX74,hI74⟩⟩:=seen_in rfl h.2.1
        exact app_b (w1.heap.size) (.tmp 70) (.tmp 74) 23 66 i0 (.agg #[.int .i64 0,.int .i64 0]) 2 16 rfl Tryz.underlying23 hi hz0 hz1 hz2 rfl (by decide) (.slice pq r.length cq) r.length _ (by simp [go_sem,yy0]) (ot_kept HROW.out g.h) ⟨X74,0,none⟩ 1 1 (encB (r0,r1)) (by simp [go_sem,yy1]) rfl (two_at (r0,r1) hI74) (one_b _) (by unfold maxLen; omega) (by omega) (Nat.le_trans HB1.out.size g.h.size) rfl (fun v9 w9 r2 r3 r4=>⟨trivial,r3,r4⟩)
       rintro wg wa v75 wz hB hgr ⟨hR1,hR2⟩ hB2 _ rfl _ rfl _ rfl _ rfl _ rfl _ rfl _ rfl _ rfl _ rfl _ rfl _ rfl _ ⟨X74,rfl,hX74,hI74⟩ u75 - _ rfl
       simp only [Act.put,List.setIfInBounds_toArray,List.set_cons_succ,List.set_cons_zero,List.filterMap_nil,finP]
       intro hv9
       obtain rfl:u75 = v75:=Option.some.inj hv9
       clear hv9
       obtain ⟨p9,c9,rfl⟩:=own_slice hR1
       have hgz:=grown_then hgr hB2
       have hESg:=HES.out.grow hB
       have hRz:=ot_kept hR1 hB2
       have hoz:=(HOUT9.out.kept (grown_of hB (row:=none)) (by cases (Value.slice (some ⟨Y37,0,none⟩) L.length L.length).ownBlock <;> simp)).kept hgz (ot_ne (by decide) (ot_kept HOUT9.out hB) (ot_kept HROW.out hB))
       have hc:=(hoz.cellAt j (by omega)).trans HUO.out
       have hf:=hoz.frozenAt j
       refine ⟨_,by simp [go_sem,hc,hf]; rfl,?_⟩
       have hES':ExV N pl L.length cl po O.length co t0 t1 w1.heap.size X11 wg (.slice (some ⟨Os,0,none⟩) X.length cs) (.slice (some ⟨Y37,0,none⟩) rj.length L.length) st rj sus rus:=by rw [HLEN.out]; exact hESg
       have hpu:=hES'.pushR (by decide) (by decide) (by decide) HRJ.out HUO.out hRz hgz hR2
       rw [HLEN.out] at hpu
       have hb9:=((HB1.out.trans (hB.mono HB1.out.size)).grown hgz (Nat.le_trans HB1.out.size hB.size) (fun i e=>(HROW.out.lt i e).1)).setCell (p:=⟨Y37,j,none⟩) (by have h:=(HOUT9.out.lt Y37 rfl).1; exact h) (.slice p9 (r.length+1) c9)
       have HES9:=Lib.hid hpu
       have HB9:=Lib.hid hb9
       clear hB hgr hR1 hR2 hB2 hI74 hX74 hgz hESg hRz hoz hc hf hES' hpu hb9 q0 e15 e15r HES HB1 hult HBS
       go_wp2_with (fail)
       go_roundw
       case rel=>exact ⟨j+1,by go_num,by omega,_,by rw [HSTP.out]; exact HES9,HB9⟩
       case measure=>simp [intOf]; omega
      ·obtain rfl:j = L.length:=by omega
       have i4:¬ (L.length:Int) < L.length:=by omega
       have c2:=heapN_cellj (HC.out.grow HB1.out) (k:=2) rfl
       have HRF:=Lib.hid (rw_all (t:=(t0,t1)) HCV.out HS0.out.av HVT.out HR0.out L.length (Nat.le_refl _))
       generalize rwN L st (t0,t1) k rows L.length = rF at *
       go_wp2_with (fail)
       clear c2
       obtain ⟨wv3,hwv3⟩:∃ wv3,wv3 = wr:=⟨_,rfl⟩
       subst hwv3
       go_loopw [81] (fun i wr=>∃ j:Nat,i = .int .i64 j∧j ≤ O.length∧∃ sus,Hid (ExV N pl L.length cl po O.length co t0 t1 w1.heap.size X11 wr (.slice (some ⟨Os,0,none⟩) X.length cs) (.slice (some ⟨Y37,0,none⟩) L.length L.length) (stN O rF k st j) rF sus rus)∧Hid (Below w1.heap.size w1 wr)) (fun i _=>O.length - (intOf i).toNat)
       case atStart=>exact ⟨0,rfl,Nat.zero_le _,_,HES,HB1⟩
       case round =>
        clear HES HB1
        obtain ⟨j,rfl,hj2,sus,HES,HB1⟩:=hrel
        by_cases hlt3:j < O.length
        ·have i5:(j:Int) < O.length:=by omega
         obtain ⟨y,hy⟩:∃ y,O[j]? = some y:=⟨_,List.getElem?_eq_getElem hlt3⟩
         obtain ⟨y1,rfl⟩:=Int.eq_ofNat_of_zero_le (HOUT.out y (List.mem_of_getElem? hy)).1
         have hyl:y1 < L.length:=by have:=(HOUT.out _ (List.mem_of_getElem? hy)).2; omega
         obtain ⟨bo,oo,hpe,hbo,rdo⟩:=px_rd HO.out hy
         subst hpe
         have y0:=rdo ⟨wr,HB1.out⟩
         dsimp only at y0
         go_wp2_with (fail)
         have hSj:=st_all (out:=O) (rows:=rF) HS0.out j (by have:=HOX.out; omega)
         have hstp:stN O rF k st (j+1) = (stN O rF k st j).set j (gR (stN O rF k st j) j ++ [mrN 1 (k+1:Nat) (gI (gR rF y1) k)]):=by
          show stStep O rF k (stN O rF k st j) j = _
          unfold stStep
          rw [List.getD_eq_getElem?_getD,hy]
          simp
         have HSTP:=Lib.hid hstp
         clear hstp
         generalize stN O rF k st j = rj at *
         have hlen:=hSj.len
         have hrj:=gR_of (show j < rj.length by have:=HOX.out; omega)
         have hlk:=rwk_at hSj (by have:=HOX.out; omega)
         have hry:=gR_of (show y1 < rF.length by have:=HRF.out.len; omega)
         have hly:=rwk_lo HRF.out hyl (Nat.le_refl _)
         have vy:=gI_vi (gR_av HRF.out.av y1) k
         obtain ⟨uy,huy,hrowy⟩:=HES.out.orr.row y1 _ hry
         have hvy:=Rx.own encB_len hrowy (by rw [hly]; unfold maxLen; omega)
         obtain ⟨pY,cY,e9⟩:=hvy.cut
         subst e9
         obtain ⟨bY,oY,hpY,hbY,rdY⟩:=vx_rd hvy (g_of (show k < _ by omega))
         subst hpY
         have i6:(k:Int) < (gR rF y1).length:=by omega
         have i7:(y1:Int) < L.length:=by omega
         generalize gI (gR rF y1) k = xe at *
         obtain ⟨a0,a1⟩:=xe
         have KN:=Lib.hid (fun w=>over_ok a0 a1 ((k+1:Nat):Int) w vy (by omega) (by omega))
         obtain ⟨⟨r0,r1⟩,hn⟩:∃ p,mrN 1 ((k+1:Nat):Int) (a0,a1) = p:=⟨_,rfl⟩
         rw [hn] at KN HSTP
         obtain ⟨r,hr⟩:∃ r,gR rj j = r:=⟨_,rfl⟩
         rw [hr] at HSTP hrj hlk
         obtain ⟨uo,huo,hrow⟩:=HES.out.os.row j r hrj
         obtain ⟨pq,cq,rfl⟩:=own_slice hrow
         have hrl:r.length ≤ 100:=by omega
         have hout:=HES.out.os.out
         have houty:=HES.out.orr.out
         rw [hlen] at hout
         rw [HRF.out.len] at houty
         have jX:j < X.length:=by have:=HOX.out; omega
         have jX2:(j:Int) < X.length:=by omega
         have q0:=fun g:Grown wr=>((ot_kept hout g.h).cellAt j (by omega)).trans huo
         have q1:=fun g:Grown wr=>((ot_kept houty g.h).cellAt y1 (by omega)).trans huy
         have f0:=fun g:Grown wr=>(rdY g).1
         have f1:=fun g:Grown wr=>(rdY g).2
         dsimp only at f0 f1
         have HROW:=Lib.hid hrow
         have HUO:=Lib.hid huo
         have HOUT9:=Lib.hid hout
         have HRJ:=Lib.hid hrj
         have HLK:=Lib.hid hlk
         have HLEN:=Lib.hid hlen
         have hult:∀ b,(Value.slice pq r.length cq).ownBlock = some b→b < wr.heap.size:=fun b hb=>(HROW.out.lt b hb).2
         have HBS:=HB1.out.size
         have hxb:=HES.out.blk
         have hxn:some X11 ≠ (Value.slice pq r.length cq).ownBlock:=fun e=>by
          rcases blk_ne (by decide) hxb hrow with q | q
          ·rw [q] at e; cases e
          ·exact q e.symm
         have HXB:=Lib.hid hxb
         have HXNE:=Lib.hid hxn
         have e14r:=fun (w9:World) (hg9:wr.grownBy w9 (Value.slice pq r.length cq).ownBlock)=>heapN_cellj ((hg9.block X11 (Array.getElem?_eq_some_iff.1 HXB.out).1 HXNE.out).trans HXB.out) (k:=14) (u:=.slice (some ⟨Os,0,none⟩) X.length cs) rfl
         have e14:=fun g:Grown wr=>e14r g.w (grown_of g.h)
         have e15:=fun g:Grown wr=>heapN_cellj ((g.h.block X11 (Array.getElem?_eq_some_iff.1 HXB.out).1).trans HXB.out) (k:=15) (u:=.slice (some ⟨Y37,0,none⟩) L.length L.length) rfl
         have e8:=fun g:Grown wr=>heapN_cellj ((g.h.block X11 (Array.getElem?_eq_some_iff.1 HXB.out).1).trans HXB.out) (k:=8) (u:=.func (.func 173) #[] #[]) rfl
         have hw1:IntKind.i64.wrap ((k:Int)+1) = ((k+1:Nat):Int):=by rw [wrapN _ (by omega) (by omega)]; omega
         clear hy rdo y0 hSj hlen hrj hlk hry hly vy huy hrowy hvy rdY hn hr huo hrow hout houty hxb hxn
         refine region_pred_a (lk [(86,fun z_ _=>z_ = .pointer (some ⟨X11,14,none⟩)),(87,fun z_ _=>z_ = .slice (some ⟨Os,0,none⟩) X.length cs),(88,fun z_ _=>z_ = .int .i64 (j:Int)),(89,fun z_ _=>z_ = .pointer (some ⟨X11,14,none⟩)),(90,fun z_ _=>z_ = .slice (some ⟨Os,0,none⟩) X.length cs),(91,fun z_ _=>z_ = .int .i64 (j:Int)),(92,fun z_ _=>z_ = .pointer (some ⟨Os,j,none⟩)),(93,fun z_ _=>z_ = .slice pq r.length cq),(94,fun z_ _=>z_ = .pointer (some ⟨X11,0,none⟩)),(95,fun z_ _=>z_ = .pointer (some ⟨X11,8,none⟩)),(96,fun z_ _=>z_ = .func (.func 173) #[] #[]),(97,fun z_ _=>z_ = .pointer (some ⟨X11,15,none⟩)),(98,fun z_ _=>z_ = .slice (some ⟨Y37,0,none⟩) L.length L.length),(99,fun z_ _=>z_ = .int .i64 (y1:Int)),(100,fun z_ _=>z_ = .pointer (some ⟨Y37,y1,none⟩)),(101,fun z_ _=>z_ = .slice (some ⟨bY,oY,none⟩) (gR rF y1).length cY),(102,fun z_ _=>z_ = .int .i64 (k:Int)),(103,fun z_ _=>z_ = .pointer (some ⟨bY,oY+k * 2,none⟩)),(104,fun z_ _=>z_ = .agg #[.int .i64 a0,.int .i64 a1]),(105,fun z_ _=>z_ = .int .i64 (k:Int)),(106,fun z_ _=>z_ = .int .i64 ((k+1:Nat):Int)),(107,fun z_ _=>z_ = .agg #[.int .i64 r0,.int .i64 r1]),(108,fun z_ w'=>∃ X_,z_ = .slice (some ⟨X_,0,none⟩) 1 1∧wr.heap.size ≤ X_∧w'.heap[X_]? = some (.cells #[.int .i64 r0,.int .i64 r1] 66 (0,0))),(109,fun _ _=>True),(110,fun z_ _=>z_ = .pointer (some ⟨Os,j,none⟩))]) 25 _ rfl (by kernel_rfl) (by kernel_rfl) (by kernel_rfl) ((Value.slice pq r.length cq).ownBlock) (fun g v w'=>w'.ownsRow w1.heap.size 66 2 v (r.length+1) (cr encB r ++ encB (r0,r1))∧(v.ownBlock = (Value.slice pq r.length cq).ownBlock ∨ v.ownBlock = some g.heap.size)) 23 _ 109 [0,1,2,24,25] rfl rfl rfl (by kernel_rfl) (lk_steadyR _ _ ⟨steadyR_eq _ _,steadyR_eq _ _,steadyR_eq _ _,steadyR_eq _ _,steadyR_eq _ _,steadyR_eq _ _,steadyR_eq _ _,steadyR_eq _ _,steadyR_eq _ _,steadyR_eq _ _,steadyR_eq _ _,steadyR_eq _ _,steadyR_eq _ _,steadyR_eq _ _,steadyR_eq _ _,steadyR_eq _ _,steadyR_eq _ _,steadyR_eq _ _,steadyR_eq _ _,steadyR_eq _ _,steadyR_eq _ _,steadyR_eq _ _,steadyR_blk (hult),fun _ _ _ _ _=>trivial,steadyR_eq _ _,trivial⟩) ?_ ?_ ?_
         ·refine ⟨?_,?_,?_,?_,?_,?_,?_,?_,?_,?_,?_,?_,?_,?_,?_,?_,?_,?_,?_,?_,?_,?_,?_,?_,?_,?_,trivial⟩
          ·intro _ _
           rw [if_pos (by decide)]
           refine oblR_plain [11] rfl rfl fun aa w9 hg9 h=>?_
           have yy0:=seen_out (v:=.pointer (some ⟨X11,0,none⟩)) rfl rfl h.1
           exact tvS (by simp [go_sem,yy0]) rfl
          ·intro _ _
           rw [if_pos (by decide)]
           refine oblR_plain [86] rfl rfl fun aa w9 hg9 h=>?_
           obtain ⟨_,yy0,rfl⟩:=seen_in rfl h.1
           exact tvS (by simp [go_sem,yy0,e14r w9 hg9]) rfl
          ·intro _ _
           rw [if_pos (by decide)]
           refine oblR_plain [16] rfl rfl fun aa w9 hg9 h=>?_
           have yy0:=seen_out (v:=.int .i64 (j:Int)) rfl rfl h.1
           exact tvS (by simp [go_sem,yy0]) rfl
          ·intro _ _
           rw [if_neg (by decide)]
           refine ob_plain [11] rfl rfl fun aa g h=>?_
           have yy0:=seen_out (v:=.pointer (some ⟨X11,0,none⟩)) rfl rfl h.1
           exact tvS (by simp [go_sem,yy0]) rfl
          ·intro _ _
           rw [if_neg (by decide)]
           refine ob_plain [89] rfl rfl fun aa g h=>?_
           obtain ⟨_,yy0,rfl⟩:=seen_in rfl h.1
           exact tvS (by simp [go_sem,yy0,e14 g]) rfl
          ·intro _ _
           rw [if_neg (by decide)]
           refine ob_plain [16] rfl rfl fun aa g h=>?_
           have yy0:=seen_out (v:=.int .i64 (j:Int)) rfl rfl h.1
           exact tvS (by simp [go_sem,yy0]) rfl
          ·intro _ _
           rw [if_neg (by decide)]
           refine ob_plain [90,91] rfl rfl fun aa g h=>?_
           obtain ⟨_,yy0,rfl⟩:=seen_in rfl h.1
           obtain ⟨_,yy1,rfl⟩:=seen_in rfl h.2.1
           exact tvS (by simp [go_sem,yy0,yy1,jX2]) rfl
          ·intro _ _
           rw [if_neg (by decide)]
           refine ob_plain [92] rfl rfl fun aa g h=>?_
           obtain ⟨_,yy0,rfl⟩:=seen_in rfl h.1
           exact tvS (by simp [go_sem,yy0,q0 g]) rfl
          ·intro _ _
           rw [if_neg (by decide)]
           refine ob_plain [11] rfl rfl fun aa g h=>?_
           have yy0:=seen_out (v:=.pointer (some ⟨X11,0,none⟩)) rfl rfl h.1
           exact tvS (by simp [go_sem,yy0]) rfl
          ·intro _ _
           rw [if_neg (by decide)]
           refine ob_plain [94] rfl rfl fun aa g h=>?_
           obtain ⟨_,yy0,rfl⟩:=seen_in rfl h.1
           exact tvS (by simp [go_sem,yy0]) rfl
          ·intro _ _
           rw [if_neg (by decide)]
           refine ob_plain [95] rfl rfl fun aa g h=>?_
           obtain ⟨_,yy0,rfl⟩:=seen_in rfl h.1
           exact tvS (by simp [go_sem,yy0,e8 g]) rfl
          ·intro _ _
           rw [if_neg (by decide)]
           refine ob_plain [11] rfl rfl fun aa g h=>?_
           have yy0:=seen_out (v:=.pointer (some ⟨X11,0,none⟩)) rfl rfl h.1
           exact tvS (by simp [go_sem,yy0]) rfl
          ·intro _ _
           rw [if_neg (by decide)]
           refine ob_plain [97] rfl rfl fun aa g h=>?_
           obtain ⟨_,yy0,rfl⟩:=seen_in rfl h.1
           exact tvS (by simp [go_sem,yy0,e15 g]) rfl
          ·intro _ _
           rw [if_neg (by decide)]
           refine ob_plain [17] rfl rfl fun aa g h=>?_
           have yy0:=seen_out (v:=.int .i64 (y1:Int)) rfl rfl h.1
           exact tvS (by simp [go_sem,yy0]) rfl
          ·intro _ _
           rw [if_neg (by decide)]
           refine ob_plain [98,99] rfl rfl fun aa g h=>?_
           obtain ⟨_,yy0,rfl⟩:=seen_in rfl h.1
           obtain ⟨_,yy1,rfl⟩:=seen_in rfl h.2.1
           exact tvS (by simp [go_sem,yy0,yy1,i7]) rfl
          ·intro _ _
           rw [if_neg (by decide)]
           refine ob_plain [100] rfl rfl fun aa g h=>?_
           obtain ⟨_,yy0,rfl⟩:=seen_in rfl h.1
           exact tvS (by simp [go_sem,yy0,q1 g]) rfl
          ·intro _ _
           rw [if_neg (by decide)]
           refine ob_plain [14] rfl rfl fun aa g h=>?_
           have yy0:=seen_out (v:=.int .i64 (k:Int)) rfl rfl h.1
           exact tvS (by simp [go_sem,yy0]) rfl
          ·intro _ _
           rw [if_neg (by decide)]
           refine ob_plain [101,102] rfl rfl fun aa g h=>?_
           obtain ⟨_,yy0,rfl⟩:=seen_in rfl h.1
           obtain ⟨_,yy1,rfl⟩:=seen_in rfl h.2.1
           exact tvS (by simp [go_sem,yy0,yy1,i6]) rfl
          ·intro _ _
           rw [if_neg (by decide)]
           refine ob_plain [103] rfl rfl fun aa g h=>?_
           obtain ⟨_,yy0,rfl⟩:=seen_in rfl h.1
           exact tvS (by simp [go_sem,yy0,f0 g,f1 g]) rfl
          ·intro _ _
           rw [if_neg (by decide)]
           refine ob_plain [14] rfl rfl fun aa g h=>?_
           have yy0:=seen_out (v:=.int .i64 (k:Int)) rfl rfl h.1
           exact tvS (by simp [go_sem,yy0]) rfl
          ·intro _ _
           rw [if_neg (by decide)]
           refine ob_plain [105] rfl rfl fun aa g h=>?_
           obtain ⟨_,yy0,rfl⟩:=seen_in rfl h.1
           exact tvS (by simp [go_sem,yy0,hw1]) rfl
          ·intro _ _
           rw [if_neg (by decide)]
           refine ob_plain [96,104,106] rfl rfl fun aa g h=>?_
           obtain ⟨_,yy0,rfl⟩:=seen_in rfl h.1
           obtain ⟨_,yy1,rfl⟩:=seen_in rfl h.2.1
           obtain ⟨_,yy2,rfl⟩:=seen_in rfl h.2.2.1
           refine tupon_enter (f:=173) (args:=#[.agg #[.int .i64 a0,.int .i64 a1],.int .i64 ((k+1:Nat):Int)]) (by simp [go_sem,yy0,yy1,yy2]) rfl ?_
           exact (KN.out g.w).mono fun e w' ⟨he,hB⟩=>⟨_,he,hB,rfl⟩
          ·intro _ _
           rw [if_neg (by decide)]
           refine ob_plain [107] rfl rfl fun aa g h=>?_
           obtain ⟨_,yy0,rfl⟩:=seen_in rfl h.1
           exact tupon_value (v:=.slice (some ⟨g.w.heap.size,0,none⟩) 1 1) (w1:=g.w.alloc (.cells #[.int .i64 r0,.int .i64 r1] 66)) (by simp [go_sem,yy0]) ((Below.refl _ _).alloc (Nat.le_refl _) _) ⟨_,rfl,g.h.size,World.alloc_heap_new _ _⟩
          ·exact fun _ h=>absurd rfl h
          ·intro _ _
           rw [if_pos (by decide)]
           refine oblR_plain [87,88] rfl rfl fun aa w9 hg9 h=>?_
           obtain ⟨_,yy0,rfl⟩:=seen_in rfl h.1
           obtain ⟨_,yy1,rfl⟩:=seen_in rfl h.2.1
           exact tvS (by simp [go_sem,yy0,yy1,jX2]) rfl
          ·exact fun h=>absurd rfl h
         ·intro aa g h
          rw [looks_none _ rfl] at h
          change seenAll _ _ _ _ _ [93,108] at h
          obtain ⟨_,yy0,rfl⟩:=seen_in rfl h.1
          obtain ⟨_,yy1,⟨X108,rfl,hX108,hI108⟩⟩:=seen_in rfl h.2.1
          exact app_b (w1.heap.size) (.tmp 93) (.tmp 108) 23 66 i0 (.agg #[.int .i64 0,.int .i64 0]) 2 16 rfl Tryz.underlying23 hi hz0 hz1 hz2 rfl (by decide) (.slice pq r.length cq) r.length _ (by simp [go_sem,yy0]) (ot_kept HROW.out g.h) ⟨X108,0,none⟩ 1 1 (encB (r0,r1)) (by simp [go_sem,yy1]) rfl (two_at (r0,r1) hI108) (one_b _) (by unfold maxLen; omega) (by omega) (Nat.le_trans HB1.out.size g.h.size) rfl (fun v9 w9 r2 r3 r4=>⟨trivial,r3,r4⟩)
         rintro wg wa v109 wz hB hgr ⟨hR1,hR2⟩ hB2 _ rfl _ rfl _ rfl _ rfl _ rfl _ rfl _ rfl _ rfl _ rfl _ rfl _ rfl _ rfl _ rfl _ rfl _ rfl _ rfl _ rfl _ rfl _ rfl _ rfl _ rfl _ rfl _ ⟨X108,rfl,hX108,hI108⟩ u109 - _ rfl
         simp only [Act.put,List.setIfInBounds_toArray,List.set_cons_succ,List.set_cons_zero,List.filterMap_nil,finP]
         intro hv9
         obtain rfl:u109 = v109:=Option.some.inj hv9
         clear hv9
         obtain ⟨p9,c9,rfl⟩:=own_slice hR1
         have hgz:=grown_then hgr hB2
         have hESg:=HES.out.grow hB
         have hRz:=ot_kept hR1 hB2
         have hoz:=(HOUT9.out.kept (grown_of hB (row:=none)) (by cases (Value.slice (some ⟨Os,0,none⟩) X.length cs).ownBlock <;> simp)).kept hgz (ot_ne (by decide) (ot_kept HOUT9.out hB) (ot_kept HROW.out hB))
         have hc:=(hoz.cellAt j (by omega)).trans HUO.out
         have hf:=hoz.frozenAt j
         refine ⟨_,by simp [go_sem,hc,hf]; rfl,?_⟩
         have hES':ExV N pl L.length cl (some ⟨bo,oo,none⟩) O.length co t0 t1 w1.heap.size X11 wg (.slice (some ⟨Os,0,none⟩) rj.length cs) (.slice (some ⟨Y37,0,none⟩) L.length L.length) rj rF sus rus:=by rw [HLEN.out]; exact hESg
         have hpu:=hES'.pushS (by decide) (by decide) (by decide) HRJ.out HUO.out hRz hgz hR2
         rw [HLEN.out] at hpu
         have hb9:=((HB1.out.trans (hB.mono HB1.out.size)).grown hgz (Nat.le_trans HB1.out.size hB.size) (fun i e=>(HROW.out.lt i e).1)).setCell (p:=⟨Os,j,none⟩) (by have h:=(HOUT9.out.lt Os rfl).1; exact h) (.slice p9 (r.length+1) c9)
         have HES9:=Lib.hid hpu
         have HB9:=Lib.hid hb9
         clear hB hgr hR1 hR2 hB2 hI108 hX108 hgz hESg hRz hoz hc hf hES' hpu hb9 q0 q1 f0 f1 e14 e14r e15 e8 hw1 HES HB1 hult HBS
         go_wp2_with (fail)
         go_roundw
         case rel=>exact ⟨j+1,by go_num,by omega,_,by rw [HSTP.out]; exact HES9,HB9⟩
         case measure=>simp [intOf]; omega
        ·obtain rfl:j = O.length:=by omega
         have i5:¬ (O.length:Int) < O.length:=by omega
         go_wp2_with (fail)
         go_roundw
         case rel=>exact ⟨k+1,by go_num,by omega,_,_,by rw [HQ2.out]; exact HES,HB1⟩
         case measure=>simp [intOf]; omega
    ·obtain rfl:k = K:=by omega
     have i3:¬ (k:Int) < k:=by omega
     have e14:=heapN_cellj HES.out.blk (k:=14) (u:=.slice (some ⟨Os,0,none⟩) X.length cs) rfl
     go_wp2_with (fail)
     go_ret
     have hA:=HES.out.os.base HW.out.size
     have hBl:=below_then HW.out HB1.out
     first | exact ⟨_,rfl,_,hA,hBl⟩ | exact ⟨⟨_,hA⟩,hBl⟩ | exact ⟨_,⟨_,hA⟩,hBl⟩ | exact ⟨_,_,rfl,hA,hBl⟩ | exact ⟨_,rfl,⟨_,hA⟩,hBl⟩
end Go.Proofs.YtdfdpghdjlgghaaGreat
