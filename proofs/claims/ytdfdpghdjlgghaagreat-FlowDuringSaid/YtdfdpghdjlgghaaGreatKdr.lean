/-
 Va
-/
import Derived.Test.YtdfdpghdjlgghaaGreatKdm
import Derived.Test.YtdfdpghdjlgghaaGreatKdq
namespace Go.Proofs.YtdfdpghdjlgghaaGreat
open Go.ChangeShapes Go.WideShapes Go.ChangeAt Go.RowKit
set_option linter.unusedVariables false
set_option linter.unusedSimpArgs false
set_option maxRecDepth 100000
theorem vx_bx {w:World} {v:Value} {l:List (Int × Int)} (h:Vx w v l):Bx w v l:=by
 obtain ⟨h1,p,c,rfl,h2⟩:=h
 refine ⟨h1,p,c,rfl,fun k x hx=>?_⟩
 obtain ⟨b,o,rfl,h3,h4⟩:=h2 k x hx
 exact ⟨b,o,rfl,h3,h4 0 _ rfl,h4 1 _ rfl⟩
theorem bx_vx {w:World} {v:Value} {l:List (Int × Int)} (h:Bx w v l):Vx w v l:=by
 obtain ⟨h1,p,c,rfl,h2⟩:=h
 refine ⟨h1,p,c,rfl,fun k x hx=>?_⟩
 obtain ⟨b,o,rfl,h3,h4,h5⟩:=h2 k x hx
 refine ⟨b,o,rfl,h3,fun j u hj=>?_⟩
 unfold encB at hj
 match j,hj with
 | 0,hj=>cases hj; exact h4
 | 1,hj=>cases hj; exact h5
 | j+2,hj=>cases hj
def imgP (H:Int) (x f:Int × Int):Int × Int:=opI 7 x (opI 9 (0,H) f)
def imgL (H:Int) (X F:List (Int × Int)):List (Int × Int):=List.zipWith (imgP H) X F
theorem imgP_eq (H:Int) (x f:Int × Int):imgP H x f = (addLo x.1 x.2 (mulLo 0 H f.1 f.2) (mulHi 0 H f.1 f.2),addHi x.1 x.2 (mulLo 0 H f.1 f.2) (mulHi 0 H f.1 f.2)):=rfl
theorem imgL_snoc {H:Int} {X F:List (Int × Int)} {k:Nat} {x f:Int × Int} (hx:X[k]? = some x) (hf:F[k]? = some f):(imgL H X F).take (k+1) = (imgL H X F).take k ++ [imgP H x f]:=by
 rw [List.take_add_one]
 unfold imgL
 rw [List.getElem?_zipWith,hx,hf]
 rfl
theorem imgL_len {H:Int} {X F:List (Int × Int)} (h:F.length = X.length):(imgL H X F).length = X.length:=by
 unfold imgL
 rw [List.length_zipWith,h,Nat.min_self]
theorem imgL_at {H:Int} {X F:List (Int × Int)} {k:Nat} {x f:Int × Int} (hx:X[k]? = some x) (hf:F[k]? = some f):(imgL H X F)[k]? = some (imgP H x f):=by
 unfold imgL
 rw [List.getElem?_zipWith,hx,hf]
theorem num_vi {H:Int} (h0:0 ≤ H) (h1:H ≤ 1000000):VI (0,H).1 (0,H).2:=.inr ⟨by unfold Num; dsimp only; omega,by unfold Num; dsimp only; omega,h0⟩
theorem imgP_vi {H:Int} {x f:Int × Int} (hx:VI x.1 x.2) (hf:VI f.1 f.2) (h0:0 ≤ H) (h1:H ≤ 1000000):VI (imgP H x f).1 (imgP H x f).2:=opI_vi 7 hx (opI_vi 9 (num_vi h0 h1) hf)
theorem imgL_vi {H:Int} {X F:List (Int × Int)} (hX:∀ p ∈ X,VI p.1 p.2) (hF:∀ p ∈ F,VI p.1 p.2) (h0:0 ≤ H) (h1:H ≤ 1000000):∀ p ∈ imgL H X F,VI p.1 p.2:=by
 intro p hp
 obtain ⟨k,hk⟩:=List.getElem?_of_mem hp
 unfold imgL at hk
 rw [List.getElem?_zipWith] at hk
 cases ex:X[k]? with
 | none=>rw [ex] at hk; cases hk
 | some x =>
  cases ef:F[k]? with
  | none=>rw [ex,ef] at hk; cases hk
  | some f =>
   rw [ex,ef] at hk
   obtain rfl:=Option.some.inj hk
   exact imgP_vi (hX _ (List.mem_of_getElem? ex)) (hF _ (List.mem_of_getElem? ef)) h0 h1
def imgT (L:List Is) (O:List Int) (T H:Int) (X B:List (Int × Int)):List (Int × Int):=imgL H X (outV (evL B (T,T+H) L) O)
def infP (p:Int × Int):Int × Int:=(mkLo (p.1 - ((p.2 - p.1) / 16+1)) (p.2+((p.2 - p.1) / 16+1)),mkHi (p.1 - ((p.2 - p.1) / 16+1)) (p.2+((p.2 - p.1) / 16+1)))
theorem infP_vi {p:Int × Int} (h:VI p.1 p.2):VI (infP p).1 (infP p).2:=by
 have:=h.bd
 exact mk_vi (by omega)
def infL (l:List (Int × Int)):List (Int × Int):=l.map infP
def entB (p:Int × Int):Bool:=(p.1 == -2147483648) && (p.2 == 2147483648)
def bndB (l:List (Int × Int)):Bool:=!l.any entB
def subB (l m:List (Int × Int)):Bool:=(l.zip m).all sub1
def hulL (l m:List (Int × Int)):List (Int × Int):=(l.zip m).map hullI
def encG (img:List (Int × Int)→List (Int × Int)):Nat→List (Int × Int)→Option (List (Int × Int))
 | 0,_=>none
 | n+1,h=>if (bndB (infL h) && bndB (img (infL h))) = false then none else if subB (img (infL h)) (infL h) = true then some (img (infL h)) else encG img n (hulL (infL h) (img (infL h)))
theorem hul_vi {l m:List (Int × Int)} (h1:∀ p ∈ l,VI p.1 p.2) (h2:∀ p ∈ m,VI p.1 p.2):∀ p ∈ hulL l m,VI p.1 p.2:=by
 intro p hp
 unfold hulL at hp
 rw [List.mem_map] at hp
 obtain ⟨z,hz,rfl⟩:=hp
 have ha:=h1 _ (List.of_mem_zip hz).1
 have hb:=h2 _ (List.of_mem_zip hz).2
 unfold hullI
 dsimp only
 unfold VI Ent Num at *
 omega
theorem hul_len {l m:List (Int × Int)} (h:m.length = l.length):(hulL l m).length = l.length:=by unfold hulL; rw [List.length_map,List.length_zip,h,Nat.min_self]
theorem inf_vi {l:List (Int × Int)} (h:∀ p ∈ l,VI p.1 p.2):∀ p ∈ infL l,VI p.1 p.2:=by
 intro p hp
 unfold infL at hp
 rw [List.mem_map] at hp
 obtain ⟨q,hq,rfl⟩:=hp
 exact infP_vi (h q hq)
theorem inf_len (l:List (Int × Int)):(infL l).length = l.length:=by unfold infL; rw [List.length_map]
end Go.Proofs.YtdfdpghdjlgghaaGreat
namespace Go.Proofs.YtdfdpghdjlgghaaGreat
open Go.ChangeShapes Go.WideShapes Go.ChangeAt Go.RowKit
set_option linter.unusedVariables false
set_option linter.unusedSimpArgs false
set_option maxRecDepth 100000
attribute [local irreducible] Calls
theorem two_at {W:World} {X:Nat} (x:Int × Int) (h:W.heap[X]? = some (.cells #[.int .i64 x.1,.int .i64 x.2] 66 (0,0))):∀ j u,(encB x)[j]? = some u→W.cell? ((⟨X,0,none⟩:Addr).add j) = some u:=by
 intro j u hj
 have hk:j < 2:=by have:=(List.getElem?_eq_some_iff.1 hj).1; simpa [encB] using this
 unfold encB at hj
 match j,hk,hj with
 | 0,_,hj=>cases hj; simp [Addr.add,World.cell?,h]
 | 1,_,hj=>cases hj; simp [Addr.add,World.cell?,h]
set_option maxHeartbeats 8000000 in
theorem im1_ok (a b c d H s0 s1:Int) (eb:Nat) (w:World) (hv:VI a b) (hf:VI c d) (h0:0 ≤ H) (h1:H ≤ 1000000) (hE:Blk w eb (.cells #[.int .i64 0,.int .i64 H] 66)) (hs:imgP H (a,b) (c,d) = (s0,s1)) :
  Calls Tryz.prog 164 #[.agg #[.int .i64 a,.int .i64 b],.agg #[.int .i64 c,.int .i64 d],.pointer (some ⟨eb,0,none⟩)] w fun e w'=>e = .returned (.agg #[.int .i64 s0,.int .i64 s1])∧Below w.heap.size w w':=by
 rw [imgP_eq] at hs
 dsimp only at hs
 have KM:=Lib.hid (fun w=>iv_mul 0 H c d w (num_vi h0 h1) hf)
 have hm:=mul_vi 0 H c d
 obtain ⟨m0,hm0⟩:∃ m,mulLo 0 H c d = m:=⟨_,rfl⟩
 obtain ⟨m1,hm1⟩:∃ m,mulHi 0 H c d = m:=⟨_,rfl⟩
 rw [hm0,hm1] at KM hm hs
 have KA:=Lib.hid (fun w=>iv_add a b m0 m1 w hv hm)
 obtain ⟨e0,e1⟩:=Prod.mk.inj hs
 rw [e0,e1] at KA
 have hba:Below w.heap.size w (((w.alloc (.cells #[.int .i64 a,.int .i64 b] 66)).alloc (.cells #[.int .i64 c,.int .i64 d] 66)).alloc (.cells #[.int .i64 0,.int .i64 0] 66)):=allocs_below [.cells #[.int .i64 a,.int .i64 b] 66,.cells #[.int .i64 c,.int .i64 d] 66,.cells #[.int .i64 0,.int .i64 0] 66] w
 have HA:=Lib.hid (show Blk (((w.alloc (.cells #[.int .i64 a,.int .i64 b] 66)).alloc (.cells #[.int .i64 c,.int .i64 d] 66)).alloc (.cells #[.int .i64 0,.int .i64 0] 66)) w.heap.size (.cells #[.int .i64 a,.int .i64 b] 66) from allocs_at [.cells #[.int .i64 a,.int .i64 b] 66,.cells #[.int .i64 c,.int .i64 d] 66,.cells #[.int .i64 0,.int .i64 0] 66] w 0 _ rfl)
 have HC:=Lib.hid (show Blk (((w.alloc (.cells #[.int .i64 a,.int .i64 b] 66)).alloc (.cells #[.int .i64 c,.int .i64 d] 66)).alloc (.cells #[.int .i64 0,.int .i64 0] 66)) (w.heap.size+1) (.cells #[.int .i64 c,.int .i64 d] 66) from allocs_at [.cells #[.int .i64 a,.int .i64 b] 66,.cells #[.int .i64 c,.int .i64 d] 66,.cells #[.int .i64 0,.int .i64 0] 66] w 1 _ rfl)
 have HR:=Lib.hid (show Blk (((w.alloc (.cells #[.int .i64 a,.int .i64 b] 66)).alloc (.cells #[.int .i64 c,.int .i64 d] 66)).alloc (.cells #[.int .i64 0,.int .i64 0] 66)) (w.heap.size+2) (.cells #[.int .i64 0,.int .i64 0] 66) from allocs_at [.cells #[.int .i64 a,.int .i64 b] 66,.cells #[.int .i64 c,.int .i64 d] 66,.cells #[.int .i64 0,.int .i64 0] 66] w 2 _ rfl)
 have HE:=Lib.hid (hE.grow hba)
 have HBA:=Lib.hid hba
 clear hs hm hm0 hm1 e0 e1 hba hE hv hf h0 h1
 go_enter Tryz.func164,Tryz.ntmps164
 go_wp2_with (fail)
 generalize hW0:World.alloc (World.alloc (World.alloc w _) _) _ = W0 at *
 clear hW0
 have a0:=fun g:Grown W0=>heapN_cellj (HA.out.grow g.h) (k:=0) rfl
 have a1:=fun g:Grown W0=>heapN_cellj (HA.out.grow g.h) (k:=1) rfl
 have c0:=fun g:Grown W0=>heapN_cellj (HC.out.grow g.h) (k:=0) rfl
 have c1:=fun g:Grown W0=>heapN_cellj (HC.out.grow g.h) (k:=1) rfl
 have e0:=fun g:Grown W0=>heapN_cellj (HE.out.grow g.h) (k:=0) rfl
 have e1:=fun g:Grown W0=>heapN_cellj (HE.out.grow g.h) (k:=1) rfl
 refine region_pred_l (lk [(6,fun z_ _=>z_ = .agg #[.int .i64 a,.int .i64 b]),(7,fun z_ _=>z_ = .agg #[.int .i64 0,.int .i64 H]),(8,fun z_ _=>z_ = .agg #[.int .i64 c,.int .i64 d]),(9,fun z_ _=>z_ = .agg #[.int .i64 m0,.int .i64 m1]),(10,fun z_ _=>z_ = .agg #[.int .i64 s0,.int .i64 s1])]) 5 _ rfl (by kernel_rfl) (by kernel_rfl) (by kernel_rfl) (lk_steady _ ⟨steady_eq _,steady_eq _,steady_eq _,steady_eq _,steady_eq _,trivial⟩) ?_ ?_
 ·refine ⟨?_,?_,?_,?_,?_,?_,trivial⟩
  ·refine fun _=>ob_plain [3] rfl rfl fun _ g h=>?_
   have yy0:=seen_out (v:=.pointer (some ⟨w.heap.size,0,none⟩)) rfl rfl h.1
   exact tvS (by simp [go_sem,yy0,a0 g,a1 g]) rfl
  ·refine fun _=>ob_plain [2] rfl rfl fun _ g h=>?_
   have yy0:=seen_out (v:=.pointer (some ⟨eb,0,none⟩)) rfl rfl h.1
   exact tvS (by simp [go_sem,yy0,e0 g,e1 g]) rfl
  ·refine fun _=>ob_plain [4] rfl rfl fun _ g h=>?_
   have yy0:=seen_out (v:=.pointer (some ⟨w.heap.size+1,0,none⟩)) rfl rfl h.1
   exact tvS (by simp [go_sem,yy0,c0 g,c1 g]) rfl
  ·refine fun _=>ob_plain [7,8] rfl rfl fun _ g h=>?_
   obtain ⟨_,yy0,rfl⟩:=seen_in rfl h.1
   obtain ⟨_,yy1,rfl⟩:=seen_in rfl h.2.1
   refine tupon_enter (f:=166) (args:=#[.agg #[.int .i64 0,.int .i64 H],.agg #[.int .i64 c,.int .i64 d]]) (by simp [go_sem,yy0,yy1]) rfl ?_
   exact (KM.out g.w).mono fun e w' ⟨he,hB⟩=>⟨_,he,hB,rfl⟩
  ·refine fun _=>ob_plain [6,9] rfl rfl fun _ g h=>?_
   obtain ⟨_,yy0,rfl⟩:=seen_in rfl h.1
   obtain ⟨_,yy1,rfl⟩:=seen_in rfl h.2.1
   refine tupon_enter (f:=165) (args:=#[.agg #[.int .i64 a,.int .i64 b],.agg #[.int .i64 m0,.int .i64 m1]]) (by simp [go_sem,yy0,yy1]) rfl ?_
   exact (KA.out g.w).mono fun e w' ⟨he,hB⟩=>⟨_,he,hB,rfl⟩
  ·exact fun h=>absurd rfl h
 rintro w5 hB5 _ rfl _ rfl _ rfl _ rfl _ rfl
 simp only [Act.put,List.setIfInBounds_toArray,List.set_cons_succ,List.set_cons_zero]
 have hB6:=below_then HBA.out hB5
 have hr5:w5.heap[w.heap.size+2]? = some (.cells #[.int .i64 0,.int .i64 0] 66 (0,0)):=HR.out.grow hB5
 have q0:=heapN_cellj hr5 (k:=0) rfl
 have q1:=heapN_cellj hr5 (k:=1) rfl
 have z0:w5.frozen? ⟨w.heap.size+2,0,none⟩ = false:=by simp [World.frozen?,hr5]
 have z1:w5.frozen? ⟨w.heap.size+2,1,none⟩ = false:=by simp [World.frozen?,hr5]
 clear hr5
 refine ⟨_,by simp [go_sem,q0,q1,z0,z1]; rfl,?_⟩
 clear a0 a1 c0 c1 e0 e1
 go_wp2_with (fail)
 refine bodyPost_ret (v:=.agg #[.int .i64 s0,.int .i64 s1]) (by simp [results,Tryz.results164,go_sem,q0,q1]) rfl ⟨rfl,?_⟩
 exact (hB6.setCell (p:=⟨w.heap.size+2,0,none⟩) (by simp) _).setCell (p:=⟨w.heap.size+2,1,none⟩) (by simp) _
set_option maxHeartbeats 16000000 in
theorem comb_ok (vx vf:Value) (X F P:List (Int × Int)) (H:Int) (eb:Nat) (w:World) (hx:Vx w vx X) (hf:Vx w vf F) (hl:F.length = X.length) (hsm:X.length ≤ 6) (hvx:∀ p ∈ X,VI p.1 p.2) (hvf:∀ p ∈ F,VI p.1 p.2) (h0:0 ≤ H) (h1:H ≤ 1000000) (hE:Blk w eb (.cells #[.int .i64 0,.int .i64 H] 66)) (hP:imgL H X F = P) :
  Calls Tryz.prog 163 #[vx,vf,.func (.func 164) #[] #[.pointer (some ⟨eb,0,none⟩)]] w fun e w'=>∃ p c,e = .returned (.slice p X.length c)∧w'.ownsRow w.heap.size 66 2 (.slice p X.length c) X.length (cr encB P)∧Below w.heap.size w w':=by
 obtain ⟨i0,hi,hz0,hz1,hz2⟩:=info_parts info_ivB
 obtain ⟨px,cx,rfl⟩:=hx.cut
 obtain ⟨pf,cf,rfl⟩:=hf.cut
 rw [hl] at hf ⊢
 have hPl:P.length = X.length:=by rw [← hP]; exact imgL_len hl
 have HX:=Lib.hid hx
 have HF:=Lib.hid hf
 have HL:=Lib.hid hl
 have HPL:=Lib.hid hPl
 have HP:=Lib.hid hP
 have HE:=Lib.hid hE
 have HVX:=Lib.hid hvx
 have HVF:=Lib.hid hvf
 have KI:=Lib.hid (fun (a b c d s0 s1:Int) (w:World) (hv:VI a b) (hf:VI c d) hE hs=>im1_ok a b c d H s0 s1 eb w hv hf h0 h1 hE hs)
 clear hx hf hl hPl hP hE hvx hvf h0 h1
 obtain ⟨w6,hw6⟩:∃ w6,w.alloc (.cells (madeCells (Value.agg #[.int .i64 0,.int .i64 0]).cells (X.length * 2)) 66) = w6:=⟨_,rfl⟩
 have qmk:(Instr.makeSlice 23 (.int .i64 0) (.int .i64 (X.length:Int))).run Tryz.prog w = .ok (.slice (some ⟨w.heap.size,0,none⟩) 0 X.length) w6:=by
  have:=run_make (P:=Tryz.prog) w 23 66 i0 _ Tryz.underlying23 hi hz0 .i64 .i64 0 X.length (Int.le_refl _) (by omega) (by rw [hz2]; omega) (by omega)
  rw [hz1] at this
  simpa [hw6] using this
 have hr6:w6.ownsRow w.heap.size 66 2 (.slice (some ⟨w.heap.size,0,none⟩) 0 X.length) 0 []:=by
  rw [← hw6]
  exact World.ownsRow_made w _ X.length (Nat.le_refl _) (by unfold maxLen; omega) (size_madeCells _ _)
 have hb6:Below w.heap.size w w6:=by rw [← hw6]; exact (Below.refl _ w).alloc (Nat.le_refl _) _
 have HR6:=Lib.hid hr6
 have HB6:=Lib.hid hb6
 clear hw6 hr6 hb6
 go_enter Tryz.func163,Tryz.ntmps163
 go_wp2_with (fail)
 clear qmk
 go_loopw [7,20] (fun v i wr=>∃ k:Nat,i = .int .i64 k∧k ≤ X.length∧Hid (wr.ownsRow w.heap.size 66 2 v k (cr encB (P.take k)))∧Hid (Below w.heap.size w wr)) (fun v i _=>X.length - (intOf i).toNat)
 case atStart=>exact ⟨0,rfl,Nat.zero_le _,HR6,HB6⟩
 case round =>
  clear HR6 HB6
  obtain ⟨k,rfl,hk,HR,HB⟩:=hrel
  obtain ⟨pv,cv,rfl⟩:=own_slice HR.out
  have hsr:=HB.out.size
  by_cases hlt:k < X.length
  ·have i2:(k:Int) < X.length:=by omega
   obtain ⟨⟨a,b⟩,hxa⟩:∃ x,X[k]? = some x:=⟨_,List.getElem?_eq_getElem hlt⟩
   obtain ⟨⟨c,d⟩,hxc⟩:∃ x,F[k]? = some x:=⟨_,List.getElem?_eq_getElem (by rw [HL.out]; exact hlt)⟩
   obtain ⟨⟨s0,s1⟩,hs⟩:∃ s,imgP H (a,b) (c,d) = s:=⟨_,rfl⟩
   have hsn:=imgL_snoc (H:=H) hxa hxc
   rw [HP.out,hs] at hsn
   obtain ⟨bx,ox,hpe,hbx,rdx⟩:=vx_rd HX.out hxa
   obtain ⟨bf,of,hpf,hbf,rdf⟩:=vx_rd (n:=X.length) HF.out hxc
   subst hpe hpf
   have KI1:=Lib.hid (fun w hE=>KI.out a b c d s0 s1 w (HVX.out _ (List.mem_of_getElem? hxa)) (HVF.out _ (List.mem_of_getElem? hxc)) hE hs)
   have HS:=Lib.hid hsn
   obtain ⟨x0,x1⟩:=rdx ⟨wr,HB.out⟩
   dsimp only at x0 x1
   have RDF:=Lib.hid rdf
   clear hxa hxc hs hsn rdx rdf KI
   go_wp2_with (fail)
   have HB7:=Lib.hid (HB.out.alloc hsr (.cells #[.int .i64 a,.int .i64 b] 66))
   have HX7:=Lib.hid (show Blk (wr.alloc (.cells #[.int .i64 a,.int .i64 b] 66)) wr.heap.size (.cells #[.int .i64 a,.int .i64 b] 66) from World.alloc_heap_new wr _)
   have HR7:=Lib.hid (HR.out.alloc (.cells #[.int .i64 a,.int .i64 b] 66))
   generalize hW7:World.alloc wr _ = W7 at *
   clear hW7 x0 x1
   have x0:=fun g:Grown W7=>heapN_cellj (HX7.out.grow g.h) (k:=0) rfl
   have x1:=fun g:Grown W7=>heapN_cellj (HX7.out.grow g.h) (k:=1) rfl
   have f0:=fun g:Grown W7=>(RDF.out ⟨g.w,HB7.out.trans (g.h.mono HB7.out.size)⟩).1
   have f1:=fun g:Grown W7=>(RDF.out ⟨g.w,HB7.out.trans (g.h.mono HB7.out.size)⟩).2
   have HE7:=Lib.hid (HE.out.grow HB7.out)
   refine region_pred_n 9 (lk [(25,fun z_ _=>z_ = .slice pv k cv),(26,fun z_ _=>z_ = .func (.func 164) #[] #[.pointer (some ⟨eb,0,none⟩)]),(27,fun z_ _=>z_ = .agg #[.int .i64 a,.int .i64 b]),(28,fun z_ _=>z_ = .slice (some ⟨bf,of,none⟩) X.length cf),(29,fun z_ _=>z_ = .int .i64 (k:Int)),(30,fun z_ _=>z_ = .pointer (some ⟨bf,of+k * 2,none⟩)),(31,fun z_ _=>z_ = .agg #[.int .i64 c,.int .i64 d]),(32,fun z_ _=>z_ = .agg #[.int .i64 s0,.int .i64 s1]),(33,fun z_ w'=>∃ X_,z_ = .slice (some ⟨X_,0,none⟩) 1 1∧W7.heap.size ≤ X_∧w'.heap[X_]? = some (.cells #[.int .i64 s0,.int .i64 s1] 66 (0,0)))]) (by kernel_rfl) (by kernel_rfl) (lk_steady _ ⟨steady_eq _,steady_eq _,steady_eq _,steady_eq _,steady_eq _,steady_eq _,steady_eq _,steady_eq _,fun u w1 w2 hb ⟨X,e,h1,h2⟩=>⟨X,e,h1,(hb.block X (Array.getElem?_eq_some_iff.1 h2).1).trans h2⟩,trivial⟩) ?_ ?_
   ·refine ⟨?_,?_,?_,?_,?_,?_,?_,?_,?_,trivial⟩
    ·refine ob_plain [7] rfl rfl fun aa g h=>?_
     have yy0:=seen_out (v:=.slice pv k cv) rfl rfl h.1
     exact tvS (by simp [go_sem,yy0]) rfl
    ·refine ob_plain [2] rfl rfl fun aa g h=>?_
     have yy0:=seen_out (v:=.func (.func 164) #[] #[.pointer (some ⟨eb,0,none⟩)]) rfl rfl h.1
     exact tvS (by simp [go_sem,yy0]) rfl
    ·refine ob_plain [9] rfl rfl fun aa g h=>?_
     have yy0:=seen_out (v:=.pointer (some ⟨wr.heap.size,0,none⟩)) rfl rfl h.1
     exact tvS (by simp [go_sem,yy0,x0 g,x1 g]) rfl
    ·refine ob_plain [1] rfl rfl fun aa g h=>?_
     have yy0:=seen_out (v:=.slice (some ⟨bf,of,none⟩) X.length cf) rfl rfl h.1
     exact tvS (by simp [go_sem,yy0]) rfl
    ·refine ob_plain [8] rfl rfl fun aa g h=>?_
     have yy0:=seen_out (v:=.int .i64 (k:Int)) rfl rfl h.1
     exact tvS (by simp [go_sem,yy0]) rfl
    ·refine ob_plain [28,29] rfl rfl fun aa g h=>?_
     obtain ⟨_,yy0,rfl⟩:=seen_in rfl h.1
     obtain ⟨_,yy1,rfl⟩:=seen_in rfl h.2.1
     exact tvS (by simp [go_sem,yy0,yy1,i2]) rfl
    ·refine ob_plain [30] rfl rfl fun aa g h=>?_
     obtain ⟨_,yy0,rfl⟩:=seen_in rfl h.1
     exact tvS (by simp [go_sem,yy0,f0 g,f1 g]) rfl
    ·refine ob_plain [26,27,31] rfl rfl fun aa g h=>?_
     obtain ⟨_,yy0,rfl⟩:=seen_in rfl h.1
     obtain ⟨_,yy1,rfl⟩:=seen_in rfl h.2.1
     obtain ⟨_,yy2,rfl⟩:=seen_in rfl h.2.2.1
     refine tupon_enter (f:=164) (args:=#[.agg #[.int .i64 a,.int .i64 b],.agg #[.int .i64 c,.int .i64 d],.pointer (some ⟨eb,0,none⟩)]) (by simp [go_sem,yy0,yy1,yy2]) rfl ?_
     exact (KI1.out g.w (HE7.out.grow g.h)).mono fun e w' ⟨he,hB⟩=>⟨_,he,hB,rfl⟩
    ·refine ob_plain [32] rfl rfl fun aa g h=>?_
     obtain ⟨_,yy0,rfl⟩:=seen_in rfl h.1
     exact tupon_value (v:=.slice (some ⟨g.w.heap.size,0,none⟩) 1 1) (w1:=g.w.alloc (.cells #[.int .i64 s0,.int .i64 s1] 66)) (by simp [go_sem,yy0]) ((Below.refl _ _).alloc (Nat.le_refl _) _) ⟨_,rfl,g.h.size,World.alloc_heap_new _ _⟩
   rintro w9 hB9 _ rfl _ rfl _ rfl _ rfl _ rfl _ rfl _ rfl _ rfl _ ⟨X33,rfl,hX33,hI33⟩
   simp only [Act.put,List.setIfInBounds_toArray,List.set_cons_succ,List.set_cons_zero,finP,List.drop_succ_cons,List.drop_zero,List.take_zero,List.filterMap_nil]
   have HR9:=Lib.hid (own_keptN HR7.out hB9)
   have HB9:=Lib.hid (HB7.out.trans (hB9.mono HB7.out.size))
   have HNB:=Lib.hid (two_at (s0,s1) hI33)
   clear hB9 hI33 hX33 f0 f1 x0 x1 HR HB HR7 HB7
   go_wp2_with (at_builtin; refine wpList_append_own _ rfl (.tmp 25) (.tmp 33) 23 rfl w.heap.size 66 i0 (.agg #[.int .i64 0,.int .i64 0]) 2 16 Tryz.underlying23 hi hz0 hz1 hz2 rfl (by decide) (.slice pv k cv) k _ rfl HR9.out ⟨X33,0,none⟩ 1 1 (encB (s0,s1)) rfl rfl HNB.out (one_b _) (by unfold maxLen; omega) (by omega) HB9.out.size ?_)
   intro v' w8 hown' hgrow _
   have hB8:=Below.grown HB9.out hgrow HB9.out.size (fun i hi=>(HR9.out.lt i hi).1)
   have HR8:=Lib.hid hown'
   have HB8:=Lib.hid hB8
   clear hown' hgrow hB8 HR9 HB9
   go_wp2_with (fail)
   go_roundw
   case rel=>exact ⟨k+1,by go_num,by omega,Lib.hid (by rw [HS.out,cr_snoc]; exact HR8.out),HB8⟩
   case measure=>simp [intOf]; omega
  ·obtain rfl:k = X.length:=by omega
   have i2:¬ (X.length:Int) < X.length:=by omega
   go_wp2_with (fail)
   go_ret
   refine ⟨_,_,rfl,?_,HB.out⟩
   have h:=HR.out
   rw [← HPL.out,List.take_length,HPL.out] at h
   exact h
end Go.Proofs.YtdfdpghdjlgghaaGreat
namespace Go.Proofs.YtdfdpghdjlgghaaGreat
open Go.ChangeShapes Go.WideShapes Go.ChangeAt Go.RowKit
set_option linter.unusedVariables false
set_option linter.unusedSimpArgs false
set_option maxRecDepth 100000
attribute [local irreducible] Calls
theorem vi_zero:VI ((0:Int),(0:Int)).1 ((0:Int),(0:Int)).2:=.inr ⟨by decide,by decide,Int.le_refl _⟩
theorem out_vi {V:List (Int × Int)} {O:List Int} (h:∀ p ∈ V,VI p.1 p.2):∀ p ∈ outV V O,VI p.1 p.2:=by
 intro p hp
 unfold outV at hp
 rw [List.mem_map] at hp
 obtain ⟨y,_,rfl⟩:=hp
 rw [List.getD_eq_getElem?_getD]
 cases e:V[y.toNat]? with
 | none=>exact vi_zero
 | some q=>exact h q (List.mem_of_getElem? e)
theorem out_len (V:List (Int × Int)) (O:List Int):(outV V O).length = O.length:=List.length_map _
theorem time_vi {T H:Int} (h1:-1048576 ≤ T) (h2:T ≤ 1048576) (h3:0 ≤ H) (h4:H ≤ 1000000):VI T (T+H):=.inr ⟨by unfold Num; omega,by unfold Num; omega,by omega⟩
theorem imgT_len {L:List Is} {O:List Int} {T H N:Int} {X B:List (Int × Int)} (htv:tvB N L O = true) (hX:(X.length:Int) = N):(imgT L O T H X B).length = X.length:=by
 obtain ⟨_,_,_,hon,_,_⟩:=tv_cases htv
 exact imgL_len (by rw [out_len]; omega)
theorem imgT_vi {L:List Is} {O:List Int} {T H N:Int} {X B:List (Int × Int)} (htv:tvB N L O = true) (hX:∀ p ∈ X,VI p.1 p.2) (hB:∀ p ∈ B,VI p.1 p.2) (h1:-1048576 ≤ T) (h2:T ≤ 1048576) (h3:0 ≤ H) (h4:H ≤ 1000000):∀ p ∈ imgT L O T H X B,VI p.1 p.2:=by
 obtain ⟨_,_,_,_,hvl,_⟩:=tv_cases htv
 exact imgL_vi hX (out_vi (evL_vi hB (time_vi h1 h2 h3 h4) hvl)) h3 h4
set_option maxHeartbeats 16000000 in
theorem image_ok (N T H:Int) (vl vo vx vb:Value) (L:List Is) (O:List Int) (X B P:List (Int × Int)) (w:World) (hl:Ix w vl L) (ho:Px w vo O) (hx:Vx w vx X) (hb:Vx w vb B) (htv:tvB N L O = true) (hN1:NmL L) (hXN:(X.length:Int) = N) (hBN:(B.length:Int) = N) (hvx:∀ p ∈ X,VI p.1 p.2) (hvb:∀ p ∈ B,VI p.1 p.2) (ht1:-1048576 ≤ T) (ht2:T ≤ 1048576) (h0:0 ≤ H) (h1:H ≤ 1000000) (hP:imgT L O T H X B = P) :
  Calls Tryz.prog 136 #[.agg #[.int .i64 N,vl,vo],vx,vb,.agg #[.int .i64 T,.int .i64 H]] w fun e w'=>∃ p c,e = .returned (.slice p X.length c)∧w'.ownsRow w.heap.size 66 2 (.slice p X.length c) X.length (cr encB P)∧Below w.heap.size w w':=by
 obtain ⟨hn1,hn6,h400,hon,hvl,hout⟩:=tv_cases htv
 obtain ⟨pb,cb,rfl⟩:=hb.cut
 obtain ⟨F,hF⟩:∃ F,outV (evL B (T,T+H) L) O = F:=⟨_,rfl⟩
 have hFl:F.length = X.length:=by rw [← hF,out_len]; omega
 have hvf:∀ p ∈ F,VI p.1 p.2:=by rw [← hF]; exact out_vi (evL_vi hvb (time_vi ht1 ht2 h0 h1) hvl)
 have hPi:imgL H X F = P:=by rw [← hP,← hF]; rfl
 have KE:=Lib.hid (fun w a b c=>eval_at N vl vo (.slice pb B.length cb) T (T+H) L O B F w a b c hBN htv hN1 hvb (time_vi ht1 ht2 h0 h1) hF)
 have KC:=Lib.hid (fun (vf:Value) (eb:Nat) (w:World) hx hf hE=>comb_ok vx vf X F P H eb w hx hf hFl (by omega) hvx hvf h0 h1 hE hPi)
 have k1:∀ w,Calls Tryz.prog 83 #[.int .i64 0,.int .i64 H] w fun e w'=>e = .returned (.agg #[.int .i64 0,.int .i64 H])∧Below w.heap.size w w':=fun w=>by
  have h:=iv_new 0 H w h0
  have hc:Num 0∧Num H:=⟨by decide,by unfold Num; omega⟩
  rwa [show mkLo 0 H = 0 from if_pos hc,show mkHi 0 H = H from if_pos hc] at h
 have k2:∀ w,Calls Tryz.prog 83 #[.int .i64 T,.int .i64 (T+H)] w fun e w'=>e = .returned (.agg #[.int .i64 T,.int .i64 (T+H)])∧Below w.heap.size w w':=fun w=>by
  have h:=iv_new T (T+H) w (by omega)
  have hc:Num T∧Num (T+H):=⟨by unfold Num; omega,by unfold Num; omega⟩
  rwa [show mkLo T (T+H) = T from if_pos hc,show mkHi T (T+H) = T+H from if_pos hc] at h
 have K1:=Lib.hid k1
 have K2:=Lib.hid k2
 have U1:IntKind.i64.wrap (T+H) = T+H:=wrapN _ (by omega) (by omega)
 have hba:Below w.heap.size w ((w.alloc (.cells #[.int .i64 N,vl,vo] 35)).alloc (.cells #[.int .i64 T,.int .i64 H] 116)):=allocs_below [.cells #[.int .i64 N,vl,vo] 35,.cells #[.int .i64 T,.int .i64 H] 116] w
 have HC:=Lib.hid (show Blk ((w.alloc (.cells #[.int .i64 N,vl,vo] 35)).alloc (.cells #[.int .i64 T,.int .i64 H] 116)) w.heap.size (.cells #[.int .i64 N,vl,vo] 35) from allocs_at [.cells #[.int .i64 N,vl,vo] 35,.cells #[.int .i64 T,.int .i64 H] 116] w 0 _ rfl)
 have HS:=Lib.hid (show Blk ((w.alloc (.cells #[.int .i64 N,vl,vo] 35)).alloc (.cells #[.int .i64 T,.int .i64 H] 116)) (w.heap.size+1) (.cells #[.int .i64 T,.int .i64 H] 116) from allocs_at [.cells #[.int .i64 N,vl,vo] 35,.cells #[.int .i64 T,.int .i64 H] 116] w 1 _ rfl)
 have HLL:=Lib.hid (hl.grow hba)
 have HO:=Lib.hid (ho.grow hba)
 have HX:=Lib.hid (hx.grow hba)
 have HB:=Lib.hid (hb.grow hba)
 have HW:=Lib.hid hba
 have s1:=heapN_cellj HS.out (k:=1) rfl
 clear hl ho hx hb htv hXN hBN hvx hvb ht1 ht2 h0 h1 hP hn1 hn6 h400 hon hvl hout hF hFl hvf hPi k1 k2 hba
 go_enter Tryz.func136,Tryz.ntmps136
 go_wp2_with (fail)
 refine (K1.out _).mono ?_
 rintro e w3 ⟨rfl,hB3⟩
 have hB4:=hB3.alloc hB3.size (.cells #[.int .i64 0,.int .i64 H] 66)
 have HC:=Lib.hid (HC.out.grow hB4)
 have HS:=Lib.hid (HS.out.grow hB4)
 have HLL:=Lib.hid (HLL.out.grow hB4)
 have HO:=Lib.hid (HO.out.grow hB4)
 have HX:=Lib.hid (HX.out.grow hB4)
 have HB:=Lib.hid (HB.out.grow hB4)
 have HW:=Lib.hid (below_then HW.out hB4)
 have HE:=Lib.hid (show Blk (w3.alloc (.cells #[.int .i64 0,.int .i64 H] 66)) w3.heap.size (.cells #[.int .i64 0,.int .i64 H] 66) from World.alloc_heap_new w3 _)
 clear hB3 hB4 s1
 go_wp2_with (fail)
 generalize hW4:World.alloc w3 _ = W4 at *
 clear hW4
 have c0:=fun g:Grown W4=>heapN_cellj (HC.out.grow g.h) (k:=0) rfl
 have c1:=fun g:Grown W4=>heapN_cellj (HC.out.grow g.h) (k:=1) rfl
 have c2:=fun g:Grown W4=>heapN_cellj (HC.out.grow g.h) (k:=2) rfl
 have s0:=fun g:Grown W4=>heapN_cellj (HS.out.grow g.h) (k:=0) rfl
 have s1:=fun g:Grown W4=>heapN_cellj (HS.out.grow g.h) (k:=1) rfl
 refine region_pred (lk [(14,fun z_ _=>z_ = .agg #[.int .i64 N,vl,vo]),(15,fun z_ _=>z_ = .slice pb B.length cb),(16,fun z_ _=>z_ = .pointer (some ⟨w.heap.size+1,0,none⟩)),(17,fun z_ _=>z_ = .int .i64 T),(18,fun z_ _=>z_ = .pointer (some ⟨w.heap.size+1,0,none⟩)),(19,fun z_ _=>z_ = .int .i64 T),(20,fun z_ _=>z_ = .pointer (some ⟨w.heap.size+1,1,none⟩)),(21,fun z_ _=>z_ = .int .i64 H),(22,fun z_ _=>z_ = .int .i64 (T+H)),(23,fun z_ _=>z_ = .agg #[.int .i64 T,.int .i64 (T+H)]),(24,fun z_ w'=>Vx w' z_ F),(10,fun z_ w'=>Vx w' z_ F)]) (by kernel_rfl) (by kernel_rfl) (lk_steady _ ⟨steady_eq _,steady_eq _,steady_eq _,steady_eq _,steady_eq _,steady_eq _,steady_eq _,steady_eq _,steady_eq _,steady_eq _,fun u w1 w2 hb h=>h.grow hb,fun u w1 w2 hb h=>h.grow hb,trivial⟩) ?_ ?_
 ·refine ⟨?_,?_,?_,?_,?_,?_,?_,?_,?_,?_,?_,?_,trivial⟩
  ·refine ob_plain [4] rfl rfl fun aa g h=>?_
   have yy0:=seen_out (v:=.pointer (some ⟨w.heap.size,0,none⟩)) rfl rfl h.1
   exact tvS (by simp [go_sem,yy0,c0 g,c1 g,c2 g]) rfl
  ·refine ob_plain [2] rfl rfl fun aa g h=>?_
   have yy0:=seen_out (v:=.slice pb B.length cb) rfl rfl h.1
   exact tvS (by simp [go_sem,yy0]) rfl
  ·refine ob_plain [7] rfl rfl fun aa g h=>?_
   have yy0:=seen_out (v:=.pointer (some ⟨w.heap.size+1,0,none⟩)) rfl rfl h.1
   exact tvS (by simp [go_sem,yy0]) rfl
  ·refine ob_plain [16] rfl rfl fun aa g h=>?_
   obtain ⟨_,yy0,rfl⟩:=seen_in rfl h.1
   exact tvS (by simp [go_sem,yy0,s0 g]) rfl
  ·refine ob_plain [7] rfl rfl fun aa g h=>?_
   have yy0:=seen_out (v:=.pointer (some ⟨w.heap.size+1,0,none⟩)) rfl rfl h.1
   exact tvS (by simp [go_sem,yy0]) rfl
  ·refine ob_plain [18] rfl rfl fun aa g h=>?_
   obtain ⟨_,yy0,rfl⟩:=seen_in rfl h.1
   exact tvS (by simp [go_sem,yy0,s0 g]) rfl
  ·refine ob_plain [7] rfl rfl fun aa g h=>?_
   have yy0:=seen_out (v:=.pointer (some ⟨w.heap.size+1,0,none⟩)) rfl rfl h.1
   exact tvS (by simp [go_sem,yy0]) rfl
  ·refine ob_plain [20] rfl rfl fun aa g h=>?_
   obtain ⟨_,yy0,rfl⟩:=seen_in rfl h.1
   exact tvS (by simp [go_sem,yy0,s1 g]) rfl
  ·refine ob_plain [19,21] rfl rfl fun aa g h=>?_
   obtain ⟨_,yy0,rfl⟩:=seen_in rfl h.1
   obtain ⟨_,yy1,rfl⟩:=seen_in rfl h.2.1
   exact tvS (by simp [go_sem,yy0,yy1,U1]) rfl
  ·refine ob_plain [17,22] rfl rfl fun aa g h=>?_
   obtain ⟨_,yy0,rfl⟩:=seen_in rfl h.1
   obtain ⟨_,yy1,rfl⟩:=seen_in rfl h.2.1
   refine tupon_enter (f:=83) (args:=#[.int .i64 T,.int .i64 (T+H)]) (by simp [go_sem,yy0,yy1]) rfl ?_
   exact (K2.out g.w).mono fun e w' ⟨he,hB⟩=>⟨_,he,hB,rfl⟩
  ·refine ob_plain [14,15,23] rfl rfl fun aa g h=>?_
   obtain ⟨_,yy0,rfl⟩:=seen_in rfl h.1
   obtain ⟨_,yy1,rfl⟩:=seen_in rfl h.2.1
   obtain ⟨_,yy2,rfl⟩:=seen_in rfl h.2.2.1
   refine tupon_enter (f:=162) (args:=#[.agg #[.int .i64 N,vl,vo],.slice pb B.length cb,.agg #[.int .i64 T,.int .i64 (T+H)]]) (by simp [go_sem,yy0,yy1,yy2]) rfl ?_
   exact (KE.out g.w (HLL.out.grow g.h) (HO.out.grow g.h) (HB.out.grow g.h)).mono fun e w' ⟨u9,he,hv,hB⟩=>⟨_,he,hB,hv⟩
  ·refine ob_plain [24] rfl rfl fun aa g h=>?_
   obtain ⟨z24,yy0,hv24⟩:=seen_in rfl h.1
   exact tupon_value (v:=z24) (by simp [go_sem,yy0]) (Below.refl _ _) hv24
 rintro w5 hB5 _ rfl _ rfl _ rfl _ rfl _ rfl _ rfl _ rfl _ rfl _ rfl _ rfl z24 hv24 z10 hv10
 simp only [Act.put,List.setIfInBounds_toArray,List.set_cons_succ,List.set_cons_zero,List.filterMap_nil,finP]
 have HF:=Lib.hid hv10
 have HX:=Lib.hid (HX.out.grow hB5)
 have HE:=Lib.hid (HE.out.grow hB5)
 have HW:=Lib.hid (below_then HW.out hB5)
 clear hB5 hv10 hv24 c0 c1 c2 s0 s1
 go_wp2_with (fail)
 refine (KC.out _ _ _ HX.out HF.out HE.out).mono ?_
 rintro e w6 ⟨p,c,rfl,hown,hB6⟩
 have HOW:=Lib.hid (own_base hown (HW.out.size))
 have HW:=Lib.hid (below_then HW.out hB6)
 clear hown hB6
 go_wp2_with (fail)
 go_ret
 exact ⟨_,_,rfl,HOW.out,HW.out⟩
theorem anyE_no {l:List (Int × Int)} {k:Nat} {x:Int × Int} (h:(l.take k).any entB = false) (hx:l[k]? = some x) (hb:entB x = false):(l.take (k+1)).any entB = false:=by
 rw [List.take_add_one,hx,List.any_append,h]
 simp [hb]
theorem anyE_yes {l:List (Int × Int)} {k:Nat} {x:Int × Int} (hx:l[k]? = some x) (hb:entB x = true):l.any entB = true :=
 List.any_eq_true.2 ⟨x,List.mem_of_getElem? hx,hb⟩
set_option maxHeartbeats 4000000 in
theorem ixent_ok (v:Value) (l:List (Int × Int)) (w:World) (hv:Vx w v l) :
  Calls Tryz.prog 113 #[v,.func (.func 138) #[] #[]] w fun e w'=>∃ r:Int,e = .returned (.int .i64 r)∧decide (0 ≤ r) = l.any entB∧Below w.heap.size w w':=by
 have hl:=hv.1
 unfold maxLen at hl
 obtain ⟨p,c,rfl⟩:=hv.cut
 have HV:=Lib.hid hv
 clear hv
 go_enter Tryz.func113,Tryz.ntmps113
 go_wp2_with (fail)
 go_loopw [8] (fun i wr=>∃ k:Nat,i = .int .i64 k∧k ≤ l.length∧Hid ((l.take k).any entB = false)∧∃ g:Grown w,wr = g.w) (fun i _=>l.length - (intOf i).toNat)
 case atStart=>exact ⟨0,rfl,Nat.zero_le _,Lib.hid rfl,⟨w,Below.refl _ _⟩,rfl⟩
 case round =>
  obtain ⟨k,rfl,hk,HN,g0,rfl⟩:=hrel
  by_cases hlt:k < l.length
  ·have i1:(k:Int) < l.length:=by omega
   obtain ⟨x,y,hx⟩:∃ x y,l[k]? = some (x,y):=⟨l[k].1,l[k].2,List.getElem?_eq_getElem hlt⟩
   obtain ⟨b,o,hp,hb,rd⟩:=vx_rd HV.out hx
   subst hp
   have fA:=(rd g0).1
   have fB:=(rd g0).2
   have HX:=Lib.hid hx
   clear rd hx
   cases hbo:entB (x,y) with
   | true =>
    have HC:=Lib.hid (iv_isent x y true g0.w hbo)
    have HA:Hid (l.any entB = true):=Lib.hid (anyE_yes HX.out hbo)
    clear hbo
    go_wp2_with (fail)
    refine HC.out.mono ?_
    rintro e w5 ⟨rfl,hB5⟩
    go_wp2_with (fail)
    go_ret
    exact ⟨_,rfl,by rw [HA.out]; exact decide_eq_true (by omega),below_then g0.h hB5⟩
   | false =>
    have HC:=Lib.hid (iv_isent x y false g0.w hbo)
    have HA:Hid ((l.take (k+1)).any entB = false):=Lib.hid (anyE_no HN.out HX.out hbo)
    clear hbo
    go_wp2_with (fail)
    refine HC.out.mono ?_
    rintro e w5 ⟨rfl,hB5⟩
    go_wp2_with (fail)
    go_roundw
    case rel=>exact ⟨k+1,by go_num,by omega,HA,⟨w5,below_then g0.h hB5⟩,rfl⟩
    case measure=>simp [intOf]; omega
  ·obtain rfl:k = l.length:=by omega
   have hn:=HN.out
   rw [List.take_of_length_le (Nat.le_refl _)] at hn
   have HA:=Lib.hid hn
   clear hn
   go_wp2_with (fail)
   go_ret
   exact ⟨_,rfl,by rw [HA.out]; rfl,g0.h⟩
theorem cnent_ok (v:Value) (l:List (Int × Int)) (w:World) (hv:Vx w v l) :
  Calls Tryz.prog 87 #[v,.func (.func 138) #[] #[]] w fun e w'=>e = .returned (.bool (l.any entB))∧Below w.heap.size w w':=by
 have HC:=Lib.hid (ixent_ok v l w hv)
 clear hv
 go_enter Tryz.func87,Tryz.ntmps87
 go_wp2_with (fail)
 refine HC.out.mono ?_
 rintro e w5 ⟨r,rfl,hr,hB⟩
 have HR:=Lib.hid hr
 have HB:=Lib.hid hB
 clear hr hB
 go_wp2_with (fail)
 go_ret
 exact ⟨by rw [← HR.out]; rfl,HB.out⟩
theorem boxv_at {l:List (Int × Int)} (h:∀ p ∈ l,VI p.1 p.2) (h1:1 ≤ l.length) (h6:l.length ≤ 6):(l.all (fun p=>decide (VI p.1 p.2)) && (decide (1 ≤ l.length) && decide (l.length ≤ 6))) = true:=by
 rw [Bool.and_eq_true,Bool.and_eq_true,List.all_eq_true]
 exact ⟨fun p hp=>decide_eq_true (h p hp),decide_eq_true h1,decide_eq_true h6⟩
set_option maxHeartbeats 4000000 in
theorem bnd_ok (v:Value) (l:List (Int × Int)) (r:Bool) (w:World) (hv:Vx w v l) (h:∀ p ∈ l,VI p.1 p.2) (h1:1 ≤ l.length) (h6:l.length ≤ 6) (hr:bndB l = r) :
  Calls Tryz.prog 116 #[v] w fun e w'=>e = .returned (.bool r)∧Below w.heap.size w w':=by
 have KV:=Lib.hid (fun w hv=>box_valid v l w hv)
 rw [boxv_at h h1 h6] at KV
 obtain ⟨n,hn⟩:∃ n,l.any entB = n:=⟨_,rfl⟩
 have hr2:(!n) = r:=by rw [← hr,← hn]; rfl
 have KC:=Lib.hid (fun w hv=>cnent_ok v l w hv)
 rw [hn] at KC
 obtain ⟨p,c,rfl⟩:=hv.cut
 have HV:=Lib.hid hv
 have HR:=Lib.hid hr2
 clear hv h h1 h6 hr hn hr2
 go_enter Tryz.func116,Tryz.ntmps116
 go_wp2_with (fail)
 refine (KV.out _ (vx_bx HV.out)).mono ?_
 rintro e w5 ⟨rfl,hB5⟩
 have HV5:=Lib.hid (HV.out.grow hB5)
 have HB5:=Lib.hid hB5
 clear hB5
 go_wp2_with (fail)
 refine (KC.out _ HV5.out).mono ?_
 rintro e w6 ⟨rfl,hB6⟩
 have HB6:=Lib.hid (below_then HB5.out hB6)
 clear hB6
 go_wp2_with (fail)
 go_ret
 exact ⟨by rw [← HR.out]; rfl,HB6.out⟩
set_option maxHeartbeats 16000000 in
theorem inf_ok (vx:Value) (X P:List (Int × Int)) (w:World) (hx:Vx w vx X) (hsm:X.length ≤ 6) (hvx:∀ p ∈ X,VI p.1 p.2) (hP:infL X = P) :
  Calls Tryz.prog 137 #[vx] w fun e w'=>∃ p c,e = .returned (.slice p X.length c)∧w'.ownsRow w.heap.size 66 2 (.slice p X.length c) X.length (cr encB P)∧Below w.heap.size w w':=by
 obtain ⟨i0,hi,hz0,hz1,hz2⟩:=info_parts info_ivB
 obtain ⟨px,cx,rfl⟩:=hx.cut
 have hPl:P.length = X.length:=by rw [← hP]; exact inf_len X
 have HX:=Lib.hid hx
 have HPL:=Lib.hid hPl
 have HP:=Lib.hid hP
 have HVX:=Lib.hid hvx
 clear hx hPl hP hvx
 obtain ⟨w6,hw6⟩:∃ w6,w.alloc (.cells (madeCells (Value.agg #[.int .i64 0,.int .i64 0]).cells (X.length * 2)) 66) = w6:=⟨_,rfl⟩
 have qmk:(Instr.makeSlice 23 (.int .i64 0) (.int .i64 (X.length:Int))).run Tryz.prog w = .ok (.slice (some ⟨w.heap.size,0,none⟩) 0 X.length) w6:=by
  have:=run_make (P:=Tryz.prog) w 23 66 i0 _ Tryz.underlying23 hi hz0 .i64 .i64 0 X.length (Int.le_refl _) (by omega) (by rw [hz2]; omega) (by omega)
  rw [hz1] at this
  simpa [hw6] using this
 have hr6:w6.ownsRow w.heap.size 66 2 (.slice (some ⟨w.heap.size,0,none⟩) 0 X.length) 0 []:=by
  rw [← hw6]
  exact World.ownsRow_made w _ X.length (Nat.le_refl _) (by unfold maxLen; omega) (size_madeCells _ _)
 have hb6:Below w.heap.size w w6:=by rw [← hw6]; exact (Below.refl _ w).alloc (Nat.le_refl _) _
 have HR6:=Lib.hid hr6
 have HB6:=Lib.hid hb6
 clear hw6 hr6 hb6
 go_enter Tryz.func137,Tryz.ntmps137
 go_wp2_with (fail)
 clear qmk
 go_loopw [3,12] (fun v i wr=>∃ k:Nat,i = .int .i64 k∧k ≤ X.length∧Hid (wr.ownsRow w.heap.size 66 2 v k (cr encB (P.take k)))∧Hid (Below w.heap.size w wr)) (fun v i _=>X.length - (intOf i).toNat)
 case atStart=>exact ⟨0,rfl,Nat.zero_le _,HR6,HB6⟩
 case round =>
  clear HR6 HB6
  obtain ⟨k,rfl,hk,HR,HB⟩:=hrel
  obtain ⟨pv,cv,rfl⟩:=own_slice HR.out
  have hsr:=HB.out.size
  by_cases hlt:k < X.length
  ·have i2:(k:Int) < X.length:=by omega
   obtain ⟨⟨a,b⟩,hxa⟩:∃ x,X[k]? = some x:=⟨_,List.getElem?_eq_getElem hlt⟩
   have hvi:=HVX.out _ (List.mem_of_getElem? hxa)
   have hbd:=hvi.bd
   dsimp only at hbd
   obtain ⟨⟨s0,s1⟩,hs⟩:∃ s,infP (a,b) = s:=⟨_,rfl⟩
   have hsn:P.take (k+1) = P.take k ++ [(s0,s1)]:=by
    rw [List.take_add_one,← HP.out]
    unfold infL
    rw [List.getElem?_map,hxa]
    simp only [Option.map_some,hs,Option.toList_some]
   unfold infP at hs
   dsimp only at hs
   obtain ⟨bx,ox,hpe,hbx,rdx⟩:=vx_rd HX.out hxa
   subst hpe
   have KW:=Lib.hid (fun w=>iv_width a b w (by omega))
   obtain ⟨y,hy⟩:∃ y,(b - a) / 16+1 = y:=⟨_,rfl⟩
   rw [hy] at hs
   have hn:=fun w=>iv_new (a - y) (b+y) w (by omega)
   obtain ⟨e0,e1⟩:=Prod.mk.inj hs
   rw [e0,e1] at hn
   have KN:=Lib.hid hn
   have HS:=Lib.hid hsn
   have t1:(b - a).tdiv 16 = (b - a) / 16:=Int.tdiv_eq_ediv_of_nonneg (by omega)
   have U1:IntKind.i64.wrap ((b - a) / 16) = (b - a) / 16:=wrapN _ (by omega) (by omega)
   have U2:IntKind.i64.wrap ((b - a) / 16+1) = y:=by rw [wrapN _ (by omega) (by omega),hy]
   have U3:IntKind.i64.wrap (a - y) = a - y:=wrapN _ (by omega) (by omega)
   have U4:IntKind.i64.wrap (b+y) = b+y:=wrapN _ (by omega) (by omega)
   have U5:IntKind.i64.wrap (b - a) = b - a:=wrapN _ (by omega) (by omega)
   have h16:0 ≤ b - a:=by omega
   obtain ⟨x0,x1⟩:=rdx ⟨wr,HB.out⟩
   dsimp only at x0 x1
   have HB7:=Lib.hid (HB.out.alloc hsr (.cells #[.int .i64 a,.int .i64 b] 66))
   have HX7:=Lib.hid (show Blk (wr.alloc (.cells #[.int .i64 a,.int .i64 b] 66)) wr.heap.size (.cells #[.int .i64 a,.int .i64 b] 66) from World.alloc_heap_new wr _)
   have HR7:=Lib.hid (HR.out.alloc (.cells #[.int .i64 a,.int .i64 b] 66))
   clear hxa hs hsn rdx hy hn e0 e1 hvi hbd
   go_wp2_with (fail)
   generalize hW7:World.alloc wr _ = W7 at *
   clear hW7 x0 x1
   have x0:=heapN_cellj HX7.out (k:=0) rfl
   have x1:=heapN_cellj HX7.out (k:=1) rfl
   first | done | skip
   refine (KW.out _).mono ?_
   rintro e w8 ⟨rfl,hB8⟩
   have HR8:=Lib.hid (own_keptN HR7.out hB8)
   have HB8:=Lib.hid (HB7.out.trans (hB8.mono HB7.out.size))
   have HX8:=Lib.hid (HX7.out.grow hB8)
   clear hB8 HR7 HB7 HX7 x0 x1 HR HB
   have x0:=heapN_cellj HX8.out (k:=0) rfl
   have x1:=heapN_cellj HX8.out (k:=1) rfl
   go_wp2_with (fail)
   refine (KN.out _).mono ?_
   rintro e w9 ⟨rfl,hB9⟩
   have HR9:=Lib.hid (own_keptN HR8.out hB9)
   have HB9:=Lib.hid (HB8.out.trans (hB9.mono HB8.out.size))
   clear hB9 HR8 HB8 HX8 x0 x1
   go_wp2_with (at_builtin; refine wpList_append_own _ rfl (.tmp 20) (.tmp 30) 23 rfl w.heap.size 66 i0 (.agg #[.int .i64 0,.int .i64 0]) 2 16 Tryz.underlying23 hi hz0 hz1 hz2 rfl (by decide) (.slice pv k cv) k _ rfl (HR9.out.alloc _) ⟨w9.heap.size,0,none⟩ 1 1 (encB (s0,s1)) rfl rfl (new_b _ (s0,s1)) (one_b _) (by unfold maxLen; omega) (by omega) (by rw [alloc_sz]; have:=HB9.out.size; omega) ?_)
   intro v' w8 hown' hgrow _
   have hB8:=Below.grown (HB9.out.alloc HB9.out.size _) hgrow (by rw [alloc_sz]; have:=HB9.out.size; omega) (fun i hi=>(HR9.out.lt i hi).1)
   have HR8:=Lib.hid hown'
   have HB8:=Lib.hid hB8
   clear hown' hgrow hB8 HR9 HB9
   go_wp2_with (fail)
   go_roundw
   case rel=>exact ⟨k+1,by go_num,by omega,Lib.hid (by rw [HS.out,cr_snoc]; exact HR8.out),HB8⟩
   case measure=>simp [intOf]; omega
  ·obtain rfl:k = X.length:=by omega
   have i2:¬ (X.length:Int) < X.length:=by omega
   go_wp2_with (fail)
   go_ret
   refine ⟨_,_,rfl,?_,HB.out⟩
   have h:=HR.out
   rw [← HPL.out,List.take_length,HPL.out] at h
   exact h
end Go.Proofs.YtdfdpghdjlgghaaGreat
