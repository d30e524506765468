/-
 Gg Sn PredA
-/
import Derived.Test.YtdfdpghdjlgghaaGreatKdd
import Derived.Test.YtdfdpghdjlgghaaGreatKdm
import Derived.Test.YtdfdpghdjlgghaaGreatKds
import Derived.Test.YtdfdpghdjlgghaaGreatKdx
import Derived.Laws.AppendOwn
namespace Go.Proofs.YtdfdpghdjlgghaaGreat
open Go.ChangeShapes Go.WideShapes Go.ChangeAt Go.RowKit
set_option linter.unusedVariables false
set_option linter.unusedSimpArgs false
set_option maxRecDepth 100000
attribute [local irreducible] Calls
structure Im where
 id:Int
 lo:Int
 hi:Int
 bp:Option Addr
 bc:Nat
 B:List (Int × Int)
def encIm (x:Im):List Value:=[.int .i64 x.id,.int .i64 x.lo,.int .i64 x.hi,.slice x.bp x.B.length x.bc]
theorem encIm_len (x:Im):(encIm x).length = 4:=rfl
structure OwM14 (B:Nat) (W:World) (v:Value) (l:List Im):Prop where
 row:W.ownsRow B 93 4 v l.length (cr encIm l)
 el:∀ x ∈ l,OwI B W x.bp x.bc x.B
theorem OwM14.grow {B:Nat} {W W':World} {v:Value} {l:List Im} (h:OwM14 B W v l) (hB:Below W.heap.size W W'):OwM14 B W' v l:=⟨own_keptN h.row hB,fun x hx=>own_keptN (h.el x hx) hB⟩
theorem OwM14.push {B:Nat} {W W':World} {v v':Value} {l:List Im} {x:Im} (h:OwM14 B W v l) (hx:OwI B W x.bp x.bc x.B) (ho:W'.ownsRow B 93 4 v' (l.length+1) (cr encIm l ++ encIm x)) (hg:W.grownBy W' v.ownBlock):OwM14 B W' v' (l ++ [x]):=by
 have key:∀ {p c k},OwI B W p c k→OwI B W' p c k:=fun hk=>hk.kept hg (ot_ne (by decide) hk h.row)
 refine ⟨by rw [List.length_append,cr_snoc]; exact ho,fun y hy=>?_⟩
 rcases List.mem_append.1 hy with hy | hy
 ·exact key (h.el y hy)
 ·obtain rfl:y = x:=by simpa using hy
  exact key hx
theorem info_im14:(Tryz.prog.info? 93).map (fun i=>(i.zero,i.size,i.bytes)) = some (some (.agg #[.int .i64 0,.int .i64 0,.int .i64 0,.slice none 0 0]),4,48):=by kernel_rfl
theorem im_at {W:World} {X:Nat} (x:Im) (h:W.heap[X]? = some (.cells #[.int .i64 x.id,.int .i64 x.lo,.int .i64 x.hi,.slice x.bp x.B.length x.bc] 93 (0,0))):∀ j u,(encIm x)[j]? = some u→W.cell? ((⟨X,0,none⟩:Addr).add j) = some u:=by
 intro j u hj
 have hk:j < 4:=by have:=(List.getElem?_eq_some_iff.1 hj).1; simpa [encIm] using this
 unfold encIm at hj
 rcases (show j = 0 ∨ j = 1 ∨ j = 2 ∨ j = 3 by omega) with rfl | rfl | rfl | rfl <;> simp at hj <;> subst hj <;> simp [World.cell?,Addr.add,h]
theorem im_one (x:Im):∀ u ∈ encIm x,u.oneCell' = true:=by
 intro u hu
 simp [encIm] at hu
 rcases hu with rfl | rfl | rfl | rfl <;> rfl
def ImF (id:Int) (l:List Sr) (ms:List Im):Prop:=ms.length = l.length∧∀ (i:Nat) x y,l[i]? = some x→ms[i]? = some y→y.id = id∧y.lo = x.t∧y.hi = x.t+x.h∧y.B = x.U
def ImK (id:Int) (l:List Sr) (k:Nat) (ms:List Im):Prop:=ms.length = k∧∀ (i:Nat) x y,i < k→l[i]? = some x→ms[i]? = some y→y.id = id∧y.lo = x.t∧y.hi = x.t+x.h∧y.B = x.U
theorem ImK.push {id:Int} {l:List Sr} {k:Nat} {ms:List Im} {x:Sr} {y:Im} (h:ImK id l k ms) (hx:l[k]? = some x) (h1:y.id = id) (h2:y.lo = x.t) (h3:y.hi = x.t+x.h) (h4:y.B = x.U):ImK id l (k+1) (ms ++ [y]):=by
 refine ⟨by rw [List.length_append,h.1]; rfl,fun i a b hi ha hb=>?_⟩
 by_cases e:i < k
 ·rw [List.getElem?_append_left (by rw [h.1]; exact e)] at hb
  exact h.2 i a b e ha hb
 ·obtain rfl:i = k:=by omega
  rw [hx] at ha
  obtain rfl:=Option.some.inj ha
  have hl:=h.1
  rw [List.getElem?_append_right (by omega),show i - ms.length = 0 by omega] at hb
  obtain rfl:y = b:=by simpa using hb
  exact ⟨h1,h2,h3,h4⟩
theorem new14 {a b:Int} (ha:Num a) (hb:Num b) (hab:a ≤ b) (w:World):Calls Tryz.prog 83 #[.int .i64 a,.int .i64 b] w fun e w'=>e = .returned (.agg #[.int .i64 a,.int .i64 b])∧Below w.heap.size w w':=by
 have h:=iv_new a b w hab
 unfold mkLo mkHi at h
 rw [if_pos ⟨ha,hb⟩,if_pos ⟨ha,hb⟩] at h
 exact h
set_option maxHeartbeats 16000000 in
theorem Items_ok (id:Int) (p:Option Addr) (c n:Nat) (l:List Sr) (w:World) (hl:Fx w (.slice p l.length c) l) (hF:FlG n l) :
  Calls Tryz.prog 40 #[.int .i64 id,.slice p l.length c] w fun e w'=>∃ q d ms,e = .returned (.slice q ms.length d)∧OwM14 w.heap.size w' (.slice q ms.length d) ms∧ImF id l ms∧Below w.heap.size w w':=by
 obtain ⟨i0,hi,hz0,hz1,hz2⟩:=info_parts info_im14
 have hs:=hF.len
 have HL:=Lib.hid hl
 have HT0:=Lib.hid hF.tm
 have HBX:=Lib.hid hF.box
 have h16:1 ≤ n∧n ≤ 6:=⟨hF.n1,hF.n6⟩
 clear hl hF
 obtain ⟨w6,hw6⟩:∃ w6,w.alloc (.cells (madeCells (Value.agg #[.int .i64 0,.int .i64 0,.int .i64 0,.slice none 0 0]).cells (l.length * 4)) 93) = w6:=⟨_,rfl⟩
 have qmk:(Instr.makeSlice 90 (.int .i64 0) (.int .i64 (l.length:Int))).run Tryz.prog w = .ok (.slice (some ⟨w.heap.size,0,none⟩) 0 l.length) w6:=by
  have:=run_make (P:=Tryz.prog) w 90 93 i0 _ Tryz.underlying90 hi hz0 .i64 .i64 0 l.length (Int.le_refl _) (by omega) (by rw [hz2]; omega) (by omega)
  rw [hz1] at this
  simpa [hw6] using this
 have HR6:=Lib.hid (show w6.ownsRow w.heap.size 93 4 (.slice (some ⟨w.heap.size,0,none⟩) 0 l.length) 0 [] by
  rw [← hw6]
  exact World.ownsRow_made w _ l.length (Nat.le_refl _) (by unfold maxLen; omega) (size_madeCells _ _))
 have HB6:=Lib.hid (show Below w.heap.size w w6 by rw [← hw6]; exact (Below.refl _ w).alloc (Nat.le_refl _) _)
 clear hw6
 go_enter Tryz.func40,Tryz.ntmps40
 go_wp2_with (fail)
 clear qmk
 go_loopw [5,13] (fun v i wr=>∃ (k:Nat) (ms:List Im),i = .int .i64 k∧k ≤ l.length∧Hid (ImK id l k ms)∧OwM14 w.heap.size wr v ms∧Below w.heap.size w wr) (fun v i _=>l.length - (intOf i).toNat)
 case atStart=>exact ⟨0,[],rfl,Nat.zero_le _,Lib.hid ⟨rfl,fun i x y h=>by omega⟩,⟨HR6.out,fun x h=>by cases h⟩,HB6.out⟩
 case round =>
  clear HR6 HB6
  obtain ⟨k,ms,rfl,hk,HK,hrow,hB⟩:=hrel
  have HML:=Lib.hid HK.out.1
  have hrr:=hrow.row
  rw [HML.out] at hrr
  obtain ⟨pv,cv,rfl⟩:=own_slice hrr
  clear hrr
  have HR:=Lib.hid hrow
  have HBr:=Lib.hid hB
  have hsr:=hB.size
  clear hrow hB
  by_cases hlt:k < l.length
  ·have i2:(k:Int) < l.length:=by omega
   obtain ⟨x,hx⟩:∃ x,l[k]? = some x:=⟨_,List.getElem?_eq_getElem hlt⟩
   obtain ⟨b,o,rfl,hb,rd⟩:=zx_rd (HL.out.grow HBr.out).1 hx
   have sx:=(HL.out.grow HBr.out).2 x (List.mem_of_getElem? hx)
   have bx:=HBX.out x (List.mem_of_getElem? hx)
   have tx:=HT0.out x (List.mem_of_getElem? hx)
   have HX:=Lib.hid hx
   obtain ⟨x0,x1,x2,x3,x4,x5⟩:=rd ⟨wr,Below.refl _ _⟩
   obtain ⟨T,H,fp,pp,up,ep,fc,pc,uc,ec,F,P,U,E⟩:=x
   dsimp only at *
   have KE:=Lib.hid (fun nf np ne w=>end_ok T H fp pp up ep nf fc np pc U.length uc ne ec w (by omega) (by omega))
   have KC:=Lib.hid (fun w hv=>clone14 (.slice up U.length uc) U w hv (by omega) (by omega))
   have KN:=Lib.hid (fun w=>new14 (a:=T) (b:=T+H) ⟨by omega,by omega⟩ ⟨by omega,by omega⟩ (by omega) w)
   obtain ⟨d,hd⟩:∃ d,T+H = d:=⟨_,rfl⟩
   rw [hd] at KE KN
   have HD:=Lib.hid hd
   have HSU:=Lib.hid sx.u
   clear rd hx sx bx tx hb hd
   generalize F.length = nf at *
   generalize P.length = np at *
   generalize E.length = ne at *
   obtain ⟨W6,hW6⟩:∃ W6,wr.alloc (.cells #[.int .i64 T,.int .i64 H,.slice fp nf fc,.slice pp np pc,.slice up U.length uc,.slice ep ne ec] 39) = W6:=⟨_,rfl⟩
   have hb6:Below wr.heap.size wr W6:=by rw [← hW6]; exact (Below.refl _ _).alloc (Nat.le_refl _) _
   have HS6:=Lib.hid (show Blk W6 wr.heap.size (.cells #[.int .i64 T,.int .i64 H,.slice fp nf fc,.slice pp np pc,.slice up U.length uc,.slice ep ne ec] 39) by rw [← hW6]; exact World.alloc_heap_new wr _)
   have HB6:=Lib.hid (below_then HBr.out hb6)
   have HR6:=Lib.hid (HR.out.grow hb6)
   have HSU:=Lib.hid (HSU.out.grow hb6)
   clear hb6 HR
   go_wp2_with (fail)
   clear hW6 x0 x1 x2 x3 x4 x5
   have a0:=fun g:Grown W6=>heapN_cellj (HS6.out.grow g.h) (k:=0) rfl
   have a1:=fun g:Grown W6=>heapN_cellj (HS6.out.grow g.h) (k:=1) rfl
   have a2:=fun g:Grown W6=>heapN_cellj (HS6.out.grow g.h) (k:=2) rfl
   have a3:=fun g:Grown W6=>heapN_cellj (HS6.out.grow g.h) (k:=3) rfl
   have a4:=fun g:Grown W6=>heapN_cellj (HS6.out.grow g.h) (k:=4) rfl
   have a5:=fun g:Grown W6=>heapN_cellj (HS6.out.grow g.h) (k:=5) rfl
   refine region_pred_n 12 (lk [(17,fun z_ _=>z_ = .slice pv k cv),(18,fun z_ _=>z_ = .int .i64 id),(19,fun z_ _=>z_ = .pointer (some ⟨wr.heap.size,0,none⟩)),(20,fun z_ _=>z_ = .int .i64 T),(21,fun z_ _=>z_ = .agg #[.int .i64 T,.int .i64 H,.slice fp nf fc,.slice pp np pc,.slice up U.length uc,.slice ep ne ec]),(22,fun z_ _=>z_ = .int .i64 d),(23,fun z_ _=>z_ = .agg #[.int .i64 T,.int .i64 d]),(24,fun z_ _=>z_ = .pointer (some ⟨wr.heap.size,4,none⟩)),(25,fun z_ _=>z_ = .slice up U.length uc),(26,fun z_ w'=>∃ p1_ c1_,z_ = .slice p1_ U.length c1_∧w'.ownsRow w.heap.size 66 2 (.slice p1_ U.length c1_) U.length (cr encB U)),(27,fun z_ w'=>∃ p1_ c1_,z_ = .agg #[.int .i64 id,.int .i64 T,.int .i64 d,.slice p1_ U.length c1_]∧w'.ownsRow w.heap.size 66 2 (.slice p1_ U.length c1_) U.length (cr encB U)),(28,fun z_ w'=>∃ X_ p1_ c1_,z_ = .slice (some ⟨X_,0,none⟩) 1 1∧W6.heap.size ≤ X_∧w'.heap[X_]? = some (.cells #[.int .i64 id,.int .i64 T,.int .i64 d,.slice p1_ U.length c1_] 93 (0,0))∧w'.ownsRow w.heap.size 66 2 (.slice p1_ U.length c1_) U.length (cr encB U))]) (by kernel_rfl) (by kernel_rfl) (lk_steady _ ⟨steady_eq _,steady_eq _,steady_eq _,steady_eq _,steady_eq _,steady_eq _,steady_eq _,steady_eq _,steady_eq _,fun u w1 w2 hb ⟨p,c,e,h⟩=>⟨p,c,e,own_keptN h hb⟩,fun u w1 w2 hb ⟨p,c,e,h⟩=>⟨p,c,e,own_keptN h hb⟩,fun u w1 w2 hb ⟨X,a,b,e,h1,h2,h3⟩=>⟨X,a,b,e,h1,(hb.block X (Array.getElem?_eq_some_iff.1 h2).1).trans h2,own_keptN h3 hb⟩,trivial⟩) ?_ ?_
   ·refine ⟨?_,?_,?_,?_,?_,?_,?_,?_,?_,?_,?_,?_,trivial⟩
    ·refine ob_plain [5] rfl rfl fun aa g h=>?_
     have yy0:=seen_out (v:=.slice pv k cv) rfl rfl h.1
     exact tvS (by simp [go_sem,yy0]) rfl
    ·refine ob_plain [0] rfl rfl fun aa g h=>?_
     have yy0:=seen_out (v:=.int .i64 id) rfl rfl h.1
     exact tvS (by simp [go_sem,yy0]) rfl
    ·refine ob_plain [7] rfl rfl fun aa g h=>?_
     have yy0:=seen_out (v:=.pointer (some ⟨wr.heap.size,0,none⟩)) rfl rfl h.1
     exact tvS (by simp [go_sem,yy0]) rfl
    ·refine ob_plain [19] rfl rfl fun aa g h=>?_
     obtain ⟨_,yy0,rfl⟩:=seen_in rfl h.1
     exact tvS (by simp [go_sem,yy0,a0 g]) rfl
    ·refine ob_plain [7] rfl rfl fun aa g h=>?_
     have yy0:=seen_out (v:=.pointer (some ⟨wr.heap.size,0,none⟩)) rfl rfl h.1
     exact tvS (by simp [go_sem,yy0,a0 g,a1 g,a2 g,a3 g,a4 g,a5 g]) rfl
    ·refine ob_plain [21] rfl rfl fun aa g h=>?_
     obtain ⟨_,yy0,rfl⟩:=seen_in rfl h.1
     refine tupon_enter (f:=61) (args:=#[.agg #[.int .i64 T,.int .i64 H,.slice fp nf fc,.slice pp np pc,.slice up U.length uc,.slice ep ne ec]]) (by simp [go_sem,yy0]) rfl ?_
     exact (KE.out nf np ne g.w).mono fun e w' ⟨he,hB⟩=>⟨_,he,hB,rfl⟩
    ·refine ob_plain [20,22] rfl rfl fun aa g h=>?_
     obtain ⟨_,yy0,rfl⟩:=seen_in rfl h.1
     obtain ⟨_,yy1,rfl⟩:=seen_in rfl h.2.1
     refine tupon_enter (f:=83) (args:=#[.int .i64 T,.int .i64 d]) (by simp [go_sem,yy0,yy1]) rfl ?_
     exact (KN.out g.w).mono fun e w' ⟨he,hB⟩=>⟨_,he,hB,rfl⟩
    ·refine ob_plain [7] rfl rfl fun aa g h=>?_
     have yy0:=seen_out (v:=.pointer (some ⟨wr.heap.size,0,none⟩)) rfl rfl h.1
     exact tvS (by simp [go_sem,yy0]) rfl
    ·refine ob_plain [24] rfl rfl fun aa g h=>?_
     obtain ⟨_,yy0,rfl⟩:=seen_in rfl h.1
     exact tvS (by simp [go_sem,yy0,a4 g]) rfl
    ·refine ob_plain [25] rfl rfl fun aa g h=>?_
     obtain ⟨_,yy0,rfl⟩:=seen_in rfl h.1
     refine tupon_enter (f:=66) (args:=#[.slice up U.length uc]) (by simp [go_sem,yy0]) rfl ?_
     exact (KC.out g.w (HSU.out.grow g.h)).mono fun e w' ⟨p_,c_,he,ho,hB⟩=>⟨_,he,hB,⟨_,_,rfl,own_base ho (Nat.le_trans HB6.out.size g.h.size)⟩⟩
    ·refine ob_plain [18,23,26] rfl rfl fun aa g h=>?_
     obtain ⟨_,yy0,rfl⟩:=seen_in rfl h.1
     obtain ⟨_,yy1,rfl⟩:=seen_in rfl h.2.1
     obtain ⟨_,yy2,⟨p26,c26,rfl,ho26⟩⟩:=seen_in rfl h.2.2.1
     exact tupon_value (v:=.agg #[.int .i64 id,.int .i64 T,.int .i64 d,.slice p26 U.length c26]) (by simp [go_sem,yy0,yy1,yy2]) (Below.refl _ _) ⟨_,_,rfl,ho26⟩
    ·refine ob_plain [27] rfl rfl fun aa g h=>?_
     obtain ⟨_,yy0,⟨p27,c27,rfl,k1⟩⟩:=seen_in rfl h.1
     exact tupon_value (v:=.slice (some ⟨g.w.heap.size,0,none⟩) 1 1) (w1:=g.w.alloc (.cells #[.int .i64 id,.int .i64 T,.int .i64 d,.slice p27 U.length c27] 93)) (by simp [go_sem,yy0]) ((Below.refl _ _).alloc (Nat.le_refl _) _) ⟨_,_,_,rfl,g.h.size,World.alloc_heap_new _ _,k1.alloc _⟩
   rintro w8 hB _ rfl _ rfl _ rfl _ rfl _ rfl _ rfl _ rfl _ rfl _ rfl _ ⟨p26,c26,rfl,ho26⟩ _ ⟨p27,c27,rfl,k1⟩ _ ⟨X28,q1,d1,rfl,hX28,hI28,j1⟩
   simp only [Act.put,List.setIfInBounds_toArray,List.set_cons_succ,List.set_cons_zero,finP,List.drop_succ_cons,List.drop_zero,List.take_zero,List.filterMap_nil]
   have HB8:=Lib.hid (below_then HB6.out hB)
   have HR8:=Lib.hid (HR6.out.grow hB)
   have hrr:=HR8.out.row
   rw [HML.out] at hrr
   have HRR:=Lib.hid hrr
   obtain ⟨y,hy⟩:∃ y:Im,y = ⟨id,T,d,q1,d1,U⟩:=⟨_,rfl⟩
   have HYS:Hid (OwI w.heap.size w8 y.bp y.bc y.B):=Lib.hid (by subst hy; exact j1)
   have HYA:Hid (∀ j u,(encIm y)[j]? = some u→w8.cell? ((⟨X28,0,none⟩:Addr).add j) = some u):=Lib.hid (im_at y (by subst hy; exact hI28))
   have HKP:Hid (ImK id l (k+1) (ms ++ [y])):=Lib.hid (HK.out.push HX.out (by rw [hy]) (by rw [hy]) (by rw [hy]; exact HD.out.symm) (by rw [hy]))
   have hs8:=HB8.out.size
   clear hrr hB hy hI28 j1 k1 ho26 a0 a1 a2 a3 a4 a5 KE KC KN
   go_wp2_with (at_builtin; refine wpList_append_own _ rfl (.tmp 17) (.tmp 28) 90 rfl w.heap.size 93 i0 (.agg #[.int .i64 0,.int .i64 0,.int .i64 0,.slice none 0 0]) 4 48 Tryz.underlying90 hi hz0 hz1 hz2 rfl (by decide) (.slice pv k cv) k _ rfl HRR.out ⟨X28,0,none⟩ 1 1 (encIm y) rfl rfl HYA.out (im_one y) (by unfold maxLen; omega) (by omega) (by omega) ?_)
   intro v' w9 hown' hgrow _
   have hB9:Below w.heap.size w w9:=Below.grown HB8.out hgrow (by omega) (fun i hi=>(HRR.out.lt i hi).1)
   have hF9:OwM14 w.heap.size w9 v' (ms ++ [y]):=HR8.out.push HYS.out (by rw [HML.out]; exact hown') hgrow
   obtain ⟨p9,c9,rfl⟩:=own_slice hown'
   have HF9:=Lib.hid hF9
   have HB9:=Lib.hid hB9
   clear hown' hgrow hB9 hF9
   go_wp2_with (fail)
   go_roundw
   case rel=>exact ⟨k+1,ms ++ [y],by go_num,by omega,HKP,HF9.out,HB9.out⟩
   case measure=>simp [intOf]; omega
  ·obtain rfl:k = l.length:=by omega
   go_wp2_with (fail)
   go_ret
   exact ⟨pv,cv,ms,(by rw [HML.out]; first | done | rfl),(by rw [HML.out]; exact HR.out),⟨HK.out.1,fun i x y hx hy=>HK.out.2 i x y (List.getElem?_eq_some_iff.1 hx).1 hx hy⟩,HBr.out⟩
end Go.Proofs.YtdfdpghdjlgghaaGreat
namespace Go.Proofs.YtdfdpghdjlgghaaGreat
open Go.ChangeShapes Go.WideShapes Go.ChangeAt Go.RowKit
set_option linter.unusedVariables false
set_option linter.unusedSimpArgs false
set_option maxRecDepth 100000
theorem gR_map1 (X:List (Int × Int)) (j:Nat):gR (X.map fun p=>[p]) j = if j < X.length then [gI X j] else []:=by
 unfold gR gI
 rw [List.getD_eq_getElem?_getD,List.getElem?_map,List.getD_eq_getElem?_getD]
 split
 ·next h=>rw [List.getElem?_eq_getElem h]; rfl
 ·next h=>rw [List.getElem?_eq_none (by omega)]; rfl
theorem st_len {out:List Int} {st rows:List (List (Int × Int))} (k:Nat):∀ n,(stN out rows k st n).length = st.length
 | 0=>rfl
 | n+1=>by
  show ((stN out rows k st n).set n _).length = _
  rw [List.length_set,st_len k n]
theorem st_row {out:List Int} {st rows:List (List (Int × Int))} (k j:Nat):∀ n,n ≤ st.length→gR (stN out rows k st n) j = if j < n then gR st j ++ [mrN 1 (k+1:Nat) (gI (gR rows (out.getD j 0).toNat) k)] else gR st j
 | 0,_=>by rw [if_neg (by omega)]; rfl
 | n+1,hn=>by
  have h:=st_row (out:=out) (st:=st) (rows:=rows) k j n (by omega)
  show gR ((stN out rows k st n).set n _) j = _
  rw [gR_set (by rw [st_len]; omega)]
  by_cases e:j = n
  ·subst e
   rw [if_neg (by omega)] at h
   rw [if_pos rfl,if_pos (by omega),h]
  ·rw [if_neg e,h]
   by_cases hj:j < n
   ·rw [if_pos hj,if_pos (by omega)]
   ·rw [if_neg hj,if_neg (by omega)]
theorem ser_len {L:List Is} {out:List Int} {X:List (Int × Int)} {t:Int × Int}:∀ k,(serI L out X t k).length = X.length
 | 0=>by simp [serI,exN]
 | k+1=>by
  show (stN out _ k (serI L out X t k) out.length).length = _
  rw [st_len,ser_len k]
theorem ser_next {L:List Is} {out:List Int} {X:List (Int × Int)} {t:Int × Int} (ho:out.length = X.length) (k j:Nat) (hj:j < X.length):∃ x,gR (serI L out X t (k+1)) j = gR (serI L out X t k) j ++ [x]:=by
 have hl:=ser_len (L:=L) (out:=out) (X:=X) (t:=t) k
 have h:=st_row (out:=out) (st:=serI L out X t k) (rows:=rwN L (exN L out X t k).2 t k (exN L out X t k).1 L.length) k j out.length (by omega)
 rw [if_pos (by omega)] at h
 exact ⟨_,h⟩
theorem ser_at {L:List Is} {out:List Int} {X:List (Int × Int)} {t:Int × Int} (ho:out.length = X.length) (j:Nat) (hj:j < X.length):∀ k,(gR (serI L out X t k) j).length = k+1
 | 0=>by
  show (gR (X.map fun p=>[p]) j).length = 1
  rw [gR_map1,if_pos hj]
  rfl
 | k+1=>by
  obtain ⟨x,h⟩:=ser_next (L:=L) (out:=out) (X:=X) (t:=t) ho k j hj
  rw [h,List.length_append,ser_at ho j hj k]
  rfl
end Go.Proofs.YtdfdpghdjlgghaaGreat
namespace Go.Proofs.YtdfdpghdjlgghaaGreat
open Go.ChangeShapes Go.WideShapes Go.ChangeAt Go.RowKit
set_option linter.unusedVariables false
set_option linter.unusedSimpArgs false
set_option maxRecDepth 100000
section
variable {P:Program}
def OblR (P:Program) (ops:Array Oper) (ds:List Tmp) (a0:Act) (w0:World) (row:Option Nat) (Φ:Tmp→Value→World→Prop) (o:Oper):Prop :=
 ∀ (a:Act) (w:World),w0.grownBy w row→seenAll Φ ds a0 a w (o.looksAt ops) →
  if Region.wanted o (yielded ops a.tmps) = true then uponP P w (meets Φ o.dst) ((execOp a.eval o).run P w) else meets Φ o.dst undef w
def closB (l:List Oper) (sA:Nat) (R:List Nat):Bool:=(List.range l.length).all fun i=>Nat.beq i sA || (List.range l.length).any (fun x=>!(R.any (Nat.beq x)) && (match l[x]? with | some ox=>earlyB ox i | none=>false)) || R.any (Nat.beq i)
structure AInv (Φ:Tmp→Value→World→Prop) (s:Nat) (w0:World) (a0:Act) (l:List Oper) (sA:Nat) (dA:Tmp) (row:Option Nat) (Rp:World→Value→World→Prop) (L:Array Bool) (a:Act) (w:World):Prop where
 bel:(L.getD sA false = false∧Below w0.heap.size w0 w) ∨ (L.getD sA false = true∧∃ g w1 v,Below w0.heap.size w0 g∧g.grownBy w1 row∧a.tmps[dA]? = some v∧Rp g v w1∧Below w1.heap.size w1 w)
 dfr:a.defers = a0.defers
 siz:a.tmps.size = a0.tmps.size
 lsz:L.size = l.length
 old:∀ t,t ∉ dsts l→a.tmps[t]? = a0.tmps[t]?
 val:∀ (i:Nat) (o:Oper) (d:Tmp),l[i]? = some o→o.dst = some d→L.getD i false = true→∃ v,a.tmps[d]? = some v∧Φ d v w
 sno:L.getD s false = false
 clo:∀ (j:Nat) (oj:Oper),l[j]? = some oj→L.getD j false = true→∀ i,earlyB oj i = true→L.getD i false = true
theorem pred_a {l:List Oper} {a0:Act} {w0:World} {Q:Exit→Act→World→Prop} (Φ:Tmp→Value→World→Prop) (s:Nat) (os:Oper) (hos:l[s]? = some os) (hB:predSB l s a0.tmps.size = true)
  (hLB:lastB l s = true) (row:Option Nat) (Rp:World→Value→World→Prop) (sA:Nat) (oA:Oper) (dA:Tmp) (R:List Nat) (hoA:l[sA]? = some oA) (hdA:oA.dst = some dA) (hgA:oA.guard = none) (hcA:closB l sA R = true) (hzR:R.any (Nat.beq s) = true) (hsA:sA ≠ s) (hAR:R.any (Nat.beq sA) = false)
  (hΦ:∀ t v w1 w2,w1.grownBy w2 row→Φ t v w1→Φ t v w2)
  (hO:∀ i o,l[i]? = some o→i ≠ s→i ≠ sA→if R.any (Nat.beq i) = true then OblR P l.toArray (dsts l) a0 w0 row Φ o else Obl P l.toArray (dsts l) a0 w0 Φ o)
  (hA:∀ (a:Act) (g:Grown w0),seenAll Φ (dsts l) a0 a g.w (oA.looksAt l.toArray)→∃ v w',(execOp a.eval oA).run P g.w = .ok (.value v) w'∧g.w.grownBy w' row∧Φ dA v w'∧Rp g.w v w')
  (k:∀ (a:Act) (w:World),a.defers = a0.defers→a.tmps.size = a0.tmps.size→(∀ t,t ∉ dsts l→a.tmps[t]? = a0.tmps[t]?)→(∀ d ∈ dsts l,∃ v,a.tmps[d]? = some v∧Φ d v w)→(∃ g w1 v,Below w0.heap.size w0 g∧g.grownBy w1 row∧a.tmps[dA]? = some v∧Rp g v w1∧Below w1.heap.size w1 w)→∃ w',(execOp a.eval os).run P w = .ok .skip w'∧Q .normal a w') :
  ∀ (f:Nat) (L:Array Bool) (a:Act) (w:World),cnt l.length L = f→AInv Φ s w0 a0 l sA dA row Rp L a w→wpAny P .any l.toArray Q f L a w:=by
 simp only [predSB,Bool.and_eq_true] at hB
 obtain ⟨⟨⟨⟨⟨b1,b2⟩,b3⟩,b4⟩,b5⟩,b6⟩:=hB
 have isz:∀ d ∈ dsts l,d < a0.tmps.size:=fun d hd=>by
  have:=List.all_eq_true.1 b6 d hd
  simpa using this
 have listedAll:∀ (L:Array Bool),L.size = l.length→cnt l.length L = 0→∀ i,i < l.length→L.getD i false = true:=fun L hs h0 i hi=>by
  unfold cnt at h0
  have:=List.countP_eq_zero.1 h0 i (List.mem_range.2 hi)
  have hs':i < L.size:=by omega
  simp [hs'] at this ⊢
  exact this
 intro f
 induction f with
 | zero =>
  intro L a w hc I
  exfalso
  have h1:=listedAll L I.lsz hc s (List.getElem?_eq_some_iff.1 hos).1
  rw [I.sno] at h1
  cases h1
 | succ f ih =>
  intro L a w hc I
  have hex:∃ i,i < l.length∧L.getD i true = false:=by
   by_cases h:∃ i,i < l.length∧L.getD i true = false
   ·exact h
   ·exfalso
    have:cnt l.length L = 0:=by
     unfold cnt
     refine List.countP_eq_zero.2 fun i hi=>?_
     have hin:=List.mem_range.1 hi
     cases hh:L.getD i true with
     | true=>simp
     | false=>exact absurd ⟨i,hin,hh⟩ h
    omega
  obtain ⟨i0,hi0,hu0⟩:=hex
  have hne:Region.ready .any l.toArray L ≠ []:=fun h0=>by
   have all:∀ i,i < l.length→L.getD i false = true:=fun i=>by
    induction i using Nat.strongRecOn with
    | _ i ihh =>
     intro hi
     cases hh:L.getD i false with
     | true=>rfl
     | false =>
      exfalso
      have hs:i < L.size:=by rw [I.lsz]; exact hi
      have hmem:i ∈ Region.ready .any l.toArray L:=mem_ready.2 ⟨getD_in hs hh,l[i],by simp [hi],fun ed hed hb=>by
       have:=leadB_at l 0 b4 i l[i] (by simp [hi]) ed hed hb
       exact ihh ed.on (by omega) (by omega)⟩
      rw [h0] at hmem
      cases hmem
   have:=all i0 hi0
   rw [getD_both hu0] at this
   cases this
  refine ⟨fun h0=>absurd h0 hne,fun i hi=>?_⟩
  obtain ⟨hun,o,ho,hall⟩:=mem_ready.1 hi
  have hol:l[i]? = some o:=by simpa using ho
  have hin:i < l.length:=(List.getElem?_eq_some_iff.1 hol).1
  have hmem:o ∈ l:=List.mem_of_getElem? hol
  have hsL:i < L.size:=by rw [I.lsz]; exact hin
  have hcnt:cnt l.length (L.setIfInBounds i true) = f:=by
   have:=cnt_set (fun k=>!L.getD k true) (fun k=>!(L.setIfInBounds i true).getD k true) i (by show (!L.getD i true) = true; rw [hun]; rfl) (by simp [Array.getD_eq_getD_getElem?,hsL]) (fun j hj=>by
    simp only [Array.getD_eq_getD_getElem?,Array.getElem?_setIfInBounds_ne (Ne.symm hj)]) l.length
   rw [if_pos hin] at this
   unfold cnt at *
   omega
  have hset:∀ k,(L.setIfInBounds i true).getD k false = if i = k then true else L.getD k false:=fun k=>by
   by_cases hik:i = k
   ·subst hik
    rw [if_pos rfl]
    simp [Array.getD_eq_getD_getElem?,hsL]
   ·rw [if_neg hik]
    simp [Array.getD_eq_getD_getElem?,Array.getElem?_setIfInBounds_ne hik]
  have hlook:seenAll (Φ) (dsts l) a0 a w (o.looksAt l.toArray):=seenAll_of _ fun t ht=>by
   unfold seen
   by_cases hin':inL t (dsts l) = true
   ·rw [if_pos hin']
    have hmt:=(inL_iff t _).1 hin'
    have h1:=List.all_eq_true.1 (List.all_eq_true.1 b3 o hmem) t ht
    simp only [Bool.or_eq_true,Bool.not_eq_true'] at h1
    rcases h1 with h1 | h1
    ·have:=(List.contains_iff_mem).2 hmt
     rw [h1] at this
     cases this
    ·obtain ⟨e,he,hb⟩:=Array.any_eq_true'.1 h1
     simp only [Bool.and_eq_true] at hb
     obtain ⟨hb1,hb2⟩:=hb
     have hlis:=hall e he hb1
     cases hoj:l.toArray[e.on]? with
     | none=>rw [hoj] at hb2; cases hb2
     | some oj =>
      rw [hoj] at hb2
      simp only [beq_iff_eq] at hb2
      exact I.val e.on oj t (by simpa using hoj) hb2 hlis
   ·rw [if_neg hin']
    exact I.old t fun h=>hin' ((inL_iff t _).2 h)
  have hcl:L.getD sA false = true→∀ (m j:Nat),l.length - j = m→j < l.length→R.any (Nat.beq j) = false→L.getD j false = true:=fun hLA=>by
   intro m
   induction m using Nat.strongRecOn with
   | _ m ihm =>
    intro j hm hj hnR
    have h1:=List.all_eq_true.1 hcA j (List.mem_range.2 hj)
    rw [hnR,Bool.or_false,Bool.or_eq_true] at h1
    rcases h1 with h1 | h1
    ·rw [Nat.eq_of_beq_eq_true h1] at *
     exact hLA
    ·obtain ⟨x,hx,he⟩:=List.any_eq_true.1 h1
     have hxl:=List.mem_range.1 hx
     rw [Bool.and_eq_true] at he
     obtain ⟨ox,hox⟩:∃ ox,l[x]? = some ox:=⟨_,List.getElem?_eq_getElem hxl⟩
     rw [hox] at he
     dsimp only at he
     obtain ⟨e,hem,hb⟩:=Array.any_eq_true'.1 he.2
     simp only [Bool.and_eq_true] at hb
     have hlt:=leadB_at l 0 b4 x ox hox e hem hb.1
     have hej:=Nat.eq_of_beq_eq_true hb.2
     have hnx:R.any (Nat.beq x) = false:=by
      cases hh:R.any (Nat.beq x) with
      | false=>rfl
      | true=>rw [hh] at he; cases he.1
     exact I.clo x ox hox (ihm (l.length - x) (by omega) x rfl hxl hnx) j he.2
  by_cases his:i = s
  ·subst his
   obtain rfl:o = os:=by rw [hol] at hos; exact Option.some.inj hos
   have hoN:=(allBut_at l i 0 b2 i o hol).1 (by omega)
   have hoth:∀ (m j:Nat),l.length - j = m→j < l.length→j ≠ i→L.getD j false = true:=by
    intro m
    induction m using Nat.strongRecOn with
    | _ m ihm =>
     intro j hm hj hne
     have h1:=List.all_eq_true.1 hLB j (List.mem_range.2 hj)
     simp only [Bool.or_eq_true] at h1
     rcases h1 with h1 | h1
     ·exact absurd (Nat.eq_of_beq_eq_true h1) hne
     ·obtain ⟨ox,hox,he⟩:=List.any_eq_true.1 h1
      obtain ⟨x,hx⟩:=List.getElem?_of_mem hox
      have hxl:x < l.length:=(List.getElem?_eq_some_iff.1 hx).1
      obtain ⟨e,hem,hb⟩:=Array.any_eq_true'.1 he
      simp only [Bool.and_eq_true] at hb
      have hlt:=leadB_at l 0 b4 x ox hx e hem hb.1
      have hej:=Nat.eq_of_beq_eq_true hb.2
      by_cases hxi:x = i
      ·subst hxi
       obtain rfl:ox = o:=by rw [hol] at hx; exact (Option.some.inj hx).symm
       have:=hall e hem hb.1
       rwa [hej] at this
      ·exact I.clo x ox hx (ihm (l.length - x) (by omega) x rfl hxl hxi) j he
   have hL':∀ j,j < l.length→(L.setIfInBounds i true).getD j false = true:=fun j hj=>by
    rw [hset]
    by_cases e:i = j
    ·rw [if_pos e]
    ·rw [if_neg e]
     exact hoth _ j rfl hj (fun q=>e q.symm)
   have hf0:f = 0:=by
    rw [← hcnt]
    unfold cnt
    refine List.countP_eq_zero.2 fun j hj=>?_
    have hin:=List.mem_range.1 hj
    have h1:=hL' j hin
    cases hh:(L.setIfInBounds i true).getD j true with
    | true=>simp
    | false =>
     rw [getD_both hh] at h1
     cases h1
   have hLA:L.getD sA false = true:=hoth _ sA rfl (List.getElem?_eq_some_iff.1 hoA).1 hsA
   have hph:∃ g w1 v,Below w0.heap.size w0 g∧g.grownBy w1 row∧a.tmps[dA]? = some v∧Rp g v w1∧Below w1.heap.size w1 w:=by
    rcases I.bel with ⟨h1,_⟩ | ⟨_,h2⟩
    ·rw [hLA] at h1; cases h1
    ·exact h2
   obtain ⟨w',hr,hq⟩:=k a w I.dfr I.siz I.old (fun d hd=>by
    obtain ⟨ox,hox,hdo⟩:=List.mem_filterMap.1 hd
    obtain ⟨x,hx⟩:=List.getElem?_of_mem hox
    have hxi:x ≠ i:=fun e=>by
     subst e
     rw [hol] at hx
     have e:=Option.some.inj hx
     subst e
     rw [hoN.1] at hdo
     cases hdo
    exact I.val x ox d hx hdo (hoth _ x rfl (List.getElem?_eq_some_iff.1 hx).1 hxi)) hph
   have hw:Region.wanted o (yielded l.toArray a.tmps) = true:=by
    unfold Region.wanted
    rw [hoN.2]
   unfold wpOp
   simp only [ho]
   rw [if_pos hw]
   refine .inl ?_
   unfold Oper.wp
   rw [hr,Oper.upon_skip]
   have hput:a.put o.dst undef = a:=by rw [hoN.1]; rfl
   rw [hput]
   subst hf0
   refine ⟨?_,hq⟩
   cases hrd:Region.ready .any l.toArray (L.setIfInBounds i true) with
   | nil=>rfl
   | cons x r =>
    have hi:x ∈ Region.ready .any l.toArray (L.setIfInBounds i true):=by rw [hrd]; exact List.mem_cons_self
    obtain ⟨hun,ox,hox,_⟩:=mem_ready.1 hi
    have hin:x < l.length:=by
     have:=(Array.getElem?_eq_some_iff.1 hox).1
     simpa using this
    have:=hL' x hin
    rw [getD_both hun] at this
    cases this
  ·obtain ⟨d,hd⟩:=(allBut_at l s 0 b2 i o hol).2 (by omega)
   have hdm:d ∈ dsts l:=List.mem_filterMap.2 ⟨o,hmem,hd⟩
   have hdN:d < a.tmps.size:=by rw [I.siz]; exact isz d hdm
   -- behind the operation
   have step0:∀ v w',w.grownBy w' row→meets (Φ) o.dst v w'→(((L.setIfInBounds i true).getD sA false = false∧Below w0.heap.size w0 w') ∨ ((L.setIfInBounds i true).getD sA false = true∧∃ g w1 v',Below w0.heap.size w0 g∧g.grownBy w1 row∧(a.put o.dst v).tmps[dA]? = some v'∧Rp g v' w1∧Below w1.heap.size w1 w'))→wpAny P .any l.toArray Q f (L.setIfInBounds i true) (a.put o.dst v) w':=fun v w' hb hv hph=>by
    refine ih _ _ _ hcnt ⟨hph,by rw [put_def,I.dfr],by rw [put_size,I.siz],by simp [I.lsz],fun t ht=>?_,fun j oj dj hj hdj hLj=>?_,by rw [hset,if_neg his]; exact I.sno,fun j oj hj hLj x hej=>?_⟩
    ·have hne:d ≠ t:=fun e=>ht (e ▸ hdm)
     rw [hd,put_get_ne _ _ hne]
     exact I.old t ht
    ·by_cases hij:i = j
     ·subst hij
      rw [hol] at hj
      have e:=Option.some.inj hj
      subst e
      rw [hd] at hdj
      have e:=Option.some.inj hdj
      subst e
      rw [hd] at hv ⊢
      exact ⟨v,put_get_eq _ _ hdN,hv⟩
     ·rw [hset,if_neg hij] at hLj
      obtain ⟨u,h1,h2⟩:=I.val j oj dj hj hdj hLj
      have hne:d ≠ dj:=fun e=>hij (dist_inj' l b1 i j o oj d hol hj hd (by rw [e]; exact hdj))
      exact ⟨u,by rw [hd,put_get_ne _ _ hne]; exact h1,hΦ _ _ _ _ hb h2⟩
    ·rw [hset]
     by_cases hij:i = j
     ·subst hij
      rw [hol] at hj
      have e:=Option.some.inj hj
      subst e
      split
      ·rfl
      ·obtain ⟨e,he,hb⟩:=Array.any_eq_true'.1 hej
       simp only [Bool.and_eq_true] at hb
       have:=hall e he hb.1
       rwa [Nat.eq_of_beq_eq_true hb.2] at this
     ·rw [hset,if_neg hij] at hLj
      have:=I.clo j oj hj hLj x hej
      split
      ·rfl
      ·exact this
   by_cases hiA:i = sA
   ·subst hiA
    obtain rfl:o = oA:=by rw [hol] at hoA; exact Option.some.inj hoA
    obtain rfl:d = dA:=by rw [hd] at hdA; exact Option.some.inj hdA
    have hbel:Below w0.heap.size w0 w:=by
     rcases I.bel with ⟨_,h2⟩ | ⟨h1,_⟩
     ·exact h2
     ·have:=getD_both hun
      rw [h1] at this
      cases this
    obtain ⟨v,w',hr,hg,hv,hp⟩:=hA a ⟨w,hbel⟩ hlook
    have hw:Region.wanted o (yielded l.toArray a.tmps) = true:=by
     unfold Region.wanted
     rw [hgA]
    unfold wpOp
    simp only [ho]
    rw [if_pos hw]
    refine .inl ?_
    unfold Oper.wp
    rw [hr,Oper.upon_value]
    refine step0 v w' hg (by rw [hd]; exact hv) (.inr ⟨by rw [hset,if_pos rfl],w,w',v,hbel,hg,by rw [hd]; exact put_get_eq _ _ hdN,hp,Below.refl _ _⟩)
   have hne:d ≠ dA:=fun e=>hiA (dist_inj' l b1 i sA o oA d hol hoA hd (by rw [e]; exact hdA))
   have step:∀ v w',Below w.heap.size w w'→meets (Φ) o.dst v w'→wpAny P .any l.toArray Q f (L.setIfInBounds i true) (a.put o.dst v) w':=fun v w' hb hv=>by
    refine step0 v w' ⟨hb.os,hb.tape,hb.output,hb.size,fun k hk _=>hb.block k hk⟩ hv ?_
    rw [hset,if_neg hiA]
    rcases I.bel with ⟨h1,h2⟩ | ⟨h1,g,w1,v',h2,h3,h4,h5,h6⟩
    ·exact .inl ⟨h1,h2.trans (hb.mono h2.size)⟩
    ·exact .inr ⟨h1,g,w1,v',h2,h3,by rw [hd,put_get_ne _ _ hne]; exact h4,h5,h6.trans (hb.mono h6.size)⟩
   have hob:if Region.wanted o (yielded l.toArray a.tmps) = true then uponP P w (meets Φ o.dst) ((execOp a.eval o).run P w) else meets Φ o.dst undef w:=by
    have hob:=hO i o hol his hiA
    rcases I.bel with ⟨_,h2⟩ | ⟨h1,g,w1,v',h2,h3,h4,h5,h6⟩
    ·split at hob
     ·exact hob a w ⟨h2.os,h2.tape,h2.output,h2.size,fun k hk _=>h2.block k hk⟩ hlook
     ·exact hob a ⟨w,h2⟩ hlook
    ·split at hob
     ·refine hob a w ⟨h6.os.trans (h3.os.trans h2.os),h6.tape.trans (h3.tape.trans h2.tape),h6.output.trans (h3.output.trans h2.output),Nat.le_trans h2.size (Nat.le_trans h3.size h6.size),fun k hk hne=>?_⟩ hlook
      exact (h6.block k (Nat.lt_of_lt_of_le hk (Nat.le_trans h2.size h3.size))).trans ((h3.block k (Nat.lt_of_lt_of_le hk h2.size) hne).trans (h2.block k hk))
     ·next hR =>
      have:=hcl h1 _ i rfl hin (by cases hh:R.any (Nat.beq i) with | false=>rfl | true=>exact absurd hh hR)
      rw [getD_both hun] at this
      cases this
   unfold wpOp
   simp only [ho]
   by_cases hw:Region.wanted o (yielded l.toArray a.tmps) = true
   ·rw [if_pos hw] at hob ⊢
    refine .inl ?_
    unfold Oper.wp
    generalize hr:(execOp a.eval o).run P w = r at hob
    cases r with
    | ok n w' =>
     cases n with
     | value u =>
      rw [Oper.upon_value]
      exact step u w' hob.1 hob.2
     | enter f args =>
      obtain ⟨rfl,hc⟩:=hob
      rw [Oper.upon_enter]
      refine hc.mono ?_
      rintro e w'' ⟨v,rfl,hb,hv⟩
      exact step v w'' hb hv
     | _=>exact hob.elim
    | _=>exact hob.elim
   ·rw [if_neg hw] at hob ⊢
    exact step undef w (Below.refl _ _) hob



theorem region_pred_a {id:Nat} {Q:Exit→Act→World→Prop} {a0:Act} {w:World} {l:List Oper} (Φ:Tmp→Value→World→Prop) (s:Nat) (os:Oper) (hos:l[s]? = some os) (hm:P.follows .mixedOrders = true) (hB:predSB l s a0.tmps.size = true) (hLB:lastB l s = true)
  (row:Option Nat) (Rp:World→Value→World→Prop) (sA:Nat) (oA:Oper) (dA:Tmp) (R:List Nat) (hoA:l[sA]? = some oA) (hdA:oA.dst = some dA) (hgA:oA.guard = none) (hcA:(closB l sA R && R.any (Nat.beq s) && !Nat.beq sA s && !(R.any (Nat.beq sA))) = true)
  (hΦ:∀ t v w1 w2,w1.grownBy w2 row→Φ t v w1→Φ t v w2)
  (hO:eachS (fun i o=>i ≠ s→i ≠ sA→if R.any (Nat.beq i) = true then OblR P l.toArray (dsts l) a0 w row Φ o else Obl P l.toArray (dsts l) a0 w Φ o) 0 l)
  (hA:∀ (a:Act) (g:Grown w),seenAll Φ (dsts l) a0 a g.w (oA.looksAt l.toArray)→∃ v w',(execOp a.eval oA).run P g.w = .ok (.value v) w'∧g.w.grownBy w' row∧Φ dA v w'∧Rp g.w v w')
  (k:∀ g w1 v w',Below w.heap.size w g→g.grownBy w1 row→Rp g v w1→Below w1.heap.size w1 w'→finP Φ w' (fun a=>a.tmps[dA]? = some v→∃ w'',(execOp a.eval os).run P w' = .ok .skip w''∧Q .normal a w'') (dsts l) a0) :
  (Code.region id l.toArray true).wp P Q a0 w:=by
 refine wp_region_any hm ?_
 simp only [Bool.and_eq_true,Bool.not_eq_true'] at hcA
 obtain ⟨⟨⟨hc1,hc2⟩,hc3⟩,hc4⟩:=hcA
 have k:=fun (a:Act) (w':World) h1 h2 h3 h4 (h5:∃ g w1 v,Below w.heap.size w g∧g.grownBy w1 row∧a.tmps[dA]? = some v∧Rp g v w1∧Below w1.heap.size w1 w')=>show ∃ w'',(execOp a.eval os).run P w' = .ok .skip w''∧Q .normal a w'' by
  obtain ⟨g,w1,v,g1,g2,g3,g4,g5⟩:=h5
  exact finP_ok (Φ:=Φ) (w:=w') (K:=fun a=>a.tmps[dA]? = some v→∃ w'',(execOp a.eval os).run P w' = .ok .skip w''∧Q .normal a w'') (a:=a) (dsts l) a0 (Eq.symm h1) (Eq.symm h2) h4 h3 (k g w1 v w' g1 g2 g4 g5) g3
 have h0:cnt l.length (Array.replicate l.toArray.size false) = l.toArray.size:=by
  unfold cnt
  simp only [List.size_toArray]
  rw [List.countP_eq_length.2]
  ·simp
  ·intro i hi
   have:=List.mem_range.1 hi
   simp [this]
 refine pred_a Φ s os hos hB hLB row Rp sA oA dA R hoA hdA hgA hc1 hc2 (fun e=>by rw [e,Nat.beq_refl] at hc3; cases hc3) hc4 hΦ (fun i o hi his hia=>by have:=eachS_at 0 hO i o hi; rw [Nat.zero_add] at this; exact this his hia) hA k _ _ _ _ h0 ⟨.inl ⟨?_,⟨rfl,rfl,rfl,Nat.le_refl _,fun _ _=>rfl⟩⟩,rfl,rfl,by simp,fun _ _=>rfl,fun i o d hi hd hL=>?_,?_,fun j oj hj hL=>?_⟩
 ·have:sA < l.length:=(List.getElem?_eq_some_iff.1 hoA).1
  simp [this]
 ·exfalso
  have:i < l.length:=(List.getElem?_eq_some_iff.1 hi).1
  simp [this] at hL
 ·have:s < l.length:=(List.getElem?_eq_some_iff.1 hos).1
  simp [this]
 ·exfalso
  have:j < l.length:=(List.getElem?_eq_some_iff.1 hj).1
  simp [this] at hL
theorem oblR_plain {ops:Array Oper} {ds:List Tmp} {a0:Act} {w0:World} {row:Option Nat} {Φ:Tmp→Value→World→Prop} {o:Oper} (ts:List Tmp) (hg:o.guard = none) (ht:o.looksAt #[] = ts)
  (h:∀ (a:Act) (w:World),w0.grownBy w row→seenAll Φ ds a0 a w ts→uponP P w (meets Φ o.dst) ((execOp a.eval o).run P w)):OblR P ops ds a0 w0 row Φ o:=fun a w hw0 hs=>by
 have hw:Region.wanted o (yielded ops a.tmps) = true:=by
  unfold Region.wanted
  rw [hg]
 rw [if_pos hw]
 refine h a w hw0 ?_
 rw [looks_none o (by rw [hg]; rfl),ht] at hs
 exact hs
end
end Go.Proofs.YtdfdpghdjlgghaaGreat
