/-
 Gf
-/
import Derived.Test.YtdfdpghdjlgghaaGreatKdv
import Derived.Test.YtdfdpghdjlgghaaGreatKdw
namespace Go.Proofs.YtdfdpghdjlgghaaGreat
open Go.ChangeShapes Go.WideShapes Go.ChangeAt Go.RowKit
set_option linter.unusedVariables false
set_option linter.unusedSimpArgs false
set_option maxRecDepth 100000
attribute [local irreducible] Calls
structure MdF (n:Nat) (o:List Sr) (t:Int):Prop where
 box:∀ x ∈ o,x.F.length = n∧x.P.length = n∧x.U.length = n∧x.E.length = n∧AV x.F∧AV x.P∧AV x.U∧AV x.E
 ins:∀ x ∈ o,subB x.F x.U = true∧subB x.E x.U = true
 tm:∀ x ∈ o,1 ≤ x.h∧x.h ≤ 65536∧-1048576 < x.t∧x.t+x.h ≤ 1048576+65536 * o.length
 con:∀ (i:Nat) x y,o[i]? = some x→o[i+1]? = some y→y.t = x.t+x.h
 last:∀ (i:Nat) x,i+1 = o.length→o[i]? = some x→t = x.t+x.h
 tb:-1048576 < t∧t ≤ 1048576+65536 * o.length
theorem MdF.start {n:Nat} {t:Int} (h1:-1048576 < t) (h2:t ≤ 1048576):MdF n [] t :=
 ⟨fun x h=>(by cases h),fun x h=>(by cases h),fun x h=>(by cases h),fun i x y h=>(by simp at h),fun i x h=>(by simp at h),by simp; omega⟩
theorem MdF.push {n:Nat} {o:List Sr} {x:Sr} {t:Int} (h:MdF n o t) (ht:x.t = t) (hb:x.F.length = n∧x.P.length = n∧x.U.length = n∧x.E.length = n∧AV x.F∧AV x.P∧AV x.U∧AV x.E) (hi:subB x.F x.U = true∧subB x.E x.U = true) (h1:1 ≤ x.h) (h2:x.h ≤ 65536):MdF n (o ++ [x]) (t+x.h):=by
 have hl:(o ++ [x]).length = o.length+1:=by simp
 have tb:=h.tb
 refine ⟨fun y hy=>?_,fun y hy=>?_,fun y hy=>?_,fun i y z hy hz=>?_,fun i y hi hy=>?_,?_⟩
 ·rcases List.mem_append.1 hy with hy | hy
  ·exact h.box y hy
  ·obtain rfl:y = x:=by simpa using hy
   exact hb
 ·rcases List.mem_append.1 hy with hy | hy
  ·exact h.ins y hy
  ·obtain rfl:y = x:=by simpa using hy
   exact hi
 ·rw [hl]
  rcases List.mem_append.1 hy with hy | hy
  ·have:=h.tm y hy
   omega
  ·obtain rfl:y = x:=by simpa using hy
   omega
 ·have hk:=(List.getElem?_eq_some_iff.1 hz).1
  rw [hl] at hk
  rw [List.getElem?_append_left (by omega)] at hy
  by_cases e:i+1 < o.length
  ·rw [List.getElem?_append_left e] at hz
   exact h.con i y z hy hz
  ·obtain e2:i+1 = o.length:=by omega
   rw [e2,List.getElem?_concat_length] at hz
   obtain rfl:=Option.some.inj hz
   rw [ht]
   exact h.last i y e2 hy
 ·rw [hl] at hi
  obtain rfl:i = o.length:=by omega
  rw [List.getElem?_concat_length] at hy
  obtain rfl:=Option.some.inj hy
  rw [ht]
 ·rw [hl]
  omega
theorem MdF.flow {n:Nat} {o:List Sr} {t:Int} (h:MdF n o t) (n1:1 ≤ n) (n6:n ≤ 6) (hl:o.length ≤ 8):FlG n o :=
 ⟨n1,n6,by omega,h.box,fun x hx=>by
  have:=h.tm x hx
  omega,h.con⟩

structure OwS (B:Nat) (W:World) (x:Sr):Prop where
 f:OwI B W x.fp x.fc x.F
 p:OwI B W x.pp x.pc x.P
 u:OwI B W x.up x.uc x.U
 e:OwI B W x.ep x.ec x.E
theorem OwS.grow {B:Nat} {W W':World} {x:Sr} (h:OwS B W x) (hB:Below W.heap.size W W'):OwS B W' x:=⟨own_keptN h.f hB,own_keptN h.p hB,own_keptN h.u hB,own_keptN h.e hB⟩
structure OwF (B:Nat) (W:World) (v:Value) (l:List Sr):Prop where
 row:W.ownsRow B 39 6 v l.length (cr encSr l)
 el:∀ x ∈ l,OwS B W x
theorem OwF.grow {B:Nat} {W W':World} {v:Value} {l:List Sr} (h:OwF B W v l) (hB:Below W.heap.size W W'):OwF B W' v l:=⟨own_keptN h.row hB,fun x hx=>(h.el x hx).grow hB⟩
theorem OwF.fx {B:Nat} {W:World} {v:Value} {l:List Sr} (h:OwF B W v l) (hl:l.length ≤ 256) (hb:∀ x ∈ l,x.F.length ≤ 6∧x.P.length ≤ 6∧x.U.length ≤ 6∧x.E.length ≤ 6):Fx W v l :=
 ⟨Rx.own encSr_len h.row (by unfold maxLen; omega),fun x hx=>⟨(h.el x hx).f.vx (by have:=hb x hx; omega),(h.el x hx).p.vx (by have:=hb x hx; omega),(h.el x hx).u.vx (by have:=hb x hx; omega),(h.el x hx).e.vx (by have:=hb x hx; omega)⟩⟩
theorem OwF.push {B:Nat} {W W':World} {v v':Value} {l:List Sr} {x:Sr} (h:OwF B W v l) (hx:OwS B W x) (ho:W'.ownsRow B 39 6 v' (l.length+1) (cr encSr l ++ encSr x)) (hg:W.grownBy W' v.ownBlock):OwF B W' v' (l ++ [x]):=by
 have key:∀ {p c k},OwI B W p c k→OwI B W' p c k:=fun hk=>hk.kept hg (ot_ne (by decide) hk h.row)
 have kS:∀ {y},OwS B W y→OwS B W' y:=fun hy=>⟨key hy.f,key hy.p,key hy.u,key hy.e⟩
 refine ⟨by rw [List.length_append,cr_snoc]; exact ho,fun y hy=>?_⟩
 rcases List.mem_append.1 hy with hy | hy
 ·exact kS (h.el y hy)
 ·obtain rfl:y = x:=by simpa using hy
  exact kS hx
theorem info_sg14:(Tryz.prog.info? 39).map (fun i=>(i.zero,i.size,i.bytes)) = some (some (.agg #[.int .i64 0,.int .i64 0,.slice none 0 0,.slice none 0 0,.slice none 0 0,.slice none 0 0]),6,112):=by kernel_rfl
theorem sg_at {W:World} {X:Nat} (x:Sr) (h:W.heap[X]? = some (.cells #[.int .i64 x.t,.int .i64 x.h,.slice x.fp x.F.length x.fc,.slice x.pp x.P.length x.pc,.slice x.up x.U.length x.uc,.slice x.ep x.E.length x.ec] 39 (0,0))):∀ j u,(encSr x)[j]? = some u→W.cell? ((⟨X,0,none⟩:Addr).add j) = some u:=by
 intro j u hj
 have hk:j < 6:=by have:=(List.getElem?_eq_some_iff.1 hj).1; simpa [encSr] using this
 unfold encSr at hj
 rcases (show j = 0 ∨ j = 1 ∨ j = 2 ∨ j = 3 ∨ j = 4 ∨ j = 5 by omega) with rfl | rfl | rfl | rfl | rfl | rfl <;> simp at hj <;> subst hj <;> simp [World.cell?,Addr.add,h]
theorem sg_one (x:Sr):∀ u ∈ encSr x,u.oneCell' = true:=by
 intro u hu
 simp [encSr] at hu
 rcases hu with rfl | rfl | rfl | rfl | rfl | rfl <;> rfl
theorem own_emptyS (W:World):(W.alloc (.cells #[] 39)).ownsRow W.heap.size 39 6 (.slice (some ⟨W.heap.size,0,none⟩) 0 0) 0 [] :=
 World.ownsRow_made W #[] 0 (Nat.le_refl _) (Nat.zero_le _) rfl
def hI14 (h:Int):Int:=1+(h.tmod 65536+65536) % 65536
theorem hI14_bd (h:Int):1 ≤ hI14 h∧hI14 h ≤ 65536∧-65536 < h.tmod 65536∧h.tmod 65536 < 65536:=by
 have h1:=Int.tmod_lt_of_pos h (b:=65536) (by decide)
 have h2:-65536 < h.tmod 65536:=by
  have:=Int.tmod_lt_of_pos (-h) (b:=65536) (by decide)
  rw [Int.neg_tmod] at this
  omega
 unfold hI14
 omega
theorem near_vi (p:Int × Int):Num (nearI p 200000).1∧Num (nearI p 200000).2∧(nearI p 200000).1 ≤ (nearI p 200000).2:=by
 have:=near_bd p (d:=200000) (by decide)
 unfold Num
 omega
theorem box14_vi (l:List (Int × Int)) (n:Nat):∀ p ∈ boxI l n 200000,Num p.1∧Num p.2∧p.1 ≤ p.2:=by
 intro p hp
 unfold boxI at hp
 obtain ⟨i,_,rfl⟩:=List.mem_map.1 hp
 exact near_vi _
theorem part14_vi {l m:List (Int × Int)} (h:∀ p ∈ l,Num p.1∧Num p.2∧p.1 ≤ p.2):AV (prtL l m l.length)∧subB (prtL l m l.length) l = true:=by
 have key:∀ (k:Nat) (z:Int × Int),(prtL l m l.length)[k]? = some z→∃ x,l[k]? = some x∧z = prtI x (m.getD k (0,0)):=by
  intro k z hz
  obtain ⟨hk,rfl⟩:=prtL_at hz
  exact ⟨l[k],List.getElem?_eq_getElem hk,by rw [List.getD_eq_getElem?_getD,List.getElem?_eq_getElem hk]; rfl⟩
 constructor
 ·intro z hz
  obtain ⟨k,hk⟩:=List.getElem?_of_mem hz
  obtain ⟨x,hx,rfl⟩:=key k z hk
  obtain ⟨h1,h2,h3⟩:=h x (List.mem_of_getElem? hx)
  have:=prt_in (q:=m.getD k (0,0)) h3
  unfold Num at h1 h2
  exact .inr ⟨⟨by omega,by omega⟩,⟨by omega,by omega⟩,by omega⟩
 ·rw [subB_iff (by rw [prtL_len])]
  intro k z y hz hy
  obtain ⟨x,hx,rfl⟩:=key k z hz
  rw [hx] at hy
  obtain rfl:=Option.some.inj hy
  have:=prt_in (q:=m.getD k (0,0)) (h x (List.mem_of_getElem? hx)).2.2
  omega
set_option maxHeartbeats 32000000 in
theorem made14_nil (vl:Value) (l:List Sr) (n:Nat) (w:World) (hl:Zx w vl l) (hx:∀ x ∈ l,SrW w x) (n1:1 ≤ n) (n6:n ≤ 6) (hl0:l = []) :
  Calls Tryz.prog 34 #[vl,.int .i64 n,.int .i64 8] w fun e w'=>∃ p c o,e = .returned (.slice p o.length c)∧OwF w.heap.size w' (.slice p o.length c) o∧(∃ t,MdF n o t)∧1 ≤ o.length∧o.length ≤ 8∧Below w.heap.size w w':=by
 obtain ⟨i0,hi,hz0,hz1,hz2⟩:=info_parts info_sg14
 obtain ⟨pl,cl,rfl⟩:=hl.cut
 have hm:=hl.1
 unfold maxLen at hm
 have HL:=Lib.hid hl
 have HX:=Lib.hid hx
 have H0:=Lib.hid (own_emptyS w)
 have B0:Below w.heap.size w (w.alloc (.cells #[] 39)):=(Below.refl _ _).alloc (Nat.le_refl _) _
 have HB:=Lib.hid B0
 have HN:=Lib.hid (And.intro n1 n6)
 clear hl B0 hx
 subst hl0
 go_enter Tryz.func34,Tryz.ntmps34
 go_wp2_with (fail)
 go_loopw [7,8,9] (fun v t i wr=>∃ (k:Nat) (o:List Sr) (tt:Int),t = .int .i64 tt∧i = .int .i64 k∧k ≤ 1∧o.length = k∧OwF w.heap.size wr v o∧Hid (MdF n o tt)∧Below w.heap.size w wr) (fun v t i _=>1 - (intOf i).toNat)
 case atStart=>exact ⟨0,[],0,rfl,rfl,Nat.zero_le _,rfl,⟨H0.out,fun x h=>by cases h⟩,Lib.hid (MdF.start (by decide) (by decide)),HB.out⟩
 case round =>
  clear H0 HB
  obtain ⟨k,o,tt,rfl,rfl,hk,hol,hrow,HMD,hB⟩:=hrel
  have HOL:=Lib.hid hol
  have hrr:=hrow.row
  rw [hol] at hrr
  obtain ⟨pv,cv,rfl⟩:=own_slice hrr
  clear hrr
  have HR:=Lib.hid hrow
  have HBr:=Lib.hid hB
  have hsr:=hB.size
  have htb:=HMD.out.tb
  rw [hol] at htb
  clear hrow hB hol
  by_cases hlt:k < 1
  ·have i2:(k:Int) < 1:=by omega
   have i3:(0:Int) ≤ k:=by omega
   have s1:Vx w (.slice none 0 0) []:=Rx.nil _ _ _
   have s3:=s1
   have s4:=s1
   obtain ⟨hb1,hb2,hb3,hb4⟩:=hI14_bd 0
   have s2:=trivial
   have s5:=trivial
   have s6:=trivial
   have s7:=trivial
   have s8:=trivial
   have s9:=trivial
   have s10:=trivial
   have e1:IntKind.i64.wrap ((0:Int).tmod 65536) = (0:Int).tmod 65536:=wrapN _ (by omega) (by omega)
   have e2:IntKind.i64.wrap ((0:Int).tmod 65536+65536) = (0:Int).tmod 65536+65536:=wrapN _ (by omega) (by omega)
   have e3:0 ≤ (0:Int).tmod 65536+65536:=by omega
   have KB:=Lib.hid (fun w hv=>box14_ok (.slice none 0 0) [] n w hv HN.out.2)
   obtain ⟨W6,hW6⟩:∃ W6,wr.alloc (.cells #[.int .i64 0,.int .i64 0,.slice none 0 0,.slice none 0 0,.slice none 0 0,.slice none 0 0] 39) = W6:=⟨_,rfl⟩
   have hb6:Below wr.heap.size wr W6:=by rw [← hW6]; exact (Below.refl _ _).alloc (Nat.le_refl _) _
   have hs6:Blk W6 wr.heap.size (.cells #[.int .i64 0,.int .i64 0,.slice none 0 0,.slice none 0 0,.slice none 0 0,.slice none 0 0] 39):=by rw [← hW6]; exact World.alloc_heap_new wr _
   have HS6:=Lib.hid hs6
   have HB6:=Lib.hid (below_then HBr.out hb6)
   have HR6:=Lib.hid (HR.out.grow hb6)
   have HSF:=Lib.hid (show Vx w (.slice none 0 0) [] from s1)
   have HSU:=Lib.hid (show Vx w (.slice none 0 0) [] from s3)
   have HSE:=Lib.hid (show Vx w (.slice none 0 0) [] from s4)
   have y1:=heapN_cellj hs6 (k:=1) rfl
   have y4:=heapN_cellj hs6 (k:=4) rfl
   clear s1 s2 s3 s4 s5 s6 s7 s8 s9 s10 hb6 hs6 HR
   subst hW6
   go_wp2_with (fail)
   generalize hW6:World.alloc wr _ = W6 at *
   refine (KB.out _ (HSU.out.grow HB6.out)).mono ?_
   rintro e w7 ⟨p7,c7,rfl,ho7,hB7⟩
   have HB7:=Lib.hid (below_then HB6.out hB7)
   have HR7:=Lib.hid (HR6.out.grow hB7)
   have HS7:=Lib.hid (HS6.out.grow hB7)
   have HO7:=Lib.hid (own_base ho7 HB6.out.size)
   obtain ⟨B,hBe⟩:∃ B,boxI [] n 200000 = B:=⟨_,rfl⟩
   have hBl:B.length = n:=by rw [← hBe,boxI_len]
   have hBv:∀ p ∈ B,Num p.1∧Num p.2∧p.1 ≤ p.2:=by rw [← hBe]; exact box14_vi _ _
   rw [hBe] at HO7
   have HOB:Hid (OwI w.heap.size w7 p7 c7 B):=Lib.hid (by show w7.ownsRow _ _ _ _ _ _; rw [hBl]; exact HO7.out)
   have HBV:=Lib.hid hBv
   have HBL:=Lib.hid hBl
   have HVB:=Lib.hid (OwI.vx HOB.out (by omega))
   have KP:=Lib.hid (fun v m w (a:Vx w (.slice p7 n c7) B) b=>part14_ok (.slice p7 n c7) v B m w a b (by have:=HN.out.2; omega) HBV.out)
   rw [hBl] at HVB KP
   clear ho7 hB7 hBe hBv hBl y1 y4 hW6 KB HO7 e1 e2 e3
   go_wp2_with (fail)
   obtain ⟨hh,hhe⟩:∃ hh:Int,hh = 1:=⟨_,rfl⟩
   have hh1:1 ≤ hh∧hh ≤ 65536:=by omega
   clear hhe hb3 hb4
   have a0:=fun g:Grown w7=>heapN_cellj (HS7.out.grow g.h) (k:=0) rfl
   have a1:=fun g:Grown w7=>heapN_cellj (HS7.out.grow g.h) (k:=1) rfl
   have a2:=fun g:Grown w7=>heapN_cellj (HS7.out.grow g.h) (k:=2) rfl
   have a3:=fun g:Grown w7=>heapN_cellj (HS7.out.grow g.h) (k:=3) rfl
   have a4:=fun g:Grown w7=>heapN_cellj (HS7.out.grow g.h) (k:=4) rfl
   have a5:=fun g:Grown w7=>heapN_cellj (HS7.out.grow g.h) (k:=5) rfl
   refine region_pred_n 15 (lk [(50,fun z_ _=>z_ = .slice pv k cv),(51,fun z_ _=>z_ = .int .i64 tt),(52,fun z_ _=>z_ = .int .i64 1),(53,fun z_ _=>z_ = .slice p7 n c7),(54,fun z_ _=>z_ = .pointer (some ⟨wr.heap.size,2,none⟩)),(55,fun z_ _=>z_ = .slice none 0 0),(56,fun z_ w'=>∃ p_ c_,z_ = .slice p_ n c_∧w'.ownsRow w.heap.size 66 2 (.slice p_ n c_) n (cr encB (prtL B [] n))),(57,fun z_ _=>z_ = .slice p7 n c7),(58,fun z_ _=>z_ = .slice p7 n c7),(59,fun z_ _=>z_ = .slice p7 n c7),(60,fun z_ _=>z_ = .pointer (some ⟨wr.heap.size,5,none⟩)),(61,fun z_ _=>z_ = .slice none 0 0),(62,fun z_ w'=>∃ p_ c_,z_ = .slice p_ n c_∧w'.ownsRow w.heap.size 66 2 (.slice p_ n c_) n (cr encB (prtL B [] n))),(63,fun z_ w'=>∃ p1_ c1_ p2_ c2_,z_ = .agg #[.int .i64 tt,.int .i64 1,.slice p1_ n c1_,.slice p7 n c7,.slice p7 n c7,.slice p2_ n c2_]∧w'.ownsRow w.heap.size 66 2 (.slice p1_ n c1_) n (cr encB (prtL B [] n))∧w'.ownsRow w.heap.size 66 2 (.slice p2_ n c2_) n (cr encB (prtL B [] n))),(64,fun z_ w'=>∃ X_ p1_ c1_ p2_ c2_,z_ = .slice (some ⟨X_,0,none⟩) 1 1∧w7.heap.size ≤ X_∧w'.heap[X_]? = some (.cells #[.int .i64 tt,.int .i64 1,.slice p1_ n c1_,.slice p7 n c7,.slice p7 n c7,.slice p2_ n c2_] 39 (0,0))∧w'.ownsRow w.heap.size 66 2 (.slice p1_ n c1_) n (cr encB (prtL B [] n))∧w'.ownsRow w.heap.size 66 2 (.slice p2_ n c2_) n (cr encB (prtL B [] n)))]) (by kernel_rfl) (by kernel_rfl) (lk_steady _ ⟨steady_eq _,steady_eq _,steady_eq _,steady_eq _,steady_eq _,steady_eq _,fun u w1 w2 hb ⟨p,c,e,h⟩=>⟨p,c,e,own_keptN h hb⟩,steady_eq _,steady_eq _,steady_eq _,steady_eq _,steady_eq _,fun u w1 w2 hb ⟨p,c,e,h⟩=>⟨p,c,e,own_keptN h hb⟩,fun u w1 w2 hb ⟨a,b,c,d,e,h1,h2⟩=>⟨a,b,c,d,e,own_keptN h1 hb,own_keptN h2 hb⟩,fun u w1 w2 hb ⟨X,a,b,c,d,e,h1,h2,h3,h4⟩=>⟨X,a,b,c,d,e,h1,(hb.block X (Array.getElem?_eq_some_iff.1 h2).1).trans h2,own_keptN h3 hb,own_keptN h4 hb⟩,trivial⟩) ?_ ?_
   ·refine ⟨?_,?_,?_,?_,?_,?_,?_,?_,?_,?_,?_,?_,?_,?_,?_,trivial⟩
    ·refine ob_plain [7] rfl rfl fun aa g h=>?_
     have yy0:=seen_out (v:=.slice pv k cv) rfl rfl h.1
     exact tvS (by simp [go_sem,yy0]) rfl
    ·refine ob_plain [8] rfl rfl fun aa g h=>?_
     have yy0:=seen_out (v:=.int .i64 tt) rfl rfl h.1
     exact tvS (by simp [go_sem,yy0]) rfl
    ·refine ob_plain [11] rfl rfl fun aa g h=>?_
     have yy0:=seen_out (v:=.int .i64 1) rfl rfl h.1
     exact tvS (by simp [go_sem,yy0]) rfl
    ·refine ob_plain [12] rfl rfl fun aa g h=>?_
     have yy0:=seen_out (v:=.slice p7 n c7) rfl rfl h.1
     exact tvS (by simp [go_sem,yy0]) rfl
    ·refine ob_plain [10] rfl rfl fun aa g h=>?_
     have yy0:=seen_out (v:=.pointer (some ⟨wr.heap.size,0,none⟩)) rfl rfl h.1
     exact tvS (by simp [go_sem,yy0]) rfl
    ·refine ob_plain [54] rfl rfl fun aa g h=>?_
     obtain ⟨_,yy0,rfl⟩:=seen_in rfl h.1
     exact tvS (by simp [go_sem,yy0,a2 g]) rfl
    ·refine ob_plain [53,55] rfl rfl fun aa g h=>?_
     obtain ⟨_,yy0,rfl⟩:=seen_in rfl h.1
     obtain ⟨_,yy1,rfl⟩:=seen_in rfl h.2.1
     refine tupon_enter (f:=78) (args:=#[.slice p7 n c7,.slice none 0 0]) (by simp [go_sem,yy0,yy1]) rfl ?_
     exact (KP.out (.slice none 0 0) [] g.w (HVB.out.grow g.h) (HSF.out.grow (HB7.out.trans (g.h.mono HB7.out.size)))).mono fun e w' ⟨p_,c_,he,ho,hB⟩=>⟨_,he,hB,⟨_,_,rfl,own_base ho (Nat.le_trans HB7.out.size g.h.size)⟩⟩
    ·refine ob_plain [12] rfl rfl fun aa g h=>?_
     have yy0:=seen_out (v:=.slice p7 n c7) rfl rfl h.1
     exact tvS (by simp [go_sem,yy0]) rfl
    ·refine ob_plain [12] rfl rfl fun aa g h=>?_
     have yy0:=seen_out (v:=.slice p7 n c7) rfl rfl h.1
     exact tvS (by simp [go_sem,yy0]) rfl
    ·refine ob_plain [12] rfl rfl fun aa g h=>?_
     have yy0:=seen_out (v:=.slice p7 n c7) rfl rfl h.1
     exact tvS (by simp [go_sem,yy0]) rfl
    ·refine ob_plain [10] rfl rfl fun aa g h=>?_
     have yy0:=seen_out (v:=.pointer (some ⟨wr.heap.size,0,none⟩)) rfl rfl h.1
     exact tvS (by simp [go_sem,yy0]) rfl
    ·refine ob_plain [60] rfl rfl fun aa g h=>?_
     obtain ⟨_,yy0,rfl⟩:=seen_in rfl h.1
     exact tvS (by simp [go_sem,yy0,a5 g]) rfl
    ·refine ob_plain [59,61] rfl rfl fun aa g h=>?_
     obtain ⟨_,yy0,rfl⟩:=seen_in rfl h.1
     obtain ⟨_,yy1,rfl⟩:=seen_in rfl h.2.1
     refine tupon_enter (f:=78) (args:=#[.slice p7 n c7,.slice none 0 0]) (by simp [go_sem,yy0,yy1]) rfl ?_
     exact (KP.out (.slice none 0 0) [] g.w (HVB.out.grow g.h) (HSE.out.grow (HB7.out.trans (g.h.mono HB7.out.size)))).mono fun e w' ⟨p_,c_,he,ho,hB⟩=>⟨_,he,hB,⟨_,_,rfl,own_base ho (Nat.le_trans HB7.out.size g.h.size)⟩⟩
    ·refine ob_plain [51,52,56,57,58,62] rfl rfl fun aa g h=>?_
     obtain ⟨_,yy0,rfl⟩:=seen_in rfl h.1
     obtain ⟨_,yy1,rfl⟩:=seen_in rfl h.2.1
     obtain ⟨_,yy2,⟨p56,c56,rfl,ho56⟩⟩:=seen_in rfl h.2.2.1
     obtain ⟨_,yy3,rfl⟩:=seen_in rfl h.2.2.2.1
     obtain ⟨_,yy4,rfl⟩:=seen_in rfl h.2.2.2.2.1
     obtain ⟨_,yy5,⟨p62,c62,rfl,ho62⟩⟩:=seen_in rfl h.2.2.2.2.2.1
     exact tupon_value (v:=.agg #[.int .i64 tt,.int .i64 1,.slice p56 n c56,.slice p7 n c7,.slice p7 n c7,.slice p62 n c62]) (by simp [go_sem,yy0,yy1,yy2,yy3,yy4,yy5]) (Below.refl _ _) ⟨_,_,_,_,rfl,ho56,ho62⟩
    ·refine ob_plain [63] rfl rfl fun aa g h=>?_
     obtain ⟨_,yy0,⟨p1,c1,p2,c2,rfl,k1,k2⟩⟩:=seen_in rfl h.1
     exact tupon_value (v:=.slice (some ⟨g.w.heap.size,0,none⟩) 1 1) (w1:=g.w.alloc (.cells #[.int .i64 tt,.int .i64 1,.slice p1 n c1,.slice p7 n c7,.slice p7 n c7,.slice p2 n c2] 39)) (by simp [go_sem,yy0]) ((Below.refl _ _).alloc (Nat.le_refl _) _) ⟨_,_,_,_,_,rfl,g.h.size,World.alloc_heap_new _ _,k1.alloc _,k2.alloc _⟩
   rintro w8 hB _ rfl _ rfl _ rfl _ rfl _ rfl _ rfl _ ⟨p56,c56,rfl,ho56⟩ _ rfl _ rfl _ rfl _ rfl _ rfl _ ⟨p62,c62,rfl,ho62⟩ _ ⟨p1,c1,p2,c2,rfl,k1,k2⟩ _ ⟨X64,q1,d1,q2,d2,rfl,hX64,hI64,j1,j2⟩
   simp only [Act.put,List.setIfInBounds_toArray,List.set_cons_succ,List.set_cons_zero,finP,List.drop_succ_cons,List.drop_zero,List.take_zero,List.filterMap_nil]
   have HB8:=Lib.hid (below_then HB7.out hB)
   have HR8:=Lib.hid (HR7.out.grow hB)
   have HOB8:=Lib.hid (own_keptN HOB.out hB)
   obtain ⟨y,hy⟩:∃ y:Sr,y = ⟨tt,1,q1,p7,p7,q2,d1,c7,c7,d2,prtL B [] n,B,B,prtL B [] n⟩:=⟨_,rfl⟩
   have hbl:=HBL.out
   have hys:OwS w.heap.size w8 y:=by
    subst hy
    exact ⟨by show w8.ownsRow _ _ _ _ _ _; dsimp only; rw [prtL_len]; exact j1,HOB8.out,HOB8.out,by show w8.ownsRow _ _ _ _ _ _; dsimp only; rw [prtL_len]; exact j2⟩
   have HYS:=Lib.hid hys
   have hya:∀ j u,(encSr y)[j]? = some u→w8.cell? ((⟨X64,0,none⟩:Addr).add j) = some u:=sg_at y (by subst hy; dsimp only; simp only [prtL_len,hbl]; exact hI64)
   have hyb:y.F.length = n∧y.P.length = n∧y.U.length = n∧y.E.length = n∧AV y.F∧AV y.P∧AV y.U∧AV y.E:=by
    subst hy
    have hB:=HBV.out
    have hb:AV B:=fun p hp=>.inr (hB p hp)
    have h1:=(part14_vi (m:=[]) hB).1
    have h2:=(part14_vi (m:=[]) hB).1
    rw [hbl] at h1 h2
    exact ⟨prtL_len _ _ _,hbl,hbl,prtL_len _ _ _,h1,hb,hb,h2⟩
   have hyi:subB y.F y.U = true∧subB y.E y.U = true:=by
    subst hy
    have h1:=(part14_vi (m:=[]) HBV.out).2
    have h2:=(part14_vi (m:=[]) HBV.out).2
    rw [hbl] at h1 h2
    exact ⟨h1,h2⟩
   have HMP:Hid (MdF n (o ++ [y]) (tt+1)):=Lib.hid (by
    have:=HMD.out.push (x:=y) (by rw [hy]) hyb hyi (by rw [hy]; dsimp only; omega) (by rw [hy]; dsimp only; omega)
    rw [hy] at this ⊢
    exact this)
   have HYA:=Lib.hid hya
   have hrr:=HR8.out.row
   rw [HOL.out] at hrr
   have HRR:=Lib.hid hrr
   clear hrr
   have hs8:=HB8.out.size
   clear hB hys hya hyb hyi hy hI64 j1 j2 a0 a1 a2 a3 a4 a5 KP k1 k2 ho56 ho62
   go_wp2_with (at_builtin; refine wpList_append_own _ rfl (.tmp 50) (.tmp 64) 52 rfl w.heap.size 39 i0 (.agg #[.int .i64 0,.int .i64 0,.slice none 0 0,.slice none 0 0,.slice none 0 0,.slice none 0 0]) 6 112 Tryz.underlying52 hi hz0 hz1 hz2 rfl (by decide) (.slice pv k cv) k _ rfl HRR.out ⟨X64,0,none⟩ 1 1 (encSr y) rfl rfl HYA.out (sg_one y) (by unfold maxLen; omega) (by omega) (by omega) ?_)
   intro v' w9 hown' hgrow _
   have hB9:Below w.heap.size w w9:=Below.grown HB8.out hgrow (by omega) (fun i hi=>(HRR.out.lt i hi).1)
   have hF9:OwF w.heap.size w9 v' (o ++ [y]):=HR8.out.push HYS.out (by rw [HOL.out]; exact hown') hgrow
   obtain ⟨p9,c9,rfl⟩:=own_slice hown'
   have HF9:=Lib.hid hF9
   have HB9:=Lib.hid hB9
   clear hown' hgrow hB9 hF9
   go_wp2_with (fail)
   go_roundw
   case rel=>exact ⟨k+1,o ++ [y],tt+1,rfl,by go_num,by omega,by simp [HOL.out],HF9.out,HMP,HB9.out⟩
   case measure=>simp [intOf]; omega
  ·obtain rfl:k = 1:=by omega
   go_wp2_with (fail)
   go_ret
   exact ⟨pv,cv,o,(by rw [HOL.out]; first | done | rfl),by rw [HOL.out]; exact HR.out,⟨tt,HMD.out⟩,by rw [HOL.out]; omega,by rw [HOL.out]; omega,HBr.out⟩
attribute [local go_sem ↓] run_min_two run_max_two
set_option maxHeartbeats 64000000 in
theorem made14_cons (vl:Value) (l:List Sr) (n:Nat) (w:World) (hl:Zx w vl l) (hx:∀ x ∈ l,SrW w x) (n1:1 ≤ n) (n6:n ≤ 6) (hl0:0 < l.length) :
  Calls Tryz.prog 34 #[vl,.int .i64 n,.int .i64 8] w fun e w'=>∃ p c o,e = .returned (.slice p o.length c)∧OwF w.heap.size w' (.slice p o.length c) o∧(∃ t,MdF n o t)∧1 ≤ o.length∧o.length ≤ 8∧Below w.heap.size w w':=by
 obtain ⟨i0,hi,hz0,hz1,hz2⟩:=info_parts info_sg14
 obtain ⟨pl,cl,rfl⟩:=hl.cut
 have hm:=hl.1
 unfold maxLen at hm
 have HL:=Lib.hid hl
 have HX:=Lib.hid hx
 have H0:=Lib.hid (own_emptyS w)
 have B0:Below w.heap.size w (w.alloc (.cells #[] 39)):=(Below.refl _ _).alloc (Nat.le_refl _) _
 have HB:=Lib.hid B0
 have HN:=Lib.hid (And.intro n1 n6)
 clear hl B0 hx
 obtain ⟨K,hK⟩:∃ K:Nat,max (1:Int) (min (l.length:Int) 8) = K:=⟨max 1 (min l.length 8),by omega⟩
 have HK1:=Lib.hid (show 1 ≤ K∧K ≤ 8 by omega)
 have hi0:(0:Int) < (l.length:Int):=by omega
 obtain ⟨x0,hx0⟩:∃ x,l[0]? = some x:=⟨_,List.getElem?_eq_getElem hl0⟩
 obtain ⟨bl,ol,rfl,hbl,rdl⟩:=zx_rd HL.out hx0
 have f0:=(rdl ⟨w.alloc (.cells #[] 39),HB.out⟩).1
 rw [Nat.zero_mul,Nat.add_zero] at f0
 dsimp only at f0
 have hw0:=(HX.out x0 (List.mem_of_getElem? hx0)).2.1
 obtain ⟨T0,hT0⟩:∃ t,x0.t = t:=⟨_,rfl⟩
 rw [hT0] at f0 hw0
 unfold W64 at hw0
 have ht1:=Int.tmod_lt_of_pos T0 (b:=1048576) (by decide)
 have ht2:-1048576 < T0.tmod 1048576:=by
  have:=Int.tmod_lt_of_pos (-T0) (b:=1048576) (by decide)
  rw [Int.neg_tmod] at this
  omega
 have e0:IntKind.i64.wrap (T0.tmod 1048576) = T0.tmod 1048576:=wrapN _ (by omega) (by omega)
 clear rdl hx0 hT0 hw0 hbl
 go_enter Tryz.func34,Tryz.ntmps34
 go_wp2_with (fail)
 clear f0 e0
 go_loopw [7,8,9] (fun v t i wr=>∃ (k:Nat) (o:List Sr) (tt:Int),t = .int .i64 tt∧i = .int .i64 k∧k ≤ K∧o.length = k∧OwF w.heap.size wr v o∧Hid (MdF n o tt)∧Below w.heap.size w wr) (fun v t i _=>K - (intOf i).toNat)
 case atStart=>exact ⟨0,[],_,rfl,rfl,Nat.zero_le _,rfl,⟨H0.out,fun x h=>by cases h⟩,Lib.hid (MdF.start ht2 (by omega)),HB.out⟩
 case round =>
  clear H0 HB ht1 ht2
  obtain ⟨k,o,tt,rfl,rfl,hk,hol,hrow,HMD,hB⟩:=hrel
  have HOL:=Lib.hid hol
  have hrr:=hrow.row
  rw [hol] at hrr
  obtain ⟨pv,cv,rfl⟩:=own_slice hrr
  clear hrr
  have HR:=Lib.hid hrow
  have HBr:=Lib.hid hB
  have hsr:=hB.size
  have htb:=HMD.out.tb
  rw [hol] at htb
  clear hrow hB hol
  by_cases hlt:k < K
  ·have i2:(k:Int) < K:=by omega
   have hk8:k+1 ≤ 8:=by have:=HK1.out; omega
   by_cases hll:k < l.length
   ·have i3:(k:Int) < l.length:=by omega
    obtain ⟨x,hx⟩:∃ x,l[k]? = some x:=⟨_,List.getElem?_eq_getElem hll⟩
    obtain ⟨b',o',hp',hbl',rdl⟩:=zx_rd HL.out hx
    have hq':bl = b'∧ol = o':=by simpa using hp'
    obtain ⟨f0,f1,f2,f3,f4,f5⟩:=rdl ⟨wr.alloc (.cells #[.int .i64 0,.int .i64 0,.slice none 0 0,.slice none 0 0,.slice none 0 0,.slice none 0 0] 39),HBr.out.alloc hsr _⟩
    have hsx:=HX.out x (List.mem_of_getElem? hx)
    obtain ⟨rfl,rfl⟩:=hq'
    clear rdl hx hp' hbl'
    obtain ⟨⟨s1,s2,s3,s4⟩,s5,s6,s7,s8,s9,s10⟩:=hsx
    obtain ⟨T,H,fp,pp,up,ep,fc,pc,uc,ec,F,P,U,E⟩:=x
    dsimp only at *
    obtain ⟨hb1,hb2,hb3,hb4⟩:=hI14_bd H
    unfold hI14 at hb1 hb2
    have e1:IntKind.i64.wrap ((H:Int).tmod 65536) = (H:Int).tmod 65536:=wrapN _ (by omega) (by omega)
    have e2:IntKind.i64.wrap ((H:Int).tmod 65536+65536) = (H:Int).tmod 65536+65536:=wrapN _ (by omega) (by omega)
    have e3:0 ≤ (H:Int).tmod 65536+65536:=by omega
    have KB:=Lib.hid (fun w hv=>box14_ok (.slice up U.length uc) U n w hv HN.out.2)
    obtain ⟨W6,hW6⟩:∃ W6,wr.alloc (.cells #[.int .i64 T,.int .i64 H,.slice fp F.length fc,.slice pp P.length pc,.slice up U.length uc,.slice ep E.length ec] 39) = W6:=⟨_,rfl⟩
    have hb6:Below wr.heap.size wr W6:=by rw [← hW6]; exact (Below.refl _ _).alloc (Nat.le_refl _) _
    have hs6:Blk W6 wr.heap.size (.cells #[.int .i64 T,.int .i64 H,.slice fp F.length fc,.slice pp P.length pc,.slice up U.length uc,.slice ep E.length ec] 39):=by rw [← hW6]; exact World.alloc_heap_new wr _
    have HS6:=Lib.hid hs6
    have HB6:=Lib.hid (below_then HBr.out hb6)
    have HR6:=Lib.hid (HR.out.grow hb6)
    have HSF:=Lib.hid (show Vx w (.slice fp F.length fc) F from s1)
    have HSU:=Lib.hid (show Vx w (.slice up U.length uc) U from s3)
    have HSE:=Lib.hid (show Vx w (.slice ep E.length ec) E from s4)
    have y1:=heapN_cellj hs6 (k:=1) rfl
    have y4:=heapN_cellj hs6 (k:=4) rfl
    clear s1 s2 s3 s4 s5 s6 s7 s8 s9 s10 hb6 hs6 HR
    go_wp2_with (fail)
    refine (KB.out _ (HSU.out.grow HB6.out)).mono ?_
    rintro e w7 ⟨p7,c7,rfl,ho7,hB7⟩
    have HB7:=Lib.hid (below_then HB6.out hB7)
    have HR7:=Lib.hid (HR6.out.grow hB7)
    have HS7:=Lib.hid (HS6.out.grow hB7)
    have HO7:=Lib.hid (own_base ho7 HB6.out.size)
    obtain ⟨B,hBe⟩:∃ B,boxI U n 200000 = B:=⟨_,rfl⟩
    have hBl:B.length = n:=by rw [← hBe,boxI_len]
    have hBv:∀ p ∈ B,Num p.1∧Num p.2∧p.1 ≤ p.2:=by rw [← hBe]; exact box14_vi _ _
    rw [hBe] at HO7
    have HOB:Hid (OwI w.heap.size w7 p7 c7 B):=Lib.hid (by show w7.ownsRow _ _ _ _ _ _; rw [hBl]; exact HO7.out)
    have HBV:=Lib.hid hBv
    have HBL:=Lib.hid hBl
    have HVB:=Lib.hid (OwI.vx HOB.out (by omega))
    have KP:=Lib.hid (fun v m w (a:Vx w (.slice p7 n c7) B) b=>part14_ok (.slice p7 n c7) v B m w a b (by have:=HN.out.2; omega) HBV.out)
    rw [hBl] at HVB KP
    clear ho7 hB7 hBe hBv hBl y1 y4 hW6 KB HO7 e1 e2 e3
    go_wp2_with (fail)
    clear hb1 hb2
    generalize hhe:(1:Int)+H.tmod 65536 % 65536 = hh at *
    have hh1:1 ≤ hh∧hh ≤ 65536:=by omega
    clear hhe hb3 hb4
    have a0:=fun g:Grown w7=>heapN_cellj (HS7.out.grow g.h) (k:=0) rfl
    have a1:=fun g:Grown w7=>heapN_cellj (HS7.out.grow g.h) (k:=1) rfl
    have a2:=fun g:Grown w7=>heapN_cellj (HS7.out.grow g.h) (k:=2) rfl
    have a3:=fun g:Grown w7=>heapN_cellj (HS7.out.grow g.h) (k:=3) rfl
    have a4:=fun g:Grown w7=>heapN_cellj (HS7.out.grow g.h) (k:=4) rfl
    have a5:=fun g:Grown w7=>heapN_cellj (HS7.out.grow g.h) (k:=5) rfl
    refine region_pred_n 15 (lk [(50,fun z_ _=>z_ = .slice pv k cv),(51,fun z_ _=>z_ = .int .i64 tt),(52,fun z_ _=>z_ = .int .i64 hh),(53,fun z_ _=>z_ = .slice p7 n c7),(54,fun z_ _=>z_ = .pointer (some ⟨wr.heap.size,2,none⟩)),(55,fun z_ _=>z_ = .slice fp F.length fc),(56,fun z_ w'=>∃ p_ c_,z_ = .slice p_ n c_∧w'.ownsRow w.heap.size 66 2 (.slice p_ n c_) n (cr encB (prtL B F n))),(57,fun z_ _=>z_ = .slice p7 n c7),(58,fun z_ _=>z_ = .slice p7 n c7),(59,fun z_ _=>z_ = .slice p7 n c7),(60,fun z_ _=>z_ = .pointer (some ⟨wr.heap.size,5,none⟩)),(61,fun z_ _=>z_ = .slice ep E.length ec),(62,fun z_ w'=>∃ p_ c_,z_ = .slice p_ n c_∧w'.ownsRow w.heap.size 66 2 (.slice p_ n c_) n (cr encB (prtL B E n))),(63,fun z_ w'=>∃ p1_ c1_ p2_ c2_,z_ = .agg #[.int .i64 tt,.int .i64 hh,.slice p1_ n c1_,.slice p7 n c7,.slice p7 n c7,.slice p2_ n c2_]∧w'.ownsRow w.heap.size 66 2 (.slice p1_ n c1_) n (cr encB (prtL B F n))∧w'.ownsRow w.heap.size 66 2 (.slice p2_ n c2_) n (cr encB (prtL B E n))),(64,fun z_ w'=>∃ X_ p1_ c1_ p2_ c2_,z_ = .slice (some ⟨X_,0,none⟩) 1 1∧w7.heap.size ≤ X_∧w'.heap[X_]? = some (.cells #[.int .i64 tt,.int .i64 hh,.slice p1_ n c1_,.slice p7 n c7,.slice p7 n c7,.slice p2_ n c2_] 39 (0,0))∧w'.ownsRow w.heap.size 66 2 (.slice p1_ n c1_) n (cr encB (prtL B F n))∧w'.ownsRow w.heap.size 66 2 (.slice p2_ n c2_) n (cr encB (prtL B E n)))]) (by kernel_rfl) (by kernel_rfl) (lk_steady _ ⟨steady_eq _,steady_eq _,steady_eq _,steady_eq _,steady_eq _,steady_eq _,fun u w1 w2 hb ⟨p,c,e,h⟩=>⟨p,c,e,own_keptN h hb⟩,steady_eq _,steady_eq _,steady_eq _,steady_eq _,steady_eq _,fun u w1 w2 hb ⟨p,c,e,h⟩=>⟨p,c,e,own_keptN h hb⟩,fun u w1 w2 hb ⟨a,b,c,d,e,h1,h2⟩=>⟨a,b,c,d,e,own_keptN h1 hb,own_keptN h2 hb⟩,fun u w1 w2 hb ⟨X,a,b,c,d,e,h1,h2,h3,h4⟩=>⟨X,a,b,c,d,e,h1,(hb.block X (Array.getElem?_eq_some_iff.1 h2).1).trans h2,own_keptN h3 hb,own_keptN h4 hb⟩,trivial⟩) ?_ ?_
    ·refine ⟨?_,?_,?_,?_,?_,?_,?_,?_,?_,?_,?_,?_,?_,?_,?_,trivial⟩
     ·refine ob_plain [7] rfl rfl fun aa g h=>?_
      have yy0:=seen_out (v:=.slice pv k cv) rfl rfl h.1
      exact tvS (by simp [go_sem,yy0]) rfl
     ·refine ob_plain [8] rfl rfl fun aa g h=>?_
      have yy0:=seen_out (v:=.int .i64 tt) rfl rfl h.1
      exact tvS (by simp [go_sem,yy0]) rfl
     ·refine ob_plain [11] rfl rfl fun aa g h=>?_
      have yy0:=seen_out (v:=.int .i64 hh) rfl rfl h.1
      exact tvS (by simp [go_sem,yy0]) rfl
     ·refine ob_plain [12] rfl rfl fun aa g h=>?_
      have yy0:=seen_out (v:=.slice p7 n c7) rfl rfl h.1
      exact tvS (by simp [go_sem,yy0]) rfl
     ·refine ob_plain [10] rfl rfl fun aa g h=>?_
      have yy0:=seen_out (v:=.pointer (some ⟨wr.heap.size,0,none⟩)) rfl rfl h.1
      exact tvS (by simp [go_sem,yy0]) rfl
     ·refine ob_plain [54] rfl rfl fun aa g h=>?_
      obtain ⟨_,yy0,rfl⟩:=seen_in rfl h.1
      exact tvS (by simp [go_sem,yy0,a2 g]) rfl
     ·refine ob_plain [53,55] rfl rfl fun aa g h=>?_
      obtain ⟨_,yy0,rfl⟩:=seen_in rfl h.1
      obtain ⟨_,yy1,rfl⟩:=seen_in rfl h.2.1
      refine tupon_enter (f:=78) (args:=#[.slice p7 n c7,.slice fp F.length fc]) (by simp [go_sem,yy0,yy1]) rfl ?_
      exact (KP.out (.slice fp F.length fc) F g.w (HVB.out.grow g.h) (HSF.out.grow (HB7.out.trans (g.h.mono HB7.out.size)))).mono fun e w' ⟨p_,c_,he,ho,hB⟩=>⟨_,he,hB,⟨_,_,rfl,own_base ho (Nat.le_trans HB7.out.size g.h.size)⟩⟩
     ·refine ob_plain [12] rfl rfl fun aa g h=>?_
      have yy0:=seen_out (v:=.slice p7 n c7) rfl rfl h.1
      exact tvS (by simp [go_sem,yy0]) rfl
     ·refine ob_plain [12] rfl rfl fun aa g h=>?_
      have yy0:=seen_out (v:=.slice p7 n c7) rfl rfl h.1
      exact tvS (by simp [go_sem,yy0]) rfl
     ·refine ob_plain [12] rfl rfl fun aa g h=>?_
      have yy0:=seen_out (v:=.slice p7 n c7) rfl rfl h.1
      exact tvS (by simp [go_sem,yy0]) rfl
     ·refine ob_plain [10] rfl rfl fun aa g h=>?_
      have yy0:=seen_out (v:=.pointer (some ⟨wr.heap.size,0,none⟩)) rfl rfl h.1
      exact tvS (by simp [go_sem,yy0]) rfl
     ·refine ob_plain [60] rfl rfl fun aa g h=>?_
      obtain ⟨_,yy0,rfl⟩:=seen_in rfl h.1
      exact tvS (by simp [go_sem,yy0,a5 g]) rfl
     ·refine ob_plain [59,61] rfl rfl fun aa g h=>?_
      obtain ⟨_,yy0,rfl⟩:=seen_in rfl h.1
      obtain ⟨_,yy1,rfl⟩:=seen_in rfl h.2.1
      refine tupon_enter (f:=78) (args:=#[.slice p7 n c7,.slice ep E.length ec]) (by simp [go_sem,yy0,yy1]) rfl ?_
      exact (KP.out (.slice ep E.length ec) E g.w (HVB.out.grow g.h) (HSE.out.grow (HB7.out.trans (g.h.mono HB7.out.size)))).mono fun e w' ⟨p_,c_,he,ho,hB⟩=>⟨_,he,hB,⟨_,_,rfl,own_base ho (Nat.le_trans HB7.out.size g.h.size)⟩⟩
     ·refine ob_plain [51,52,56,57,58,62] rfl rfl fun aa g h=>?_
      obtain ⟨_,yy0,rfl⟩:=seen_in rfl h.1
      obtain ⟨_,yy1,rfl⟩:=seen_in rfl h.2.1
      obtain ⟨_,yy2,⟨p56,c56,rfl,ho56⟩⟩:=seen_in rfl h.2.2.1
      obtain ⟨_,yy3,rfl⟩:=seen_in rfl h.2.2.2.1
      obtain ⟨_,yy4,rfl⟩:=seen_in rfl h.2.2.2.2.1
      obtain ⟨_,yy5,⟨p62,c62,rfl,ho62⟩⟩:=seen_in rfl h.2.2.2.2.2.1
      exact tupon_value (v:=.agg #[.int .i64 tt,.int .i64 hh,.slice p56 n c56,.slice p7 n c7,.slice p7 n c7,.slice p62 n c62]) (by simp [go_sem,yy0,yy1,yy2,yy3,yy4,yy5]) (Below.refl _ _) ⟨_,_,_,_,rfl,ho56,ho62⟩
     ·refine ob_plain [63] rfl rfl fun aa g h=>?_
      obtain ⟨_,yy0,⟨p1,c1,p2,c2,rfl,k1,k2⟩⟩:=seen_in rfl h.1
      exact tupon_value (v:=.slice (some ⟨g.w.heap.size,0,none⟩) 1 1) (w1:=g.w.alloc (.cells #[.int .i64 tt,.int .i64 hh,.slice p1 n c1,.slice p7 n c7,.slice p7 n c7,.slice p2 n c2] 39)) (by simp [go_sem,yy0]) ((Below.refl _ _).alloc (Nat.le_refl _) _) ⟨_,_,_,_,_,rfl,g.h.size,World.alloc_heap_new _ _,k1.alloc _,k2.alloc _⟩
    rintro w8 hB _ rfl _ rfl _ rfl _ rfl _ rfl _ rfl _ ⟨p56,c56,rfl,ho56⟩ _ rfl _ rfl _ rfl _ rfl _ rfl _ ⟨p62,c62,rfl,ho62⟩ _ ⟨p1,c1,p2,c2,rfl,k1,k2⟩ _ ⟨X64,q1,d1,q2,d2,rfl,hX64,hI64,j1,j2⟩
    simp only [Act.put,List.setIfInBounds_toArray,List.set_cons_succ,List.set_cons_zero,finP,List.drop_succ_cons,List.drop_zero,List.take_zero,List.filterMap_nil]
    have HB8:=Lib.hid (below_then HB7.out hB)
    have HR8:=Lib.hid (HR7.out.grow hB)
    have HOB8:=Lib.hid (own_keptN HOB.out hB)
    obtain ⟨y,hy⟩:∃ y:Sr,y = ⟨tt,hh,q1,p7,p7,q2,d1,c7,c7,d2,prtL B F n,B,B,prtL B E n⟩:=⟨_,rfl⟩
    have hbl:=HBL.out
    have hys:OwS w.heap.size w8 y:=by
     subst hy
     exact ⟨by show w8.ownsRow _ _ _ _ _ _; dsimp only; rw [prtL_len]; exact j1,HOB8.out,HOB8.out,by show w8.ownsRow _ _ _ _ _ _; dsimp only; rw [prtL_len]; exact j2⟩
    have HYS:=Lib.hid hys
    have hya:∀ j u,(encSr y)[j]? = some u→w8.cell? ((⟨X64,0,none⟩:Addr).add j) = some u:=sg_at y (by subst hy; dsimp only; simp only [prtL_len,hbl]; exact hI64)
    have hyb:y.F.length = n∧y.P.length = n∧y.U.length = n∧y.E.length = n∧AV y.F∧AV y.P∧AV y.U∧AV y.E:=by
     subst hy
     have hB:=HBV.out
     have hb:AV B:=fun p hp=>.inr (hB p hp)
     have h1:=(part14_vi (m:=F) hB).1
     have h2:=(part14_vi (m:=E) hB).1
     rw [hbl] at h1 h2
     exact ⟨prtL_len _ _ _,hbl,hbl,prtL_len _ _ _,h1,hb,hb,h2⟩
    have hyi:subB y.F y.U = true∧subB y.E y.U = true:=by
     subst hy
     have h1:=(part14_vi (m:=F) HBV.out).2
     have h2:=(part14_vi (m:=E) HBV.out).2
     rw [hbl] at h1 h2
     exact ⟨h1,h2⟩
    have HMP:Hid (MdF n (o ++ [y]) (tt+hh)):=Lib.hid (by
     have:=HMD.out.push (x:=y) (by rw [hy]) hyb hyi (by rw [hy]; dsimp only; omega) (by rw [hy]; dsimp only; omega)
     rw [hy] at this ⊢
     exact this)
    have HYA:=Lib.hid hya
    have hrr:=HR8.out.row
    rw [HOL.out] at hrr
    have HRR:=Lib.hid hrr
    clear hrr
    have hs8:=HB8.out.size
    clear hB hys hya hyb hyi hy hI64 j1 j2 a0 a1 a2 a3 a4 a5 KP k1 k2 ho56 ho62
    go_wp2_with (at_builtin; refine wpList_append_own _ rfl (.tmp 50) (.tmp 64) 52 rfl w.heap.size 39 i0 (.agg #[.int .i64 0,.int .i64 0,.slice none 0 0,.slice none 0 0,.slice none 0 0,.slice none 0 0]) 6 112 Tryz.underlying52 hi hz0 hz1 hz2 rfl (by decide) (.slice pv k cv) k _ rfl HRR.out ⟨X64,0,none⟩ 1 1 (encSr y) rfl rfl HYA.out (sg_one y) (by unfold maxLen; omega) (by omega) (by omega) ?_)
    intro v' w9 hown' hgrow _
    have hB9:Below w.heap.size w w9:=Below.grown HB8.out hgrow (by omega) (fun i hi=>(HRR.out.lt i hi).1)
    have hF9:OwF w.heap.size w9 v' (o ++ [y]):=HR8.out.push HYS.out (by rw [HOL.out]; exact hown') hgrow
    obtain ⟨p9,c9,rfl⟩:=own_slice hown'
    have HF9:=Lib.hid hF9
    have HB9:=Lib.hid hB9
    clear hown' hgrow hB9 hF9
    go_wp2_with (fail)
    go_roundw
    case rel=>exact ⟨k+1,o ++ [y],tt+hh,rfl,by go_num,by omega,by simp [HOL.out],HF9.out,HMP,HB9.out⟩
    case measure=>simp [intOf]; omega
   ·exfalso
    omega
  ·obtain rfl:k = K:=by omega
   have hk8:=HK1.out
   go_wp2_with (fail)
   go_ret
   exact ⟨pv,cv,o,(by rw [HOL.out]; first | done | rfl),by rw [HOL.out]; exact HR.out,⟨tt,HMD.out⟩,by rw [HOL.out]; omega,by rw [HOL.out]; omega,HBr.out⟩
theorem made14_ok (vl:Value) (l:List Sr) (n:Nat) (w:World) (hl:Zx w vl l) (hx:∀ x ∈ l,SrW w x) (n1:1 ≤ n) (n6:n ≤ 6) :
  Calls Tryz.prog 34 #[vl,.int .i64 n,.int .i64 8] w fun e w'=>∃ p c o,e = .returned (.slice p o.length c)∧OwF w.heap.size w' (.slice p o.length c) o∧(∃ t,MdF n o t)∧1 ≤ o.length∧o.length ≤ 8∧Below w.heap.size w w':=by
 rcases (show l.length = 0 ∨ 0 < l.length by omega) with h | h
 ·exact made14_nil vl l n w hl hx n1 n6 (List.length_eq_zero_iff.1 h)
 ·exact made14_cons vl l n w hl hx n1 n6 h
end Go.Proofs.YtdfdpghdjlgghaaGreat
