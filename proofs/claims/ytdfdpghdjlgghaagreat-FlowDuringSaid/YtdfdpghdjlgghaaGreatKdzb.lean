/-
 UB
-/
import Derived.Test.YtdfdpghdjlgghaaGreatKdm
import Derived.Test.YtdfdpghdjlgghaaGreatKdq
namespace Go.Proofs.YtdfdpghdjlgghaaGreat
open Go.ChangeShapes Go.WideShapes Go.ChangeAt Go.RowKit Go.Maps
set_option linter.unusedVariables false
set_option linter.unusedSimpArgs false
set_option maxRecDepth 100000
attribute [local irreducible] Calls
attribute [local go_sem] and255 and65535
theorem raI_cases {op:Int} (h1:1 ≤ op) (h2:op ≤ 10):((op = 1 ∨ op = 2 ∨ op = 3)∧raI op = 0) ∨ ((op = 4 ∨ op = 5 ∨ op = 6)∧raI op = 1) ∨ ((op = 7 ∨ op = 8 ∨ op = 9 ∨ op = 10)∧raI op = 2):=by
 unfold raI
 (repeat' split) <;> omega
theorem MdI.start (w:World) (n0:Int) (vl vo:Value) (N:Nat):MdI w n0 vl vo N (.slice none 0 0) (.slice none 0 0) [] [] (((w.alloc (.cells #[.int .i64 n0,vl,vo] 35)).alloc (.cells #[.int .i64 0,.slice none 0 0,.slice none 0 0] 35)).alloc (.cells #[.int .i64 N,.slice none 0 0,.slice none 0 0] 35)):=by
 have n1:=World.alloc_heap_new w (.cells #[.int .i64 n0,vl,vo] 35)
 have n2:=World.alloc_heap_new (w.alloc (.cells #[.int .i64 n0,vl,vo] 35)) (.cells #[.int .i64 0,.slice none 0 0,.slice none 0 0] 35)
 have n3:=World.alloc_heap_new ((w.alloc (.cells #[.int .i64 n0,vl,vo] 35)).alloc (.cells #[.int .i64 0,.slice none 0 0,.slice none 0 0] 35)) (.cells #[.int .i64 N,.slice none 0 0,.slice none 0 0] 35)
 rw [alloc_sz] at n2
 rw [alloc_sz,alloc_sz] at n3
 have b1:Below w.heap.size w (w.alloc (.cells #[.int .i64 n0,vl,vo] 35)):=(Below.refl _ _).alloc (Nat.le_refl _) _
 have b2:Below (w.alloc (.cells #[.int .i64 n0,vl,vo] 35)).heap.size (w.alloc (.cells #[.int .i64 n0,vl,vo] 35)) ((w.alloc (.cells #[.int .i64 n0,vl,vo] 35)).alloc (.cells #[.int .i64 0,.slice none 0 0,.slice none 0 0] 35)):=(Below.refl _ _).alloc (Nat.le_refl _) _
 have b3:Below ((w.alloc (.cells #[.int .i64 n0,vl,vo] 35)).alloc (.cells #[.int .i64 0,.slice none 0 0,.slice none 0 0] 35)).heap.size ((w.alloc (.cells #[.int .i64 n0,vl,vo] 35)).alloc (.cells #[.int .i64 0,.slice none 0 0,.slice none 0 0] 35)) (((w.alloc (.cells #[.int .i64 n0,vl,vo] 35)).alloc (.cells #[.int .i64 0,.slice none 0 0,.slice none 0 0] 35)).alloc (.cells #[.int .i64 N,.slice none 0 0,.slice none 0 0] 35)):=(Below.refl _ _).alloc (Nat.le_refl _) _
 exact ⟨(b3.block _ (by rw [alloc_sz,alloc_sz]; omega)).trans ((b2.block _ (by rw [alloc_sz]; omega)).trans n1),(b3.block _ (by rw [alloc_sz,alloc_sz]; omega)).trans n2,n3,World.ownsRow_nil _ _ _ _,World.ownsRow_nil _ _ _ _,below_then (below_then b1 b2) b3,by rw [alloc_sz,alloc_sz,alloc_sz]; omega⟩
theorem vlGo_of {n:Int}:∀ (T:List Is) (i:Nat),(∀ (k:Nat) (x:Is),T[k]? = some x→vinB ((i+k:Nat):Int) n x = true)→vlGo n T i = true
 | [],_,_=>rfl
 | x :: r,i,h=>by
  unfold vlGo
  rw [vlGo_of r (i+1) (fun k y hy=>by have:=h (k+1) y hy; rwa [show i+1+k = i+(k+1) by omega]),Bool.and_true]
  exact h 0 x rfl
theorem tv_of {n:Int} {T:List Is} {O:List Int} {m:Nat} (h1:1 ≤ n) (h6:n ≤ 6) (h4:T.length ≤ 400) (hm:(m:Int) = n) (hO:O.length = m) (hV:VL n T) (hob:∀ y ∈ O,ixB y T.length = true):tvB n T O = true:=by
 unfold tvB
 rw [decide_eq_true h1,decide_eq_true h6,decide_eq_true h4,decide_eq_true (by omega),vlGo_of T 0 (fun k x hx=>by rw [Nat.zero_add]; exact hV k x hx),List.all_eq_true.2 hob]
 rfl
theorem size_setM (W:World) (a:Addr) (v:Value):(W.setCell a v).heap.size = W.heap.size:=by
 show (W.heap.modify _ _).size = _
 exact Array.size_modify
theorem vl_snoc {N:Int} {T:List Is} {x:Is} (h:VL N T) (hx:vinB T.length N x = true):VL N (T ++ [x]):=by
 intro k y hy
 by_cases hk:k < T.length
 ·rw [List.getElem?_append_left hk] at hy
  exact h k y hy
 ·rw [List.getElem?_append_right (by omega)] at hy
  have hl:=(List.getElem?_eq_some_iff.1 hy).1
  simp at hl
  obtain rfl:k = T.length:=by omega
  simp at hy
  subst hy
  exact hx
set_option maxHeartbeats 32000000 in
theorem made8_ok (n0:Int) (vl vo:Value) (Lr:List Is) (outr:List Int) (most:Nat) (w:World) (hl:Ix w vl Lr) (ho:Px w vo outr) (hm:1 ≤ most) (hm2:most ≤ 400) :
  Calls Tryz.prog 57 #[.agg #[.int .i64 n0,vl,vo],.int .i64 most] w fun e w'=>∃ (N:Nat) (T:List Is) (out:List Int) (u r:Value),e = .returned (.agg #[.int .i64 N,u,r])∧w'.ownsRow w.heap.size 75 5 u T.length (cr encI T)∧w'.ownsRow w.heap.size 3 1 r out.length (cr enc1 out)∧tvB N T out = true∧N ≤ 3∧1 ≤ T.length∧T.length ≤ most∧Below w.heap.size w w':=by
 obtain ⟨i0,hi,hz0,hz1,hz2⟩:=info_parts info_is
 obtain ⟨i1,hi1,hy0,hy1,hy2⟩:=info_parts info_int
 obtain ⟨pl,cl,rfl⟩:=hl.cut
 obtain ⟨po,co,rfl⟩:=ho.cut
 have hlm:=hl.1
 have hom:=ho.1
 unfold maxLen at hlm hom
 have p0:0 ≤ n0 % 256:=by omega
 obtain ⟨N,hN⟩:∃ N:Nat,1+n0 % 256 % 3 = N:=⟨(1+n0 % 256 % 3).toNat,by omega⟩
 have hN1:1 ≤ N:=by omega
 have hN3:N ≤ 3:=by omega
 have HL:=Lib.hid hl
 have HO:=Lib.hid ho
 have M0:=Lib.hid (MdI.start w n0 (.slice pl Lr.length cl) (.slice po outr.length co) N)
 have HNE:=Lib.hid hN
 clear hl ho hN
 go_enter Tryz.func57,Tryz.ntmps57
 go_wp2_with (fail)
 simp only [HNE.out]
 go_loopw [6] (fun i wr=>∃ (k:Nat) (v:Value) (T:List Is),i = .int .i64 k∧k ≤ Lr.length∧k ≤ most∧T.length = k∧Hid (VL N T)∧Hid (MdI w n0 (.slice pl Lr.length cl) (.slice po outr.length co) N v (.slice none 0 0) T [] wr)) (fun i _=>Lr.length - (intOf i).toNat)
 case atStart=>exact ⟨0,_,[],rfl,Nat.zero_le _,Nat.zero_le _,rfl,Lib.hid (fun k x hx=>by simp at hx),M0⟩
 case round =>
  clear M0
  obtain ⟨k,v,T,rfl,hk1,hk2,hT,HVT,HMD⟩:=hrel
  have l0:=heapN_cellj HMD.out.c0 (k:=1) rfl
  have HT:=Lib.hid hT
  clear hT
  by_cases hlt:k < Lr.length∧k < most
  ·obtain ⟨hlt1,hlt2⟩:=hlt
   have i2:(k:Int) < Lr.length:=by omega
   have i3:(k:Int) < most:=by omega
   obtain ⟨⟨op,a,b,lo,hi'⟩,hx⟩:∃ x,Lr[k]? = some x:=⟨_,List.getElem?_eq_getElem hlt1⟩
   obtain ⟨bl,ol,rfl,hbl,rdl⟩:=is_rd HL.out hx
   have hbw:=HMD.out.bel
   obtain ⟨f0,f1,f2,f3,f4⟩:=rdl ⟨wr,hbw⟩
   dsimp only at f0 f1 f2 f3 f4
   have p1:0 ≤ IntKind.i64.wrap (op+9) % 256:=by omega
   have HRD:=Lib.hid rdl
   clear hx hbw rdl
   go_upto_region 6 with (fail)
   obtain ⟨q,hq⟩:∃ q,1+wrap64 (op+9) % 256 % 10 = q:=⟨_,rfl⟩
   have hw0:0 ≤ wrap64 (op+9) % 256:=by omega
   have hq1:1 ≤ q:=by omega
   have hq10:q ≤ 10:=by omega
   simp only [hq]
   clear hq hw0 p1 f0 f1 f2 f3 f4 l0
   go_cut [45] from 17 to 102 (fun s wx=>∃ c:Bool,s = .bool c∧(c = false→k = 0→q ≤ 3)∧Below wr.heap.size wr wx)
   case first =>
    by_cases hk0:k = 0
    ·have e0:((k:Int) == 0) = true:=by simp [hk0]
     obtain ⟨R,hR⟩:∃ R,raI q = R:=⟨_,rfl⟩
     have KA:=Lib.hid (fun w=>rarity_ok q w)
     rw [hR] at KA
     have HC:=raI_cases hq1 hq10
     rw [hR] at HC
     have hRR:R = 0∧q ≤ 3 ∨ 0 < R:=by omega
     clear hR HC hk0
     go_wp2_with (fail)
     refine (KA.out _).mono ?_
     rintro e w5 ⟨rfl,hB5⟩
     have HB5:=Lib.hid hB5
     clear hB5
     rcases hRR with ⟨hR0,hq3⟩ | hR0
     ·subst hR0
      go_wp2_with (fail)
      go_meet
      exact ⟨false,rfl,fun _ _=>hq3,HB5.out⟩
     ·have e1:R > 0:=hR0
      go_wp2_with (fail)
      go_meet
      exact ⟨true,by first | rfl | simp [e1],fun h=>(by cases h),HB5.out⟩
    ·have e0:((k:Int) == 0) = false:=by simp [hk0]
     have HK0:=Lib.hid hk0
     clear hk0
     go_wp2_with (fail)
     go_meet
     exact ⟨false,rfl,fun _ h=>absurd h HK0.out,Below.refl _ _⟩
   case rest =>
   obtain ⟨c,rfl,hc0,hBd⟩:=hcut
   have HC0:=Lib.hid hc0
   have HBD:=Lib.hid hBd
   clear hc0 hBd
   go_upto_if 45 with (fail)
   go_cut [7] from 17 to 102 (fun s wx=>∃ o2:Int,s = .int .i64 o2∧1 ≤ o2∧o2 ≤ 10∧(k = 0→o2 ≤ 3)∧Below wr.heap.size wr wx)
   case first =>
    cases c with
    | false =>
     go_wp2_with (fail)
     go_meet
     exact ⟨q,rfl,hq1,hq10,HC0.out (by trivial),HBD.out⟩
    | true =>
     go_wp2_with (fail)
     go_meet
     exact ⟨2,rfl,by decide,by decide,fun _=>by decide,HBD.out⟩
   case rest =>
    obtain ⟨o2,rfl,h1,h10,h0,hBc⟩:=hcut
    have MDc:=Lib.hid (HMD.out.grow hBc)
    obtain ⟨pv,cv,rfl⟩:=own_slice HMD.out.row
    rw [HT.out] at MDc
    have hnv:Hid (∀ g,(Value.slice pv k cv).ownBlock = some g→g < wc.heap.size):=Lib.hid (fun g e=>by have h:=MDc.out.row; rw [HT.out] at h; exact (h.lt g e).2)
    have hX3:=MDc.out.sz
    have X0:=IsC.new wc ⟨o2,0,0,0,0⟩
    have B0:Below wc.heap.size wc (wc.alloc (.cells #[.int .i64 o2,.int .i64 0,.int .i64 0,.int .i64 0,.int .i64 0] 75)):=(Below.refl _ _).alloc (Nat.le_refl _) _
    have MD0:=Lib.hid (MDc.out.grow B0)
    have IC0:=Lib.hid X0
    have hsB0:=B0.size
    have hXlt:=X0.lt
    clear hBc B0 X0 hq1 hq10 MDc HMD
    have KA:=Lib.hid (fun w=>rarity_ok o2 w)
    rcases raI_cases h1 h10 with ⟨hop,hr⟩ | ⟨hop,hr⟩ | ⟨hop,hr⟩
    ·rw [hr] at KA
     rcases hop with rfl | rfl | rfl
     ·skip
      go_wp2_with (fail)
      generalize hWa:World.alloc wc _ = Wa at *
      clear hWa
      refine (KA.out _).mono ?_
      rintro e w5 ⟨rfl,hB5⟩
      have MD5:=Lib.hid (MD0.out.grow hB5)
      have IC5:=Lib.hid (IC0.out.grow hB5)
      have hs5:=hB5.size
      clear hB5
      go_wp2_with (fail)
      refine (KA.out _).mono ?_
      rintro e w6 ⟨rfl,hB6⟩
      have MD6:=Lib.hid (MD5.out.grow hB6)
      have IC6:=Lib.hid (IC5.out.grow hB6)
      have hs6:=hB6.size
      clear hB6
      have l0:=heapN_cellj MD6.out.c0 (k:=1) rfl
      have l2:=heapN_cellj MD6.out.c2 (k:=0) rfl
      have lv:=heapN_cellj MD6.out.c2 (k:=1) rfl
      obtain ⟨f0,f1,f2,f3,f4⟩:=HRD.out ⟨w6,MD6.out.bel⟩
      have x0:=IC6.out.c0
      have x1:=IC6.out.c1
      have x2:=IC6.out.c2
      have x3:=IC6.out.c3
      have x4:=IC6.out.c4
      have z1:=IC6.out.frozen 1
      have z2:=IC6.out.frozen 2
      have z3:=IC6.out.frozen 3
      have z4:=IC6.out.frozen 4
      dsimp only at f0 f1 f2 f3 f4 x0 x1 x2 x3 x4
      go_wp2_with (fail)
      refine (r2near lo hi' 4096 _ (by decide) (by decide)).mono ?_
      rintro e w7 ⟨rfl,hB7⟩
      have hnb:=near_bd (lo,hi') (d:=4096) (by decide)
      obtain ⟨⟨r1,r2⟩,hr12⟩:∃ r,nearI (lo,hi') 4096 = r:=⟨_,rfl⟩
      rw [hr12] at hnb ⊢
      dsimp only at hnb ⊢
      have MD7:=Lib.hid (MD6.out.grow hB7)
      have IC7:=Lib.hid (IC6.out.grow hB7)
      have hs7:=hB7.size
      clear hB7 hr12
      clear l0 l2 lv f0 f1 f2 f3 f4 x0 x1 x2 x3 x4 z1 z2 z3 z4
      have MD8:=Lib.hid (MD7.out.set IC7.out (by omega) (fun g e=>by have:=hnv.out g e; omega) 3 (.int .i64 r1))
      have IC8:Hid (IsC (w7.setCell ⟨wc.heap.size,3,none⟩ (.int .i64 r1)) wc.heap.size ⟨1,0,0,r1,0⟩):=Lib.hid (cellsT_setN (o:=3) (u:=.int .i64 r1) IC7.out)
      have MD9:=Lib.hid (MD8.out.set IC8.out (by omega) (fun g e=>by have:=hnv.out g e; omega) 4 (.int .i64 r2))
      have IC9:Hid (IsC ((w7.setCell ⟨wc.heap.size,3,none⟩ (.int .i64 r1)).setCell ⟨wc.heap.size,4,none⟩ (.int .i64 r2)) wc.heap.size ⟨1,0,0,r1,r2⟩):=Lib.hid (cellsT_setN (o:=4) (u:=.int .i64 r2) IC8.out)
      have l0:=heapN_cellj MD7.out.c0 (k:=1) rfl
      have l2:=heapN_cellj MD7.out.c2 (k:=0) rfl
      have lv:=heapN_cellj MD7.out.c2 (k:=1) rfl
      obtain ⟨f0,f1,f2,f3,f4⟩:=HRD.out ⟨w7,MD7.out.bel⟩
      have x0:=IC7.out.c0
      have x1:=IC7.out.c1
      have x2:=IC7.out.c2
      have x3:=IC7.out.c3
      have x4:=IC7.out.c4
      have z1:=IC7.out.frozen 1
      have z2:=IC7.out.frozen 2
      have z3:=IC7.out.frozen 3
      have z4:=IC7.out.frozen 4
      dsimp only at f0 f1 f2 f3 f4 x0 x1 x2 x3 x4
      have hvin:vinB k N ⟨1,0,0,r1,r2⟩ = true:=by
       show (decide ((0:Int) = 0) && (decide ((0:Int) = 0) && decide (VI r1 r2))) = true
       rw [decide_eq_true (show VI r1 r2 from .inr ⟨by unfold Num; omega,by unfold Num; omega,by omega⟩)]
       rfl
      have HVI:=Lib.hid hvin
      have hrow:=MD9.out.row
      rw [HT.out] at hrow
      have HR9:=Lib.hid hrow
      clear hvin hrow
      have hnew:∀ j u,(encI ⟨1,0,0,r1,r2⟩)[j]? = some u→((((w7.setCell ⟨wc.heap.size,3,none⟩ (.int .i64 r1)).setCell ⟨wc.heap.size,4,none⟩ (.int .i64 r2))).alloc (.cells #[.int .i64 (1),.int .i64 (0),.int .i64 (0),.int .i64 (r1),.int .i64 (r2)] 75)).cell? ((⟨w7.heap.size,0,none⟩:Addr).add j) = some u:=by
       have h:=new_i (((w7.setCell ⟨wc.heap.size,3,none⟩ (.int .i64 r1)).setCell ⟨wc.heap.size,4,none⟩ (.int .i64 r2))) ⟨1,0,0,r1,r2⟩
       rw [show (((w7.setCell ⟨wc.heap.size,3,none⟩ (.int .i64 r1)).setCell ⟨wc.heap.size,4,none⟩ (.int .i64 r2))).heap.size = w7.heap.size by rw [size_setM,size_setM]] at h
       exact h
      have HNEW:=Lib.hid hnew
      clear hnew
      go_wp2_with (at_builtin; go_loud (refine wpList_append_own _ rfl (.tmp 98) (.tmp 100) 32 rfl (w.heap.size+3) 75 i0 (.agg #[.int .i64 0,.int .i64 0,.int .i64 0,.int .i64 0,.int .i64 0]) 5 40 Tryz.underlying32 hi hz0 hz1 hz2 rfl (by decide) (.slice pv k cv) k _ rfl (HR9.out.alloc _) ⟨w7.heap.size,0,none⟩ 1 1 (encI ⟨1,0,0,r1,r2⟩) rfl rfl HNEW.out (one_i _) (by unfold maxLen; omega) (by omega) (by rw [alloc_sz]; have:=MD9.out.sz; omega) ?_))
      intro v' w8 hown' hgrow _
      have MDA:=MD9.out.grow ((Below.refl (((w7.setCell ⟨wc.heap.size,3,none⟩ (.int .i64 r1)).setCell ⟨wc.heap.size,4,none⟩ (.int .i64 r2))).heap.size (((w7.setCell ⟨wc.heap.size,3,none⟩ (.int .i64 r1)).setCell ⟨wc.heap.size,4,none⟩ (.int .i64 r2)))).alloc (Nat.le_refl _) (.cells #[.int .i64 (1),.int .i64 (0),.int .i64 (0),.int .i64 (r1),.int .i64 (r2)] 75))
      obtain ⟨p8,c8,rfl⟩:=own_slice hown'
      have hc8:=(hgrow.block _ (by have:=MDA.sz; omega) (fun e=>by have h:=MDA.row; rw [HT.out] at h; have:=(h.lt _ e.symm).1; omega)).trans MDA.c2
      have HP:=MDA.push (x:=⟨1,0,0,r1,r2⟩) (W':=w8) (p':=p8) (c':=c8) (by rw [HT.out]; exact hown') hgrow
      rw [HT.out] at HP
      have u1:=heapN_cellj hc8 (k:=1) rfl
      have u2:w8.frozen? ⟨w.heap.size+2,1,none⟩ = false:=by simp [World.frozen?,hc8]
      have HPH:=Lib.hid HP
      clear hown' hgrow MDA hc8 HP
      clear l0 l2 lv f0 f1 f2 f3 f4 x0 x1 x2 x3 x4 z1 z2 z3 z4
      go_wp2_with (fail)
      go_roundw
      case rel =>
       exact ⟨k+1,_,T ++ [⟨1,0,0,r1,r2⟩],by go_num,by omega,by omega,by simp [HT.out],Lib.hid (vl_snoc HVT.out (by rw [HT.out]; exact HVI.out)),HPH⟩
      case measure=>simp [intOf]; omega
     ·skip
      go_wp2_with (fail)
      generalize hWa:World.alloc wc _ = Wa at *
      clear hWa
      refine (KA.out _).mono ?_
      rintro e w5 ⟨rfl,hB5⟩
      have MD5:=Lib.hid (MD0.out.grow hB5)
      have IC5:=Lib.hid (IC0.out.grow hB5)
      have hs5:=hB5.size
      clear hB5
      go_wp2_with (fail)
      refine (KA.out _).mono ?_
      rintro e w6 ⟨rfl,hB6⟩
      have MD6:=Lib.hid (MD5.out.grow hB6)
      have IC6:=Lib.hid (IC5.out.grow hB6)
      have hs6:=hB6.size
      clear hB6
      have pa:0 ≤ a % 256:=by omega
      have hN0:((N:Int) == 0) = false:=by simp; omega
      have hNn:(N:Int) ≠ 0:=by omega
      have ha1:=Int.emod_nonneg (a % 256) (b:=N) (by omega)
      have ha2:=Int.emod_lt_of_pos (a % 256) (b:=N) (by omega)
      have l0:=heapN_cellj MD6.out.c0 (k:=1) rfl
      have l2:=heapN_cellj MD6.out.c2 (k:=0) rfl
      have lv:=heapN_cellj MD6.out.c2 (k:=1) rfl
      obtain ⟨f0,f1,f2,f3,f4⟩:=HRD.out ⟨w6,MD6.out.bel⟩
      have x0:=IC6.out.c0
      have x1:=IC6.out.c1
      have x2:=IC6.out.c2
      have x3:=IC6.out.c3
      have x4:=IC6.out.c4
      have z1:=IC6.out.frozen 1
      have z2:=IC6.out.frozen 2
      have z3:=IC6.out.frozen 3
      have z4:=IC6.out.frozen 4
      dsimp only at f0 f1 f2 f3 f4 x0 x1 x2 x3 x4
      go_wp2_with (fail)
      go_region
      clear l0 l2 lv f0 f1 f2 f3 f4 x0 x1 x2 x3 x4 z1 z2 z3 z4
      have MD8:=Lib.hid (MD6.out.set IC6.out (by omega) (fun g e=>by have:=hnv.out g e; omega) 1 (.int .i64 (a % 256 % N)))
      have IC8:Hid (IsC (w6.setCell ⟨wc.heap.size,1,none⟩ (.int .i64 (a % 256 % N))) wc.heap.size ⟨2,a % 256 % N,0,0,0⟩):=Lib.hid (cellsT_setN (o:=1) (u:=.int .i64 (a % 256 % N)) IC6.out)
      have l0:=heapN_cellj MD6.out.c0 (k:=1) rfl
      have l2:=heapN_cellj MD6.out.c2 (k:=0) rfl
      have lv:=heapN_cellj MD6.out.c2 (k:=1) rfl
      obtain ⟨f0,f1,f2,f3,f4⟩:=HRD.out ⟨w6,MD6.out.bel⟩
      have x0:=IC6.out.c0
      have x1:=IC6.out.c1
      have x2:=IC6.out.c2
      have x3:=IC6.out.c3
      have x4:=IC6.out.c4
      have z1:=IC6.out.frozen 1
      have z2:=IC6.out.frozen 2
      have z3:=IC6.out.frozen 3
      have z4:=IC6.out.frozen 4
      dsimp only at f0 f1 f2 f3 f4 x0 x1 x2 x3 x4
      have hvin:vinB k N ⟨2,a % 256 % N,0,0,0⟩ = true:=by
       simp [vinB,ixB]
       omega
      have HVI:=Lib.hid hvin
      have hrow:=MD8.out.row
      rw [HT.out] at hrow
      have HR9:=Lib.hid hrow
      clear hvin hrow
      have hnew:∀ j u,(encI ⟨2,a % 256 % N,0,0,0⟩)[j]? = some u→(((w6.setCell ⟨wc.heap.size,1,none⟩ (.int .i64 (a % 256 % N)))).alloc (.cells #[.int .i64 (2),.int .i64 (a % 256 % N),.int .i64 (0),.int .i64 (0),.int .i64 (0)] 75)).drew.cell? ((⟨w6.heap.size,0,none⟩:Addr).add j) = some u:=by
       have h:=new_i ((w6.setCell ⟨wc.heap.size,1,none⟩ (.int .i64 (a % 256 % N)))) ⟨2,a % 256 % N,0,0,0⟩
       rw [show ((w6.setCell ⟨wc.heap.size,1,none⟩ (.int .i64 (a % 256 % N)))).heap.size = w6.heap.size by first | exact size_setM _ _ _ | rw [size_setM]] at h
       exact h
      have HNEW:=Lib.hid hnew
      clear hnew
      go_wp2_with (at_builtin; go_loud (refine wpList_append_own _ rfl (.tmp 98) (.tmp 100) 32 rfl (w.heap.size+3) 75 i0 (.agg #[.int .i64 0,.int .i64 0,.int .i64 0,.int .i64 0,.int .i64 0]) 5 40 Tryz.underlying32 hi hz0 hz1 hz2 rfl (by decide) (.slice pv k cv) k _ rfl (own_keptN (HR9.out.alloc _) ((Below.refl _ _).drew)) ⟨w6.heap.size,0,none⟩ 1 1 (encI ⟨2,a % 256 % N,0,0,0⟩) rfl rfl HNEW.out (one_i _) (by unfold maxLen; omega) (by omega) (by show _ ≤ (World.alloc _ _).heap.size; rw [alloc_sz]; have:=MD8.out.sz; omega) ?_))
      intro v' w8 hown' hgrow _
      have MDA:=(MD8.out.grow ((Below.refl ((w6.setCell ⟨wc.heap.size,1,none⟩ (.int .i64 (a % 256 % N)))).heap.size ((w6.setCell ⟨wc.heap.size,1,none⟩ (.int .i64 (a % 256 % N))))).alloc (Nat.le_refl _) (.cells #[.int .i64 (2),.int .i64 (a % 256 % N),.int .i64 (0),.int .i64 (0),.int .i64 (0)] 75))).grow ((Below.refl _ _).drew)
      obtain ⟨p8,c8,rfl⟩:=own_slice hown'
      have hc8:=(hgrow.block _ (by have:=MDA.sz; omega) (fun e=>by have h:=MDA.row; rw [HT.out] at h; have:=(h.lt _ e.symm).1; omega)).trans MDA.c2
      have HP:=MDA.push (x:=⟨2,a % 256 % N,0,0,0⟩) (W':=w8) (p':=p8) (c':=c8) (by rw [HT.out]; exact hown') hgrow
      rw [HT.out] at HP
      have u1:=heapN_cellj hc8 (k:=1) rfl
      have u2:w8.frozen? ⟨w.heap.size+2,1,none⟩ = false:=by simp [World.frozen?,hc8]
      have HPH:=Lib.hid HP
      clear hown' hgrow MDA hc8 HP
      clear l0 l2 lv f0 f1 f2 f3 f4 x0 x1 x2 x3 x4 z1 z2 z3 z4
      go_wp2_with (fail)
      go_roundw
      case rel =>
       exact ⟨k+1,_,T ++ [⟨2,a % 256 % N,0,0,0⟩],by go_num,by omega,by omega,by simp [HT.out],Lib.hid (vl_snoc HVT.out (by rw [HT.out]; exact HVI.out)),HPH⟩
      case measure=>simp [intOf]; omega
     ·skip
      go_wp2_with (fail)
      generalize hWa:World.alloc wc _ = Wa at *
      clear hWa
      refine (KA.out _).mono ?_
      rintro e w5 ⟨rfl,hB5⟩
      have MD5:=Lib.hid (MD0.out.grow hB5)
      have IC5:=Lib.hid (IC0.out.grow hB5)
      have hs5:=hB5.size
      clear hB5
      go_wp2_with (fail)
      refine (KA.out _).mono ?_
      rintro e w6 ⟨rfl,hB6⟩
      have MD6:=Lib.hid (MD5.out.grow hB6)
      have IC6:=Lib.hid (IC5.out.grow hB6)
      have hs6:=hB6.size
      clear hB6
      have l0:=heapN_cellj MD6.out.c0 (k:=1) rfl
      have l2:=heapN_cellj MD6.out.c2 (k:=0) rfl
      have lv:=heapN_cellj MD6.out.c2 (k:=1) rfl
      obtain ⟨f0,f1,f2,f3,f4⟩:=HRD.out ⟨w6,MD6.out.bel⟩
      have x0:=IC6.out.c0
      have x1:=IC6.out.c1
      have x2:=IC6.out.c2
      have x3:=IC6.out.c3
      have x4:=IC6.out.c4
      have z1:=IC6.out.frozen 1
      have z2:=IC6.out.frozen 2
      have z3:=IC6.out.frozen 3
      have z4:=IC6.out.frozen 4
      dsimp only at f0 f1 f2 f3 f4 x0 x1 x2 x3 x4
      have hvin:vinB k N ⟨3,0,0,0,0⟩ = true:=by
       simp [vinB]
      have HVI:=Lib.hid hvin
      have hrow:=MD6.out.row
      rw [HT.out] at hrow
      have HR9:=Lib.hid hrow
      clear hvin hrow
      have hnew:∀ j u,(encI ⟨3,0,0,0,0⟩)[j]? = some u→((w6).alloc (.cells #[.int .i64 (3),.int .i64 (0),.int .i64 (0),.int .i64 (0),.int .i64 (0)] 75)).cell? ((⟨w6.heap.size,0,none⟩:Addr).add j) = some u:=by
       have h:=new_i (w6) ⟨3,0,0,0,0⟩
       exact h
      have HNEW:=Lib.hid hnew
      clear hnew
      go_wp2_with (at_builtin; go_loud (refine wpList_append_own _ rfl (.tmp 98) (.tmp 100) 32 rfl (w.heap.size+3) 75 i0 (.agg #[.int .i64 0,.int .i64 0,.int .i64 0,.int .i64 0,.int .i64 0]) 5 40 Tryz.underlying32 hi hz0 hz1 hz2 rfl (by decide) (.slice pv k cv) k _ rfl (HR9.out.alloc _) ⟨w6.heap.size,0,none⟩ 1 1 (encI ⟨3,0,0,0,0⟩) rfl rfl HNEW.out (one_i _) (by unfold maxLen; omega) (by omega) (by rw [alloc_sz]; have:=MD6.out.sz; omega) ?_))
      intro v' w8 hown' hgrow _
      have MDA:=MD6.out.grow ((Below.refl (w6).heap.size (w6)).alloc (Nat.le_refl _) (.cells #[.int .i64 (3),.int .i64 (0),.int .i64 (0),.int .i64 (0),.int .i64 (0)] 75))
      obtain ⟨p8,c8,rfl⟩:=own_slice hown'
      have hc8:=(hgrow.block _ (by have:=MDA.sz; omega) (fun e=>by have h:=MDA.row; rw [HT.out] at h; have:=(h.lt _ e.symm).1; omega)).trans MDA.c2
      have HP:=MDA.push (x:=⟨3,0,0,0,0⟩) (W':=w8) (p':=p8) (c':=c8) (by rw [HT.out]; exact hown') hgrow
      rw [HT.out] at HP
      have u1:=heapN_cellj hc8 (k:=1) rfl
      have u2:w8.frozen? ⟨w.heap.size+2,1,none⟩ = false:=by simp [World.frozen?,hc8]
      have HPH:=Lib.hid HP
      clear hown' hgrow MDA hc8 HP
      clear l0 l2 lv f0 f1 f2 f3 f4 x0 x1 x2 x3 x4 z1 z2 z3 z4
      go_wp2_with (fail)
      go_roundw
      case rel =>
       exact ⟨k+1,_,T ++ [⟨3,0,0,0,0⟩],by go_num,by omega,by omega,by simp [HT.out],Lib.hid (vl_snoc HVT.out (by rw [HT.out]; exact HVI.out)),HPH⟩
      case measure=>simp [intOf]; omega
    ·rw [hr] at KA
     have hk0:k ≠ 0:=fun h=>by have:=h0 h; omega
     have hkn:(k:Int) ≠ 0:=by omega
     have hkz:((k:Int) == 0) = false:=by simp; omega
     have pa:0 ≤ a % 256:=by omega
     have pb:0 ≤ b % 256:=by omega
     have e1:(o2 == 1) = false:=by simp; omega
     have e2:(o2 == 2) = false:=by simp; omega
     have ha1:=Int.emod_nonneg (a % 256) (b:=k) (by omega)
     have ha2:=Int.emod_lt_of_pos (a % 256) (b:=k) (by omega)
     have hb1:=Int.emod_nonneg (b % 256) (b:=k) (by omega)
     have hb2:=Int.emod_lt_of_pos (b % 256) (b:=k) (by omega)
     have HOP:=Lib.hid hop
     clear hop
     go_wp2_with (fail)
     generalize hWa:World.alloc wc _ = Wa at *
     clear hWa
     refine (KA.out _).mono ?_
     rintro e w5 ⟨rfl,hB5⟩
     have MD5:=Lib.hid (MD0.out.grow hB5)
     have IC5:=Lib.hid (IC0.out.grow hB5)
     have hs5:=hB5.size
     clear hB5
     have l0:=heapN_cellj MD5.out.c0 (k:=1) rfl
     have l2:=heapN_cellj MD5.out.c2 (k:=0) rfl
     have lv:=heapN_cellj MD5.out.c2 (k:=1) rfl
     obtain ⟨f0,f1,f2,f3,f4⟩:=HRD.out ⟨w5,MD5.out.bel⟩
     have x0:=IC5.out.c0
     have x1:=IC5.out.c1
     have x2:=IC5.out.c2
     have x3:=IC5.out.c3
     have x4:=IC5.out.c4
     have z1:=IC5.out.frozen 1
     have z2:=IC5.out.frozen 2
     have z3:=IC5.out.frozen 3
     have z4:=IC5.out.frozen 4
     dsimp only at f0 f1 f2 f3 f4 x0 x1 x2 x3 x4
     have MD5s:=Lib.hid (MD5.out.set IC5.out (by omega) (fun g e=>by have:=hnv.out g e; omega) 1 (.int .i64 (a % 256 % k)))
     have IC5s:Hid (IsC (w5.setCell ⟨wc.heap.size,1,none⟩ (.int .i64 (a % 256 % k))) wc.heap.size ⟨o2,a % 256 % k,0,0,0⟩):=Lib.hid (cellsT_setN (o:=1) (u:=.int .i64 (a % 256 % k)) IC5.out)
     go_wp2_with (fail)
     refine (KA.out _).mono ?_
     rintro e w6 ⟨rfl,hB6⟩
     have MD6:=Lib.hid (MD5s.out.grow hB6)
     have IC6:=Lib.hid (IC5s.out.grow hB6)
     have hs6:=hB6.size
     clear hB6
     clear l0 l2 lv f0 f1 f2 f3 f4 x0 x1 x2 x3 x4 z1 z2 z3 z4
     have l0:=heapN_cellj MD6.out.c0 (k:=1) rfl
     have l2:=heapN_cellj MD6.out.c2 (k:=0) rfl
     have lv:=heapN_cellj MD6.out.c2 (k:=1) rfl
     obtain ⟨f0,f1,f2,f3,f4⟩:=HRD.out ⟨w6,MD6.out.bel⟩
     have x0:=IC6.out.c0
     have x1:=IC6.out.c1
     have x2:=IC6.out.c2
     have x3:=IC6.out.c3
     have x4:=IC6.out.c4
     have z1:=IC6.out.frozen 1
     have z2:=IC6.out.frozen 2
     have z3:=IC6.out.frozen 3
     have z4:=IC6.out.frozen 4
     dsimp only at f0 f1 f2 f3 f4 x0 x1 x2 x3 x4
     have hvin:vinB k N ⟨o2,a % 256 % k,0,0,0⟩ = true:=by
      have hop:=HOP.out
      unfold vinB ixB
      dsimp only
      rw [if_neg (by omega),if_neg (by omega),if_neg (by omega),if_pos hop]
      simp
      omega
     have HVI:=Lib.hid hvin
     have hrow:=MD6.out.row
     rw [HT.out] at hrow
     have HR9:=Lib.hid hrow
     clear hvin hrow
     have hnew:∀ j u,(encI ⟨o2,a % 256 % k,0,0,0⟩)[j]? = some u→((w6).alloc (.cells #[.int .i64 (o2),.int .i64 (a % 256 % k),.int .i64 (0),.int .i64 (0),.int .i64 (0)] 75)).cell? ((⟨w6.heap.size,0,none⟩:Addr).add j) = some u:=by
      have h:=new_i (w6) ⟨o2,a % 256 % k,0,0,0⟩
      exact h
     have HNEW:=Lib.hid hnew
     clear hnew
     go_wp2_with (at_builtin; go_loud (refine wpList_append_own _ rfl (.tmp 98) (.tmp 100) 32 rfl (w.heap.size+3) 75 i0 (.agg #[.int .i64 0,.int .i64 0,.int .i64 0,.int .i64 0,.int .i64 0]) 5 40 Tryz.underlying32 hi hz0 hz1 hz2 rfl (by decide) (.slice pv k cv) k _ rfl (HR9.out.alloc _) ⟨w6.heap.size,0,none⟩ 1 1 (encI ⟨o2,a % 256 % k,0,0,0⟩) rfl rfl HNEW.out (one_i _) (by unfold maxLen; omega) (by omega) (by rw [alloc_sz]; have:=MD6.out.sz; omega) ?_))
     intro v' w8 hown' hgrow _
     have MDA:=MD6.out.grow ((Below.refl (w6).heap.size (w6)).alloc (Nat.le_refl _) (.cells #[.int .i64 (o2),.int .i64 (a % 256 % k),.int .i64 (0),.int .i64 (0),.int .i64 (0)] 75))
     obtain ⟨p8,c8,rfl⟩:=own_slice hown'
     have hc8:=(hgrow.block _ (by have:=MDA.sz; omega) (fun e=>by have h:=MDA.row; rw [HT.out] at h; have:=(h.lt _ e.symm).1; omega)).trans MDA.c2
     have HP:=MDA.push (x:=⟨o2,a % 256 % k,0,0,0⟩) (W':=w8) (p':=p8) (c':=c8) (by rw [HT.out]; exact hown') hgrow
     rw [HT.out] at HP
     have u1:=heapN_cellj hc8 (k:=1) rfl
     have u2:w8.frozen? ⟨w.heap.size+2,1,none⟩ = false:=by simp [World.frozen?,hc8]
     have HPH:=Lib.hid HP
     clear hown' hgrow MDA hc8 HP
     clear l0 l2 lv f0 f1 f2 f3 f4 x0 x1 x2 x3 x4 z1 z2 z3 z4
     go_wp2_with (fail)
     go_roundw
     case rel =>
      exact ⟨k+1,_,T ++ [⟨o2,a % 256 % k,0,0,0⟩],by go_num,by omega,by omega,by simp [HT.out],Lib.hid (vl_snoc HVT.out (by rw [HT.out]; exact HVI.out)),HPH⟩
     case measure=>simp [intOf]; omega
    ·rw [hr] at KA
     have hk0:k ≠ 0:=fun h=>by have:=h0 h; omega
     have hkn:(k:Int) ≠ 0:=by omega
     have hkz:((k:Int) == 0) = false:=by simp; omega
     have pa:0 ≤ a % 256:=by omega
     have pb:0 ≤ b % 256:=by omega
     have e1:(o2 == 1) = false:=by simp; omega
     have e2:(o2 == 2) = false:=by simp; omega
     have ha1:=Int.emod_nonneg (a % 256) (b:=k) (by omega)
     have ha2:=Int.emod_lt_of_pos (a % 256) (b:=k) (by omega)
     have hb1:=Int.emod_nonneg (b % 256) (b:=k) (by omega)
     have hb2:=Int.emod_lt_of_pos (b % 256) (b:=k) (by omega)
     have HOP:=Lib.hid hop
     clear hop
     go_wp2_with (fail)
     generalize hWa:World.alloc wc _ = Wa at *
     clear hWa
     refine (KA.out _).mono ?_
     rintro e w5 ⟨rfl,hB5⟩
     have MD5:=Lib.hid (MD0.out.grow hB5)
     have IC5:=Lib.hid (IC0.out.grow hB5)
     have hs5:=hB5.size
     clear hB5
     have l0:=heapN_cellj MD5.out.c0 (k:=1) rfl
     have l2:=heapN_cellj MD5.out.c2 (k:=0) rfl
     have lv:=heapN_cellj MD5.out.c2 (k:=1) rfl
     obtain ⟨f0,f1,f2,f3,f4⟩:=HRD.out ⟨w5,MD5.out.bel⟩
     have x0:=IC5.out.c0
     have x1:=IC5.out.c1
     have x2:=IC5.out.c2
     have x3:=IC5.out.c3
     have x4:=IC5.out.c4
     have z1:=IC5.out.frozen 1
     have z2:=IC5.out.frozen 2
     have z3:=IC5.out.frozen 3
     have z4:=IC5.out.frozen 4
     dsimp only at f0 f1 f2 f3 f4 x0 x1 x2 x3 x4
     have MD5s:=Lib.hid (MD5.out.set IC5.out (by omega) (fun g e=>by have:=hnv.out g e; omega) 1 (.int .i64 (a % 256 % k)))
     have IC5s:Hid (IsC (w5.setCell ⟨wc.heap.size,1,none⟩ (.int .i64 (a % 256 % k))) wc.heap.size ⟨o2,a % 256 % k,0,0,0⟩):=Lib.hid (cellsT_setN (o:=1) (u:=.int .i64 (a % 256 % k)) IC5.out)
     go_wp2_with (fail)
     refine (KA.out _).mono ?_
     rintro e w6 ⟨rfl,hB6⟩
     have MD6:=Lib.hid (MD5s.out.grow hB6)
     have IC6:=Lib.hid (IC5s.out.grow hB6)
     have hs6:=hB6.size
     clear hB6
     clear l0 l2 lv f0 f1 f2 f3 f4 x0 x1 x2 x3 x4 z1 z2 z3 z4
     have MD9:=Lib.hid (MD6.out.set IC6.out (by omega) (fun g e=>by have:=hnv.out g e; omega) 2 (.int .i64 (b % 256 % k)))
     have IC9:Hid (IsC (w6.setCell ⟨wc.heap.size,2,none⟩ (.int .i64 (b % 256 % k))) wc.heap.size ⟨o2,a % 256 % k,b % 256 % k,0,0⟩):=Lib.hid (cellsT_setN (o:=2) (u:=.int .i64 (b % 256 % k)) IC6.out)
     have l0:=heapN_cellj MD6.out.c0 (k:=1) rfl
     have l2:=heapN_cellj MD6.out.c2 (k:=0) rfl
     have lv:=heapN_cellj MD6.out.c2 (k:=1) rfl
     obtain ⟨f0,f1,f2,f3,f4⟩:=HRD.out ⟨w6,MD6.out.bel⟩
     have x0:=IC6.out.c0
     have x1:=IC6.out.c1
     have x2:=IC6.out.c2
     have x3:=IC6.out.c3
     have x4:=IC6.out.c4
     have z1:=IC6.out.frozen 1
     have z2:=IC6.out.frozen 2
     have z3:=IC6.out.frozen 3
     have z4:=IC6.out.frozen 4
     dsimp only at f0 f1 f2 f3 f4 x0 x1 x2 x3 x4
     have hvin:vinB k N ⟨o2,a % 256 % k,b % 256 % k,0,0⟩ = true:=by
      have hop:=HOP.out
      unfold vinB ixB
      dsimp only
      rw [if_neg (by omega),if_neg (by omega),if_neg (by omega),if_neg (by omega),if_pos hop]
      simp
      omega
     have HVI:=Lib.hid hvin
     have hrow:=MD9.out.row
     rw [HT.out] at hrow
     have HR9:=Lib.hid hrow
     clear hvin hrow
     have hnew:∀ j u,(encI ⟨o2,a % 256 % k,b % 256 % k,0,0⟩)[j]? = some u→(((w6.setCell ⟨wc.heap.size,2,none⟩ (.int .i64 (b % 256 % k)))).alloc (.cells #[.int .i64 (o2),.int .i64 (a % 256 % k),.int .i64 (b % 256 % k),.int .i64 (0),.int .i64 (0)] 75)).cell? ((⟨w6.heap.size,0,none⟩:Addr).add j) = some u:=by
      have h:=new_i ((w6.setCell ⟨wc.heap.size,2,none⟩ (.int .i64 (b % 256 % k)))) ⟨o2,a % 256 % k,b % 256 % k,0,0⟩
      rw [show ((w6.setCell ⟨wc.heap.size,2,none⟩ (.int .i64 (b % 256 % k)))).heap.size = w6.heap.size by first | exact size_setM _ _ _ | rw [size_setM]] at h
      exact h
     have HNEW:=Lib.hid hnew
     clear hnew
     go_wp2_with (at_builtin; go_loud (refine wpList_append_own _ rfl (.tmp 98) (.tmp 100) 32 rfl (w.heap.size+3) 75 i0 (.agg #[.int .i64 0,.int .i64 0,.int .i64 0,.int .i64 0,.int .i64 0]) 5 40 Tryz.underlying32 hi hz0 hz1 hz2 rfl (by decide) (.slice pv k cv) k _ rfl (HR9.out.alloc _) ⟨w6.heap.size,0,none⟩ 1 1 (encI ⟨o2,a % 256 % k,b % 256 % k,0,0⟩) rfl rfl HNEW.out (one_i _) (by unfold maxLen; omega) (by omega) (by rw [alloc_sz]; have:=MD9.out.sz; omega) ?_))
     intro v' w8 hown' hgrow _
     have MDA:=MD9.out.grow ((Below.refl ((w6.setCell ⟨wc.heap.size,2,none⟩ (.int .i64 (b % 256 % k)))).heap.size ((w6.setCell ⟨wc.heap.size,2,none⟩ (.int .i64 (b % 256 % k))))).alloc (Nat.le_refl _) (.cells #[.int .i64 (o2),.int .i64 (a % 256 % k),.int .i64 (b % 256 % k),.int .i64 (0),.int .i64 (0)] 75))
     obtain ⟨p8,c8,rfl⟩:=own_slice hown'
     have hc8:=(hgrow.block _ (by have:=MDA.sz; omega) (fun e=>by have h:=MDA.row; rw [HT.out] at h; have:=(h.lt _ e.symm).1; omega)).trans MDA.c2
     have HP:=MDA.push (x:=⟨o2,a % 256 % k,b % 256 % k,0,0⟩) (W':=w8) (p':=p8) (c':=c8) (by rw [HT.out]; exact hown') hgrow
     rw [HT.out] at HP
     have u1:=heapN_cellj hc8 (k:=1) rfl
     have u2:w8.frozen? ⟨w.heap.size+2,1,none⟩ = false:=by simp [World.frozen?,hc8]
     have HPH:=Lib.hid HP
     clear hown' hgrow MDA hc8 HP
     clear l0 l2 lv f0 f1 f2 f3 f4 x0 x1 x2 x3 x4 z1 z2 z3 z4
     go_wp2_with (fail)
     go_roundw
     case rel =>
      exact ⟨k+1,_,T ++ [⟨o2,a % 256 % k,b % 256 % k,0,0⟩],by go_num,by omega,by omega,by simp [HT.out],Lib.hid (vl_snoc HVT.out (by rw [HT.out]; exact HVI.out)),HPH⟩
     case measure=>simp [intOf]; omega
  ·have hrl:=HMD.out.row
   obtain ⟨pv,cv,rfl⟩:=own_slice hrl
   have hsz0:=HMD.out.sz
   rw [HT.out] at HMD
   have lv:=heapN_cellj HMD.out.c2 (k:=1) rfl
   have u2:wr.frozen? ⟨w.heap.size+2,1,none⟩ = false:=by simp [World.frozen?,HMD.out.c2]
   clear hrl
   by_cases hk0:k = 0
   ·subst hk0
    have i2:¬ ((0:Nat):Int) < Lr.length:=by omega
    have i7:(Lr.length:Int) ≤ 0:=by omega
    obtain rfl:T = []:=List.eq_nil_of_length_eq_zero HT.out
    have hown:(wr.alloc (.cells #[.int .i64 2,.int .i64 0,.int .i64 0,.int .i64 0,.int .i64 0] 75)).ownsRow (w.heap.size+3) 75 5 (.slice (some ⟨wr.heap.size,0,none⟩) 1 1) 1 (cr encI [] ++ encI ⟨2,0,0,0,0⟩) :=
     ⟨rfl,.inr ⟨wr.heap.size,1,_,rfl,hsz0,World.alloc_heap_new wr _,Nat.le_refl _,by decide,rfl,by simp [encI,cr]⟩⟩
    have MDc:=Lib.hid (HMD.out.push (x:=⟨2,0,0,0,0⟩) (p':=some ⟨wr.heap.size,0,none⟩) (c':=1) hown (World.grownBy_alloc wr _ _))
    have HVL:Hid (VL (N:Int) [⟨2,0,0,0,0⟩]):=Lib.hid (fun k x hx=>by
     rcases k with _ | k
     ·simp at hx
      subst hx
      simp [vinB,ixB]
      omega
     ·simp at hx)
    have MDw:=HMD.out.grow ((Below.refl wr.heap.size wr).alloc (Nat.le_refl _) (.cells #[.int .i64 2,.int .i64 0,.int .i64 0,.int .i64 0,.int .i64 0] 75))
    have v1:=heapN_cellj MDw.c2 (k:=1) rfl
    have v2:(wr.alloc (.cells #[.int .i64 2,.int .i64 0,.int .i64 0,.int .i64 0,.int .i64 0] 75)).frozen? ⟨w.heap.size+2,1,none⟩ = false:=by simp only [World.frozen?,MDw.c2]; rfl
    clear hown HMD MDw
    go_wp2_with (fail)
    generalize wr.heap.size = bz at *
    go_loopw [9] (fun i wx=>∃ (j:Nat) (r:Value) (O:List Int),i = .int .i64 j∧j ≤ N∧O.length = j∧Hid (∀ y ∈ O,ixB y ((1:Nat):Int) = true)∧Hid (MdI w n0 (.slice pl Lr.length cl) (.slice po outr.length co) N (.slice (some ⟨bz,0,none⟩) 1 1) r [⟨2,0,0,0,0⟩] O wx)) (fun i _=>N - (intOf i).toNat)
    case atStart=>exact ⟨0,_,[],rfl,Nat.zero_le _,rfl,Lib.hid (fun y hy=>by simp at hy),MDc⟩
    case round =>
     clear MDc
     obtain ⟨j,r,O,rfl,hj,hO,HOB,HMO⟩:=hrel
     have hOH:=Lib.hid hO
     clear hO
     obtain ⟨pr,cr',rfl⟩:=own_slice HMO.out.ints
     have m0:=heapN_cellj HMO.out.c2 (k:=0) rfl
     have m1:=heapN_cellj HMO.out.c2 (k:=1) rfl
     have m2:=heapN_cellj HMO.out.c2 (k:=2) rfl
     have m3:=heapN_cellj HMO.out.c0 (k:=2) rfl
     rw [hOH.out] at m2
     by_cases hjn:j < N
     ·have i5:(j:Int) < N:=by omega
      by_cases hjo:j < outr.length
      ·have i6:(j:Int) < outr.length:=by omega
       obtain ⟨y,hy⟩:∃ y,outr[j]? = some y:=⟨_,List.getElem?_eq_getElem hjo⟩
       obtain ⟨bo,oo,hpo,hbo,rdo⟩:=px_rd HO.out hy
       subst hpo
       have g0:=rdo ⟨wr,HMO.out.bel⟩
       dsimp only at g0
       have py:0 ≤ y % 65536:=by omega
       have hnz:(((1:Nat):Int) == 0) = false:=by first | (simp; done) | (simp; omega)
       have hnn:((1:Nat):Int) ≠ 0:=by omega
       have py1:=Int.emod_nonneg (y % 65536) (b:=((1:Nat):Int)) (by omega)
       have py2:=Int.emod_lt_of_pos (y % 65536) (b:=((1:Nat):Int)) (by omega)
       clear hy rdo
       go_wp2_with (fail)
       go_region
       have hrw:=HMO.out.ints
       rw [hOH.out] at hrw
       have HRW:=Lib.hid hrw
       have hsz:=HMO.out.sz
       clear hrw
       go_wp2_with (at_builtin; go_loud (refine wpList_append_own _ rfl (.tmp 136) (.tmp 138) 33 rfl (w.heap.size+3) 3 i1 (.int .i64 0) 1 8 Tryz.underlying33 hi1 hy0 hy1 hy2 rfl (by decide) (.slice pr j cr') j _ rfl (own_keptN (HRW.out.alloc _) ((Below.refl _ _).drew)) ⟨wr.heap.size,0,none⟩ 1 1 [.int .i64 (0)] rfl rfl (new_one _ _ _) (one_i64' _) (by unfold maxLen; omega) (by omega) (by show _ ≤ (World.alloc _ _).heap.size; rw [alloc_sz]; omega) ?_))
       intro v' w8 hown' hgrow _
       have MDA:=HMO.out.grow (((Below.refl wr.heap.size wr).alloc (Nat.le_refl _) (.cells #[.int .i64 (0)] 3)).drew)
       obtain ⟨p8,c8,rfl⟩:=own_slice hown'
       have hc8:=(hgrow.block _ (by have:=MDA.sz; omega) (fun e=>by have h:=MDA.ints; rw [hOH.out] at h; have:=(h.lt _ e.symm).1; omega)).trans MDA.c2
       have HP:=MDA.push1 (x:=0) (W':=w8) (p':=p8) (c':=c8) (by rw [hOH.out]; exact hown') (by rw [hOH.out]; exact hgrow)
       rw [hOH.out] at HP
       have u1:=heapN_cellj hc8 (k:=2) rfl
       have u2:w8.frozen? ⟨w.heap.size+2,2,none⟩ = false:=by simp [World.frozen?,hc8]
       have HPH:=Lib.hid HP
       clear hown' hgrow MDA hc8 HP m0 m1 m2 m3
       go_wp2_with (fail)
       go_roundw
       case rel =>
        exact ⟨j+1,_,O ++ [0],by go_num,by omega,by simp [hOH.out],Lib.hid (fun z hz=>by
         rcases List.mem_append.1 hz with h | h
         ·exact HOB.out z h
         ·simp at h
          subst h
          unfold ixB
          first
           | (simp; done)
           | (simp; omega)),HPH⟩
       case measure=>simp [intOf]; omega
      ·have i6:¬ (j:Int) < outr.length:=by omega
       have hrw:=HMO.out.ints
       rw [hOH.out] at hrw
       have HRW:=Lib.hid hrw
       have hsz:=HMO.out.sz
       clear hrw
       go_wp2_with (at_builtin; go_loud (refine wpList_append_own _ rfl (.tmp 136) (.tmp 138) 33 rfl (w.heap.size+3) 3 i1 (.int .i64 0) 1 8 Tryz.underlying33 hi1 hy0 hy1 hy2 rfl (by decide) (.slice pr j cr') j _ rfl (HRW.out.alloc _) ⟨wr.heap.size,0,none⟩ 1 1 [.int .i64 (0)] rfl rfl (new_one _ _ _) (one_i64' _) (by unfold maxLen; omega) (by omega) (by rw [alloc_sz]; omega) ?_))
       intro v' w8 hown' hgrow _
       have MDA:=HMO.out.grow ((Below.refl wr.heap.size wr).alloc (Nat.le_refl _) (.cells #[.int .i64 (0)] 3))
       obtain ⟨p8,c8,rfl⟩:=own_slice hown'
       have hc8:=(hgrow.block _ (by have:=MDA.sz; omega) (fun e=>by have h:=MDA.ints; rw [hOH.out] at h; have:=(h.lt _ e.symm).1; omega)).trans MDA.c2
       have HP:=MDA.push1 (x:=0) (W':=w8) (p':=p8) (c':=c8) (by rw [hOH.out]; exact hown') (by rw [hOH.out]; exact hgrow)
       rw [hOH.out] at HP
       have u1:=heapN_cellj hc8 (k:=2) rfl
       have u2:w8.frozen? ⟨w.heap.size+2,2,none⟩ = false:=by simp [World.frozen?,hc8]
       have HPH:=Lib.hid HP
       clear hown' hgrow MDA hc8 HP m0 m1 m2 m3
       go_wp2_with (fail)
       go_roundw
       case rel =>
        exact ⟨j+1,_,O ++ [0],by go_num,by omega,by simp [hOH.out],Lib.hid (fun z hz=>by
         rcases List.mem_append.1 hz with h | h
         ·exact HOB.out z h
         ·simp at h
          subst h
          unfold ixB
          first
           | (simp; done)
           | (simp; omega)),HPH⟩
       case measure=>simp [intOf]; omega
     ·obtain rfl:j = N:=by omega
      have i5:¬ (j:Int) < j:=by omega
      have n1:=heapN_cellj HMO.out.c1 (k:=0) rfl
      have n2:=heapN_cellj HMO.out.c1 (k:=1) rfl
      have n3:=heapN_cellj HMO.out.c1 (k:=2) rfl
      have z1:wr.frozen? ⟨w.heap.size+1,0,none⟩ = false:=by simp [World.frozen?,HMO.out.c1]
      have z2:wr.frozen? ⟨w.heap.size+1,1,none⟩ = false:=by simp [World.frozen?,HMO.out.c1]
      have z3:wr.frozen? ⟨w.heap.size+1,2,none⟩ = false:=by simp [World.frozen?,HMO.out.c1]
      go_wp2_with (fail)
      have hs0:=cellsT_setN (o:=0) (u:=.int .i64 j) HMO.out.c1
      have hs1:=cellsT_setN (o:=1) (u:=.slice (some ⟨bz,0,none⟩) 1 1) hs0
      have hs2:=cellsT_setN (o:=2) (u:=.slice pr j cr') hs1
      have y0:=heapN_cellj hs2 (k:=0) (u:=.int .i64 j) rfl
      have y1:=heapN_cellj hs2 (k:=1) (u:=.slice (some ⟨bz,0,none⟩) 1 1) rfl
      have y2:=heapN_cellj hs2 (k:=2) (u:=.slice pr j cr') rfl
      have hV:=HVL.out
      have hOl:=hOH.out
      have hTl:([⟨2,0,0,0,0⟩]:List Is).length = 1:=rfl
      have hrow:=own_base (own_setT (own_setT (own_setT HMO.out.row HMO.out.c1 (by decide) _ _) hs0 (by decide) _ _) hs1 (by decide) (2:Nat) (.slice pr j cr')) (show w.heap.size ≤ w.heap.size+3 by omega)
      have hin0:=HMO.out.ints
      rw [hOl] at hin0
      have hint:=own_base (own_setT (own_setT (own_setT hin0 HMO.out.c1 (by decide) 0 (.int .i64 j)) hs0 (by decide) 1 (.slice (some ⟨bz,0,none⟩) 1 1)) hs1 (by decide) (2:Nat) (.slice pr j cr')) (show w.heap.size ≤ w.heap.size+3 by omega)
      exact bodyPost_ret (v:=.agg #[.int .i64 j,.slice (some ⟨bz,0,none⟩) 1 1,.slice pr j cr']) (by simp [results,Tryz.results57,go_sem,y0,y1,y2]) rfl ⟨j,[⟨2,0,0,0,0⟩],O,_,_,rfl,hrow,by rw [hOl]; exact hint,tv_of (by omega) (by omega) (by omega) rfl hOl hV (fun y hy=>by rw [hTl]; exact HOB.out y hy),hN3,by omega,by omega,((HMO.out.bel.setCell (p:=⟨w.heap.size+1,0,none⟩) (by dsimp only; omega) _).setCell (p:=⟨w.heap.size+1,1,none⟩) (by dsimp only; omega) _).setCell (p:=⟨w.heap.size+1,2,none⟩) (by dsimp only; omega) _⟩
   ·have hkz:((k:Int) == 0) = false:=by simp; omega
    by_cases hkl:k = Lr.length
    ·have i2:¬ (k:Int) < Lr.length:=by omega
     have i7:(Lr.length:Int) ≤ k:=by omega
     clear hkl
     go_wp2_with (fail)
     go_loopw [9] (fun i wx=>∃ (j:Nat) (r:Value) (O:List Int),i = .int .i64 j∧j ≤ N∧O.length = j∧Hid (∀ y ∈ O,ixB y ((k:Nat):Int) = true)∧Hid (MdI w n0 (.slice pl Lr.length cl) (.slice po outr.length co) N (.slice pv k cv) r T O wx)) (fun i _=>N - (intOf i).toNat)
     case atStart=>exact ⟨0,_,[],rfl,Nat.zero_le _,rfl,Lib.hid (fun y hy=>by simp at hy),HMD⟩
     case round =>
      clear HMD
      obtain ⟨j,r,O,rfl,hj,hO,HOB,HMO⟩:=hrel
      have hOH:=Lib.hid hO
      clear hO
      obtain ⟨pr,cr',rfl⟩:=own_slice HMO.out.ints
      have m0:=heapN_cellj HMO.out.c2 (k:=0) rfl
      have m1:=heapN_cellj HMO.out.c2 (k:=1) rfl
      have m2:=heapN_cellj HMO.out.c2 (k:=2) rfl
      have m3:=heapN_cellj HMO.out.c0 (k:=2) rfl
      rw [hOH.out] at m2
      by_cases hjn:j < N
      ·have i5:(j:Int) < N:=by omega
       by_cases hjo:j < outr.length
       ·have i6:(j:Int) < outr.length:=by omega
        obtain ⟨y,hy⟩:∃ y,outr[j]? = some y:=⟨_,List.getElem?_eq_getElem hjo⟩
        obtain ⟨bo,oo,hpo,hbo,rdo⟩:=px_rd HO.out hy
        subst hpo
        have g0:=rdo ⟨wr,HMO.out.bel⟩
        dsimp only at g0
        have py:0 ≤ y % 65536:=by omega
        have hnz:(((k:Nat):Int) == 0) = false:=by first | (simp; done) | (simp; omega)
        have hnn:((k:Nat):Int) ≠ 0:=by omega
        have py1:=Int.emod_nonneg (y % 65536) (b:=((k:Nat):Int)) (by omega)
        have py2:=Int.emod_lt_of_pos (y % 65536) (b:=((k:Nat):Int)) (by omega)
        clear hy rdo
        go_wp2_with (fail)
        go_region
        have hrw:=HMO.out.ints
        rw [hOH.out] at hrw
        have HRW:=Lib.hid hrw
        have hsz:=HMO.out.sz
        clear hrw
        go_wp2_with (at_builtin; go_loud (refine wpList_append_own _ rfl (.tmp 136) (.tmp 138) 33 rfl (w.heap.size+3) 3 i1 (.int .i64 0) 1 8 Tryz.underlying33 hi1 hy0 hy1 hy2 rfl (by decide) (.slice pr j cr') j _ rfl (own_keptN (HRW.out.alloc _) ((Below.refl _ _).drew)) ⟨wr.heap.size,0,none⟩ 1 1 [.int .i64 (y % 65536 % ((k:Nat):Int))] rfl rfl (new_one _ _ _) (one_i64' _) (by unfold maxLen; omega) (by omega) (by show _ ≤ (World.alloc _ _).heap.size; rw [alloc_sz]; omega) ?_))
        intro v' w8 hown' hgrow _
        have MDA:=HMO.out.grow (((Below.refl wr.heap.size wr).alloc (Nat.le_refl _) (.cells #[.int .i64 (y % 65536 % ((k:Nat):Int))] 3)).drew)
        obtain ⟨p8,c8,rfl⟩:=own_slice hown'
        have hc8:=(hgrow.block _ (by have:=MDA.sz; omega) (fun e=>by have h:=MDA.ints; rw [hOH.out] at h; have:=(h.lt _ e.symm).1; omega)).trans MDA.c2
        have HP:=MDA.push1 (x:=y % 65536 % ((k:Nat):Int)) (W':=w8) (p':=p8) (c':=c8) (by rw [hOH.out]; exact hown') (by rw [hOH.out]; exact hgrow)
        rw [hOH.out] at HP
        have u1:=heapN_cellj hc8 (k:=2) rfl
        have u2:w8.frozen? ⟨w.heap.size+2,2,none⟩ = false:=by simp [World.frozen?,hc8]
        have HPH:=Lib.hid HP
        clear hown' hgrow MDA hc8 HP m0 m1 m2 m3
        go_wp2_with (fail)
        go_roundw
        case rel =>
         exact ⟨j+1,_,O ++ [y % 65536 % ((k:Nat):Int)],by go_num,by omega,by simp [hOH.out],Lib.hid (fun z hz=>by
          rcases List.mem_append.1 hz with h | h
          ·exact HOB.out z h
          ·simp at h
           subst h
           unfold ixB
           first
            | (simp; done)
            | (simp; omega)),HPH⟩
        case measure=>simp [intOf]; omega
       ·have i6:¬ (j:Int) < outr.length:=by omega
        have hrw:=HMO.out.ints
        rw [hOH.out] at hrw
        have HRW:=Lib.hid hrw
        have hsz:=HMO.out.sz
        clear hrw
        go_wp2_with (at_builtin; go_loud (refine wpList_append_own _ rfl (.tmp 136) (.tmp 138) 33 rfl (w.heap.size+3) 3 i1 (.int .i64 0) 1 8 Tryz.underlying33 hi1 hy0 hy1 hy2 rfl (by decide) (.slice pr j cr') j _ rfl (HRW.out.alloc _) ⟨wr.heap.size,0,none⟩ 1 1 [.int .i64 (((k:Nat):Int) - 1)] rfl rfl (new_one _ _ _) (one_i64' _) (by unfold maxLen; omega) (by omega) (by rw [alloc_sz]; omega) ?_))
        intro v' w8 hown' hgrow _
        have MDA:=HMO.out.grow ((Below.refl wr.heap.size wr).alloc (Nat.le_refl _) (.cells #[.int .i64 (((k:Nat):Int) - 1)] 3))
        obtain ⟨p8,c8,rfl⟩:=own_slice hown'
        have hc8:=(hgrow.block _ (by have:=MDA.sz; omega) (fun e=>by have h:=MDA.ints; rw [hOH.out] at h; have:=(h.lt _ e.symm).1; omega)).trans MDA.c2
        have HP:=MDA.push1 (x:=((k:Nat):Int) - 1) (W':=w8) (p':=p8) (c':=c8) (by rw [hOH.out]; exact hown') (by rw [hOH.out]; exact hgrow)
        rw [hOH.out] at HP
        have u1:=heapN_cellj hc8 (k:=2) rfl
        have u2:w8.frozen? ⟨w.heap.size+2,2,none⟩ = false:=by simp [World.frozen?,hc8]
        have HPH:=Lib.hid HP
        clear hown' hgrow MDA hc8 HP m0 m1 m2 m3
        go_wp2_with (fail)
        go_roundw
        case rel =>
         exact ⟨j+1,_,O ++ [((k:Nat):Int) - 1],by go_num,by omega,by simp [hOH.out],Lib.hid (fun z hz=>by
          rcases List.mem_append.1 hz with h | h
          ·exact HOB.out z h
          ·simp at h
           subst h
           unfold ixB
           first
            | (simp; done)
            | (simp; omega)),HPH⟩
        case measure=>simp [intOf]; omega
      ·obtain rfl:j = N:=by omega
       have i5:¬ (j:Int) < j:=by omega
       have n1:=heapN_cellj HMO.out.c1 (k:=0) rfl
       have n2:=heapN_cellj HMO.out.c1 (k:=1) rfl
       have n3:=heapN_cellj HMO.out.c1 (k:=2) rfl
       have z1:wr.frozen? ⟨w.heap.size+1,0,none⟩ = false:=by simp [World.frozen?,HMO.out.c1]
       have z2:wr.frozen? ⟨w.heap.size+1,1,none⟩ = false:=by simp [World.frozen?,HMO.out.c1]
       have z3:wr.frozen? ⟨w.heap.size+1,2,none⟩ = false:=by simp [World.frozen?,HMO.out.c1]
       go_wp2_with (fail)
       have hs0:=cellsT_setN (o:=0) (u:=.int .i64 j) HMO.out.c1
       have hs1:=cellsT_setN (o:=1) (u:=.slice pv k cv) hs0
       have hs2:=cellsT_setN (o:=2) (u:=.slice pr j cr') hs1
       have y0:=heapN_cellj hs2 (k:=0) (u:=.int .i64 j) rfl
       have y1:=heapN_cellj hs2 (k:=1) (u:=.slice pv k cv) rfl
       have y2:=heapN_cellj hs2 (k:=2) (u:=.slice pr j cr') rfl
       have hV:=HVT.out
       have hOl:=hOH.out
       have hTl:(T:List Is).length = k:=HT.out
       have hrow:=own_base (own_setT (own_setT (own_setT HMO.out.row HMO.out.c1 (by decide) _ _) hs0 (by decide) _ _) hs1 (by decide) (2:Nat) (.slice pr j cr')) (show w.heap.size ≤ w.heap.size+3 by omega)
       have hin0:=HMO.out.ints
       rw [hOl] at hin0
       have hint:=own_base (own_setT (own_setT (own_setT hin0 HMO.out.c1 (by decide) 0 (.int .i64 j)) hs0 (by decide) 1 (.slice pv k cv)) hs1 (by decide) (2:Nat) (.slice pr j cr')) (show w.heap.size ≤ w.heap.size+3 by omega)
       exact bodyPost_ret (v:=.agg #[.int .i64 j,.slice pv k cv,.slice pr j cr']) (by simp [results,Tryz.results57,go_sem,y0,y1,y2]) rfl ⟨j,T,O,_,_,rfl,hrow,by rw [hOl]; exact hint,tv_of (by omega) (by omega) (by omega) rfl hOl hV (fun y hy=>by rw [hTl]; exact HOB.out y hy),hN3,by omega,by omega,((HMO.out.bel.setCell (p:=⟨w.heap.size+1,0,none⟩) (by dsimp only; omega) _).setCell (p:=⟨w.heap.size+1,1,none⟩) (by dsimp only; omega) _).setCell (p:=⟨w.heap.size+1,2,none⟩) (by dsimp only; omega) _⟩
    ·have i2:(k:Int) < Lr.length:=by omega
     have i3:¬ (k:Int) < most:=by omega
     have i7:(most:Int) ≤ k:=by omega
     clear hkl
     go_wp2_with (fail)
     go_loopw [9] (fun i wx=>∃ (j:Nat) (r:Value) (O:List Int),i = .int .i64 j∧j ≤ N∧O.length = j∧Hid (∀ y ∈ O,ixB y ((k:Nat):Int) = true)∧Hid (MdI w n0 (.slice pl Lr.length cl) (.slice po outr.length co) N (.slice pv k cv) r T O wx)) (fun i _=>N - (intOf i).toNat)
     case atStart=>exact ⟨0,_,[],rfl,Nat.zero_le _,rfl,Lib.hid (fun y hy=>by simp at hy),HMD⟩
     case round =>
      clear HMD
      obtain ⟨j,r,O,rfl,hj,hO,HOB,HMO⟩:=hrel
      have hOH:=Lib.hid hO
      clear hO
      obtain ⟨pr,cr',rfl⟩:=own_slice HMO.out.ints
      have m0:=heapN_cellj HMO.out.c2 (k:=0) rfl
      have m1:=heapN_cellj HMO.out.c2 (k:=1) rfl
      have m2:=heapN_cellj HMO.out.c2 (k:=2) rfl
      have m3:=heapN_cellj HMO.out.c0 (k:=2) rfl
      rw [hOH.out] at m2
      by_cases hjn:j < N
      ·have i5:(j:Int) < N:=by omega
       by_cases hjo:j < outr.length
       ·have i6:(j:Int) < outr.length:=by omega
        obtain ⟨y,hy⟩:∃ y,outr[j]? = some y:=⟨_,List.getElem?_eq_getElem hjo⟩
        obtain ⟨bo,oo,hpo,hbo,rdo⟩:=px_rd HO.out hy
        subst hpo
        have g0:=rdo ⟨wr,HMO.out.bel⟩
        dsimp only at g0
        have py:0 ≤ y % 65536:=by omega
        have hnz:(((k:Nat):Int) == 0) = false:=by first | (simp; done) | (simp; omega)
        have hnn:((k:Nat):Int) ≠ 0:=by omega
        have py1:=Int.emod_nonneg (y % 65536) (b:=((k:Nat):Int)) (by omega)
        have py2:=Int.emod_lt_of_pos (y % 65536) (b:=((k:Nat):Int)) (by omega)
        clear hy rdo
        go_wp2_with (fail)
        go_region
        have hrw:=HMO.out.ints
        rw [hOH.out] at hrw
        have HRW:=Lib.hid hrw
        have hsz:=HMO.out.sz
        clear hrw
        go_wp2_with (at_builtin; go_loud (refine wpList_append_own _ rfl (.tmp 136) (.tmp 138) 33 rfl (w.heap.size+3) 3 i1 (.int .i64 0) 1 8 Tryz.underlying33 hi1 hy0 hy1 hy2 rfl (by decide) (.slice pr j cr') j _ rfl (own_keptN (HRW.out.alloc _) ((Below.refl _ _).drew)) ⟨wr.heap.size,0,none⟩ 1 1 [.int .i64 (y % 65536 % ((k:Nat):Int))] rfl rfl (new_one _ _ _) (one_i64' _) (by unfold maxLen; omega) (by omega) (by show _ ≤ (World.alloc _ _).heap.size; rw [alloc_sz]; omega) ?_))
        intro v' w8 hown' hgrow _
        have MDA:=HMO.out.grow (((Below.refl wr.heap.size wr).alloc (Nat.le_refl _) (.cells #[.int .i64 (y % 65536 % ((k:Nat):Int))] 3)).drew)
        obtain ⟨p8,c8,rfl⟩:=own_slice hown'
        have hc8:=(hgrow.block _ (by have:=MDA.sz; omega) (fun e=>by have h:=MDA.ints; rw [hOH.out] at h; have:=(h.lt _ e.symm).1; omega)).trans MDA.c2
        have HP:=MDA.push1 (x:=y % 65536 % ((k:Nat):Int)) (W':=w8) (p':=p8) (c':=c8) (by rw [hOH.out]; exact hown') (by rw [hOH.out]; exact hgrow)
        rw [hOH.out] at HP
        have u1:=heapN_cellj hc8 (k:=2) rfl
        have u2:w8.frozen? ⟨w.heap.size+2,2,none⟩ = false:=by simp [World.frozen?,hc8]
        have HPH:=Lib.hid HP
        clear hown' hgrow MDA hc8 HP m0 m1 m2 m3
        go_wp2_with (fail)
        go_roundw
        case rel =>
         exact ⟨j+1,_,O ++ [y % 65536 % ((k:Nat):Int)],by go_num,by omega,by simp [hOH.out],Lib.hid (fun z hz=>by
          rcases List.mem_append.1 hz with h | h
          ·exact HOB.out z h
          ·simp at h
           subst h
           unfold ixB
           first
            | (simp; done)
            | (simp; omega)),HPH⟩
        case measure=>simp [intOf]; omega
       ·have i6:¬ (j:Int) < outr.length:=by omega
        have hrw:=HMO.out.ints
        rw [hOH.out] at hrw
        have HRW:=Lib.hid hrw
        have hsz:=HMO.out.sz
        clear hrw
        go_wp2_with (at_builtin; go_loud (refine wpList_append_own _ rfl (.tmp 136) (.tmp 138) 33 rfl (w.heap.size+3) 3 i1 (.int .i64 0) 1 8 Tryz.underlying33 hi1 hy0 hy1 hy2 rfl (by decide) (.slice pr j cr') j _ rfl (HRW.out.alloc _) ⟨wr.heap.size,0,none⟩ 1 1 [.int .i64 (((k:Nat):Int) - 1)] rfl rfl (new_one _ _ _) (one_i64' _) (by unfold maxLen; omega) (by omega) (by rw [alloc_sz]; omega) ?_))
        intro v' w8 hown' hgrow _
        have MDA:=HMO.out.grow ((Below.refl wr.heap.size wr).alloc (Nat.le_refl _) (.cells #[.int .i64 (((k:Nat):Int) - 1)] 3))
        obtain ⟨p8,c8,rfl⟩:=own_slice hown'
        have hc8:=(hgrow.block _ (by have:=MDA.sz; omega) (fun e=>by have h:=MDA.ints; rw [hOH.out] at h; have:=(h.lt _ e.symm).1; omega)).trans MDA.c2
        have HP:=MDA.push1 (x:=((k:Nat):Int) - 1) (W':=w8) (p':=p8) (c':=c8) (by rw [hOH.out]; exact hown') (by rw [hOH.out]; exact hgrow)
        rw [hOH.out] at HP
        have u1:=heapN_cellj hc8 (k:=2) rfl
        have u2:w8.frozen? ⟨w.heap.size+2,2,none⟩ = false:=by simp [World.frozen?,hc8]
        have HPH:=Lib.hid HP
        clear hown' hgrow MDA hc8 HP m0 m1 m2 m3
        go_wp2_with (fail)
        go_roundw
        case rel =>
         exact ⟨j+1,_,O ++ [((k:Nat):Int) - 1],by go_num,by omega,by simp [hOH.out],Lib.hid (fun z hz=>by
          rcases List.mem_append.1 hz with h | h
          ·exact HOB.out z h
          ·simp at h
           subst h
           unfold ixB
           first
            | (simp; done)
            | (simp; omega)),HPH⟩
        case measure=>simp [intOf]; omega
      ·obtain rfl:j = N:=by omega
       have i5:¬ (j:Int) < j:=by omega
       have n1:=heapN_cellj HMO.out.c1 (k:=0) rfl
       have n2:=heapN_cellj HMO.out.c1 (k:=1) rfl
       have n3:=heapN_cellj HMO.out.c1 (k:=2) rfl
       have z1:wr.frozen? ⟨w.heap.size+1,0,none⟩ = false:=by simp [World.frozen?,HMO.out.c1]
       have z2:wr.frozen? ⟨w.heap.size+1,1,none⟩ = false:=by simp [World.frozen?,HMO.out.c1]
       have z3:wr.frozen? ⟨w.heap.size+1,2,none⟩ = false:=by simp [World.frozen?,HMO.out.c1]
       go_wp2_with (fail)
       have hs0:=cellsT_setN (o:=0) (u:=.int .i64 j) HMO.out.c1
       have hs1:=cellsT_setN (o:=1) (u:=.slice pv k cv) hs0
       have hs2:=cellsT_setN (o:=2) (u:=.slice pr j cr') hs1
       have y0:=heapN_cellj hs2 (k:=0) (u:=.int .i64 j) rfl
       have y1:=heapN_cellj hs2 (k:=1) (u:=.slice pv k cv) rfl
       have y2:=heapN_cellj hs2 (k:=2) (u:=.slice pr j cr') rfl
       have hV:=HVT.out
       have hOl:=hOH.out
       have hTl:(T:List Is).length = k:=HT.out
       have hrow:=own_base (own_setT (own_setT (own_setT HMO.out.row HMO.out.c1 (by decide) _ _) hs0 (by decide) _ _) hs1 (by decide) (2:Nat) (.slice pr j cr')) (show w.heap.size ≤ w.heap.size+3 by omega)
       have hin0:=HMO.out.ints
       rw [hOl] at hin0
       have hint:=own_base (own_setT (own_setT (own_setT hin0 HMO.out.c1 (by decide) 0 (.int .i64 j)) hs0 (by decide) 1 (.slice pv k cv)) hs1 (by decide) (2:Nat) (.slice pr j cr')) (show w.heap.size ≤ w.heap.size+3 by omega)
       exact bodyPost_ret (v:=.agg #[.int .i64 j,.slice pv k cv,.slice pr j cr']) (by simp [results,Tryz.results57,go_sem,y0,y1,y2]) rfl ⟨j,T,O,_,_,rfl,hrow,by rw [hOl]; exact hint,tv_of (by omega) (by omega) (by omega) rfl hOl hV (fun y hy=>by rw [hTl]; exact HOB.out y hy),hN3,by omega,by omega,((HMO.out.bel.setCell (p:=⟨w.heap.size+1,0,none⟩) (by dsimp only; omega) _).setCell (p:=⟨w.heap.size+1,1,none⟩) (by dsimp only; omega) _).setCell (p:=⟨w.heap.size+1,2,none⟩) (by dsimp only; omega) _⟩
end Go.Proofs.YtdfdpghdjlgghaaGreat
