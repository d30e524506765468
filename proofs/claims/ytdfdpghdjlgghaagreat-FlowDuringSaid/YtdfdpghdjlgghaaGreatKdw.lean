/-
 Ge Go
-/
import Derived.Test.YtdfdpghdjlgghaaGreatKdm
import Derived.Test.YtdfdpghdjlgghaaGreatKdq
import Derived.Test.YtdfdpghdjlgghaaGreatKdt
namespace Go.Proofs.YtdfdpghdjlgghaaGreat
open Go.ChangeShapes Go.WideShapes Go.ChangeAt Go.RowKit
set_option linter.unusedVariables false
set_option linter.unusedSimpArgs false
set_option maxRecDepth 100000
attribute [local irreducible] Calls
set_option maxHeartbeats 16000000 in
theorem box14_ok (vl:Value) (l:List (Int × Int)) (n:Nat) (w:World) (hl:Vx w vl l) (hn:n ≤ 6):Calls Tryz.prog 77 #[vl,.int .i64 n] w fun e w'=>∃ p c,e = .returned (.slice p n c)∧w'.ownsRow w.heap.size 66 2 (.slice p n c) n (cr encB (boxI l n 200000))∧Below w.heap.size w w':=by
 obtain ⟨i0,hi,hz0,hz1,hz2⟩:=info_parts info_ivB
 obtain ⟨pl,cl,rfl⟩:=hl.cut
 have hm:=hl.1
 unfold maxLen at hm
 have HL:=Lib.hid hl
 have H0:=Lib.hid (own_emptyB w)
 have B0:Below w.heap.size w (w.alloc (.cells #[] 66)):=(Below.refl _ _).alloc (Nat.le_refl _) _
 have HB:=Lib.hid B0
 clear hl B0
 go_enter Tryz.func77,Tryz.ntmps77
 go_wp2_with (fail)
 go_loopw [5,6] (fun v i wr=>∃ k:Nat,i = .int .i64 k∧k ≤ n∧wr.ownsRow w.heap.size 66 2 v k (cr encB (boxI l k 200000))∧Below w.heap.size w wr) (fun v i _=>n - (intOf i).toNat)
 case atStart=>exact ⟨0,rfl,Nat.zero_le _,H0.out,HB.out⟩
 case round =>
  clear H0 HB
  obtain ⟨k,rfl,hk,hrow,hB⟩:=hrel
  obtain ⟨pv,cv,rfl⟩:=own_slice hrow
  have HR:=Lib.hid hrow
  have HBr:=Lib.hid hB
  have hsr:=hB.size
  by_cases hlt:k < n
  ·have i2:(k:Int) < n:=by omega
   obtain ⟨⟨p,q⟩,hpq⟩:∃ x,l.getD k (0,0) = x:=⟨_,rfl⟩
   have hsn:=boxI_snoc l k 200000
   rw [hpq] at hsn
   have KN:=Lib.hid (fun w=>r2near p q 200000 w (by decide) (by decide))
   obtain ⟨⟨r1,r2⟩,hr⟩:∃ r,nearI (p,q) 200000 = r:=⟨_,rfl⟩
   rw [hr] at hsn KN
   dsimp only at KN
   have HSN:=Lib.hid hsn
   clear hsn hr hrow hB
   by_cases hll:k < l.length
   ·have i3:(k:Int) < l.length:=by omega
    have hx:l[k]? = some (p,q):=by rw [List.getD_eq_getElem?_getD,List.getElem?_eq_getElem hll] at hpq; rw [List.getElem?_eq_getElem hll]; exact congrArg some hpq
    obtain ⟨bl,ol,rfl,hbl,rdl⟩:=vx_rd HL.out hx
    obtain ⟨f0,f1⟩:=rdl ⟨wr.alloc (.cells #[.int .i64 0,.int .i64 0] 66),HBr.out.alloc hsr _⟩
    dsimp only at f0 f1
    clear rdl hx hpq
    go_wp2_with (fail)
    refine (KN.out _).mono ?_
    rintro e w5 ⟨rfl,hB5⟩
    have hrow5:=own_keptN (HR.out.alloc (.cells #[.int .i64 p,.int .i64 q] 66)) hB5
    have hB6:=(HBr.out.alloc hsr (.cells #[.int .i64 p,.int .i64 q] 66)).trans (hB5.mono (by rw [alloc_sz]; omega))
    have hs5:=hB6.size
    have HR5:=Lib.hid hrow5
    have HB6:=Lib.hid hB6
    clear hB5 hrow5 hB6 KN
    go_wp2_with (at_builtin; refine wpList_append_own _ rfl (.tmp 23) (.tmp 26) 23 rfl w.heap.size 66 i0 (.agg #[.int .i64 0,.int .i64 0]) 2 16 Tryz.underlying23 hi hz0 hz1 hz2 rfl (by decide) (.slice pv k cv) k _ rfl (HR5.out.alloc _) ⟨w5.heap.size,0,none⟩ 1 1 (encB (r1,r2)) rfl rfl (new_b _ (r1,r2)) (one_b _) (by unfold maxLen; omega) (by omega) (by rw [alloc_sz]; omega) ?_)
    intro v' w8 hown' hgrow _
    have hB8:Below w.heap.size w w8:=Below.grown (HB6.out.alloc hs5 _) hgrow (by rw [alloc_sz]; omega) (fun i hi=>(HR5.out.lt i hi).1)
    obtain ⟨p8,c8,rfl⟩:=own_slice hown'
    have HR8:=Lib.hid hown'
    have HB8:=Lib.hid hB8
    clear hown' hgrow hB8
    go_wp2_with (fail)
    go_roundw
    case rel =>
     refine ⟨k+1,by go_num,by omega,?_,HB8.out⟩
     rw [HSN.out,cr_snoc]
     exact HR8.out
    case measure=>simp [intOf]; omega
   ·have i3:(l.length:Int) ≤ k:=by omega
    have he:((0:Int),(0:Int)) = (p,q):=by rw [← hpq,List.getD_eq_getElem?_getD,List.getElem?_eq_none (by omega)]; rfl
    obtain ⟨rfl,rfl⟩:=Prod.mk.inj he
    clear he hpq
    go_wp2_with (fail)
    refine (KN.out _).mono ?_
    rintro e w5 ⟨rfl,hB5⟩
    have hrow5:=own_keptN (HR.out.alloc (.cells #[.int .i64 0,.int .i64 0] 66)) hB5
    have hB6:=(HBr.out.alloc hsr (.cells #[.int .i64 0,.int .i64 0] 66)).trans (hB5.mono (by rw [alloc_sz]; omega))
    have hs5:=hB6.size
    have HR5:=Lib.hid hrow5
    have HB6:=Lib.hid hB6
    clear hB5 hrow5 hB6 KN
    go_wp2_with (at_builtin; refine wpList_append_own _ rfl (.tmp 23) (.tmp 26) 23 rfl w.heap.size 66 i0 (.agg #[.int .i64 0,.int .i64 0]) 2 16 Tryz.underlying23 hi hz0 hz1 hz2 rfl (by decide) (.slice pv k cv) k _ rfl (HR5.out.alloc _) ⟨w5.heap.size,0,none⟩ 1 1 (encB (r1,r2)) rfl rfl (new_b _ (r1,r2)) (one_b _) (by unfold maxLen; omega) (by omega) (by rw [alloc_sz]; omega) ?_)
    intro v' w8 hown' hgrow _
    have hB8:Below w.heap.size w w8:=Below.grown (HB6.out.alloc hs5 _) hgrow (by rw [alloc_sz]; omega) (fun i hi=>(HR5.out.lt i hi).1)
    obtain ⟨p8,c8,rfl⟩:=own_slice hown'
    have HR8:=Lib.hid hown'
    have HB8:=Lib.hid hB8
    clear hown' hgrow hB8
    go_wp2_with (fail)
    go_roundw
    case rel =>
     refine ⟨k+1,by go_num,by omega,?_,HB8.out⟩
     rw [HSN.out,cr_snoc]
     exact HR8.out
    case measure=>simp [intOf]; omega
  ·obtain rfl:n = k:=by omega
   have i2:¬ (n:Int) < n:=by omega
   go_wp2_with (fail)
   go_ret
   exact ⟨_,_,rfl,hrow,hB⟩

theorem wrapK (n:Int) (h1:-9223372036854775808 ≤ n) (h2:n ≤ 9223372036854775807):IntKind.i64.wrap n = n:=wrapN n h1 h2
def pkI (a b x:Int):Int:=a+x % (b - a+1)
theorem pkI_in {a b x:Int} (hab:a ≤ b):a ≤ pkI a b x∧pkI a b x ≤ b:=by
 have h1:=Int.emod_nonneg x (show b - a+1 ≠ 0 by omega)
 have h2:=Int.emod_lt_of_pos x (show 0 < b - a+1 by omega)
 unfold pkI
 omega
set_option maxHeartbeats 4000000 in
theorem pk_ok (a b x:Int) (w:World) (ha:Num a) (hb:Num b) (hab:a ≤ b) (hx:0 ≤ x) (hx2:x ≤ 4294967295) :
  Calls Tryz.prog 27 #[.agg #[.int .i64 a,.int .i64 b],.int .u32 x] w fun e w'=>e = .returned (.int .i64 (pkI a b x))∧Below w.heap.size w w':=by
 unfold Num at ha hb
 have m1:=Int.emod_nonneg x (show b - a+1 ≠ 0 by omega)
 have m2:=Int.emod_lt_of_pos x (show 0 < b - a+1 by omega)
 have U1:IntKind.i64.wrap x = x:=wrapK _ (by omega) (by omega)
 have U2:IntKind.i64.wrap (b - a) = b - a:=wrapK _ (by omega) (by omega)
 have U3:IntKind.i64.wrap (b - a+1) = b - a+1:=wrapK _ (by omega) (by omega)
 have hd:¬ b - a+1 = 0:=by omega
 have t1:x.tmod (b - a+1) = x % (b - a+1):=Int.tmod_eq_emod_of_nonneg hx
 obtain ⟨m,hm⟩:∃ m,x % (b - a+1) = m:=⟨_,rfl⟩
 unfold pkI
 rw [hm] at m1 m2 t1 ⊢
 have U4:IntKind.i64.wrap m = m:=wrapK _ (by omega) (by omega)
 have U5:IntKind.i64.wrap (a+m) = a+m:=wrapK _ (by omega) (by omega)
 have h0:Below w.heap.size w (w.alloc (.cells #[.int .i64 a,.int .i64 b] 66)):=(Below.refl _ _).alloc (Nat.le_refl _) _
 clear hm hx m1 m2 ha hb hab
 go_enter Tryz.func27,Tryz.ntmps27
 go_wp2_with (fail)
 go_quiet (fail)
 go_wp2_with (fail)
 go_ret
 exact ⟨rfl,below_drewN h0 _⟩

def u32I (x:Int):Int:=IntKind.u32.wrap x
theorem u32_bd (x:Int):0 ≤ u32I x∧u32I x ≤ 4294967295:=by
 unfold u32I IntKind.wrap
 simp [IntKind.signed,IntKind.bits]
 omega
def prtI (b q:Int × Int):Int × Int:=(min (pkI b.1 b.2 (u32I q.1)) (pkI b.1 b.2 (u32I q.2)),max (pkI b.1 b.2 (u32I q.1)) (pkI b.1 b.2 (u32I q.2)))
theorem prt_in {b q:Int × Int} (h:b.1 ≤ b.2):b.1 ≤ (prtI b q).1∧(prtI b q).1 ≤ (prtI b q).2∧(prtI b q).2 ≤ b.2:=by
 have h1:=pkI_in (x:=u32I q.1) h
 have h2:=pkI_in (x:=u32I q.2) h
 unfold prtI
 dsimp only
 omega
def prtL (l m:List (Int × Int)) (k:Nat):List (Int × Int):=(List.range k).map (fun i=>prtI (l.getD i (0,0)) (m.getD i (0,0)))
theorem prtL_snoc (l m:List (Int × Int)) (k:Nat):prtL l m (k+1) = prtL l m k ++ [prtI (l.getD k (0,0)) (m.getD k (0,0))]:=by
 unfold prtL
 rw [List.range_succ,List.map_append]
 rfl
theorem prtL_len (l m:List (Int × Int)) (k:Nat):(prtL l m k).length = k:=by simp [prtL]
theorem prtL_at {l m:List (Int × Int)} {k i:Nat} {z:Int × Int} (h:(prtL l m k)[i]? = some z):i < k∧z = prtI (l.getD i (0,0)) (m.getD i (0,0)):=by
 have hk:=(List.getElem?_eq_some_iff.1 h).1
 rw [prtL_len] at hk
 unfold prtL at h
 rw [List.getElem?_map,List.getElem?_range hk] at h
 exact ⟨hk,(Option.some.inj h).symm⟩
set_option maxHeartbeats 32000000 in
theorem part14_ok (vl vm:Value) (l m:List (Int × Int)) (w:World) (hl:Vx w vl l) (hm:Vx w vm m) (h6:l.length ≤ 6) (hv:∀ p ∈ l,Num p.1∧Num p.2∧p.1 ≤ p.2):Calls Tryz.prog 78 #[vl,vm] w fun e w'=>∃ p c,e = .returned (.slice p l.length c)∧w'.ownsRow w.heap.size 66 2 (.slice p l.length c) l.length (cr encB (prtL l m l.length))∧Below w.heap.size w w':=by
 obtain ⟨i0,hi,hz0,hz1,hz2⟩:=info_parts info_ivB
 obtain ⟨pl,cl,rfl⟩:=hl.cut
 obtain ⟨pm,cm,rfl⟩:=hm.cut
 have hms:=hm.1
 unfold maxLen at hms
 have HL:=Lib.hid hl
 have HM:=Lib.hid hm
 have HV:=Lib.hid hv
 have H0:=Lib.hid (own_emptyB w)
 have B0:Below w.heap.size w (w.alloc (.cells #[] 66)):=(Below.refl _ _).alloc (Nat.le_refl _) _
 have HB:=Lib.hid B0
 clear hl B0 hm hv
 go_enter Tryz.func78,Tryz.ntmps78
 go_wp2_with (fail)
 go_loopw [5,6] (fun v i wr=>∃ k:Nat,i = .int .i64 k∧k ≤ l.length∧wr.ownsRow w.heap.size 66 2 v k (cr encB (prtL l m k))∧Below w.heap.size w wr) (fun v i _=>l.length - (intOf i).toNat)
 case atStart=>exact ⟨0,rfl,Nat.zero_le _,H0.out,HB.out⟩
 case round =>
  clear H0 HB
  obtain ⟨k,rfl,hk,hrow,hB⟩:=hrel
  obtain ⟨pv,cv,rfl⟩:=own_slice hrow
  have HR:=Lib.hid hrow
  have HBr:=Lib.hid hB
  have hsr:=hB.size
  by_cases hlt:k < l.length
  ·have i2:(k:Int) < l.length:=by omega
   obtain ⟨⟨p,q⟩,hpq⟩:∃ x,m.getD k (0,0) = x:=⟨_,rfl⟩
   obtain ⟨a,b,hx⟩:∃ x y,l[k]? = some (x,y):=⟨l[k].1,l[k].2,List.getElem?_eq_getElem hlt⟩
   have hg:l.getD k (0,0) = (a,b):=by rw [List.getD_eq_getElem?_getD,hx]; rfl
   have hsn:=prtL_snoc l m k
   rw [hpq,hg] at hsn
   obtain ⟨v1,v2,v3⟩:=HV.out _ (List.mem_of_getElem? hx)
   have KP:=Lib.hid (fun x w=>pk_ok a b (u32I x) w v1 v2 v3 (u32_bd x).1 (u32_bd x).2)
   have KP1:=Lib.hid (KP.out p)
   have KP2:=Lib.hid (KP.out q)
   obtain ⟨bx,ox,rfl,hbx,rdx⟩:=vx_rd HL.out hx
   unfold prtI at hsn
   dsimp only at hsn
   obtain ⟨r1,hr1⟩:∃ r,pkI a b (u32I p) = r:=⟨_,rfl⟩
   obtain ⟨r2,hr2⟩:∃ r,pkI a b (u32I q) = r:=⟨_,rfl⟩
   rw [hr1] at KP1 hsn
   rw [hr2] at KP2 hsn
   have HSN:=Lib.hid hsn
   obtain ⟨W6,hW6⟩:∃ W6,wr.alloc (.cells #[.int .i64 p,.int .i64 q] 66) = W6:=⟨_,rfl⟩
   have hb6:Below wr.heap.size wr W6:=by rw [← hW6]; exact (Below.refl _ _).alloc (Nat.le_refl _) _
   have HY6:=Lib.hid (show Blk W6 wr.heap.size (.cells #[.int .i64 p,.int .i64 q] 66) from by rw [← hW6]; exact World.alloc_heap_new wr _)
   have HB6:=Lib.hid (below_then HBr.out (hb6.mono (Nat.le_refl _)))
   have HR6:=Lib.hid (own_keptN HR.out hb6)
   have c0:=fun g:Grown W6=>(rdx ⟨g.w,HB6.out.trans (g.h.mono HB6.out.size)⟩).1
   have c1:=fun g:Grown W6=>(rdx ⟨g.w,HB6.out.trans (g.h.mono HB6.out.size)⟩).2
   have y0:=fun g:Grown W6=>heapN_cellj (HY6.out.grow g.h) (k:=0) rfl
   have y1:=fun g:Grown W6=>heapN_cellj (HY6.out.grow g.h) (k:=1) rfl
   clear rdx hsn hr1 hr2 hrow hB v1 v2 v3 KP hg hx hb6
   by_cases hll:k < m.length
   ·have i3:(k:Int) < m.length:=by omega
    have hx:m[k]? = some (p,q):=by rw [List.getD_eq_getElem?_getD,List.getElem?_eq_getElem hll] at hpq; rw [List.getElem?_eq_getElem hll]; exact congrArg some hpq
    obtain ⟨bl,ol,rfl,hbl,rdl⟩:=vx_rd HM.out hx
    obtain ⟨f0,f1⟩:=rdl ⟨wr.alloc (.cells #[.int .i64 0,.int .i64 0] 66),HBr.out.alloc hsr _⟩
    dsimp only at f0 f1
    clear rdl hx hpq
    go_wp2_with (fail)
    clear hW6 f0 f1
    refine region_pred (lk [(26,fun z_ _=>z_ = .slice (some ⟨bx,ox,none⟩) l.length cl),(27,fun z_ _=>z_ = .int .i64 (k:Int)),(28,fun z_ _=>z_ = .pointer (some ⟨bx,ox+k * 2,none⟩)),(29,fun z_ _=>z_ = .agg #[.int .i64 a,.int .i64 b]),(30,fun z_ _=>z_ = .pointer (some ⟨wr.heap.size,0,none⟩)),(31,fun z_ _=>z_ = .int .i64 p),(32,fun z_ _=>z_ = .int .u32 (u32I p)),(33,fun z_ _=>z_ = .int .i64 r1),(34,fun z_ _=>z_ = .slice (some ⟨bx,ox,none⟩) l.length cl),(35,fun z_ _=>z_ = .int .i64 (k:Int)),(36,fun z_ _=>z_ = .pointer (some ⟨bx,ox+k * 2,none⟩)),(37,fun z_ _=>z_ = .agg #[.int .i64 a,.int .i64 b]),(38,fun z_ _=>z_ = .pointer (some ⟨wr.heap.size,1,none⟩)),(39,fun z_ _=>z_ = .int .i64 q),(40,fun z_ _=>z_ = .int .u32 (u32I q)),(41,fun z_ _=>z_ = .int .i64 r2),(8,fun z_ _=>z_ = .int .i64 r1),(9,fun z_ _=>z_ = .int .i64 r2)]) (by kernel_rfl) (by kernel_rfl) (lk_steady _ ⟨steady_eq _,steady_eq _,steady_eq _,steady_eq _,steady_eq _,steady_eq _,steady_eq _,steady_eq _,steady_eq _,steady_eq _,steady_eq _,steady_eq _,steady_eq _,steady_eq _,steady_eq _,steady_eq _,steady_eq _,steady_eq _,trivial⟩) ?_ ?_
    ·refine ⟨?_,?_,?_,?_,?_,?_,?_,?_,?_,?_,?_,?_,?_,?_,?_,?_,?_,?_,trivial⟩
     ·refine ob_plain [0] rfl rfl fun aa g h=>?_
      have yy0:=seen_out (v:=.slice (some ⟨bx,ox,none⟩) l.length cl) rfl rfl h.1
      exact tvS (by simp [go_sem,yy0]) rfl
     ·refine ob_plain [6] rfl rfl fun aa g h=>?_
      have yy0:=seen_out (v:=.int .i64 (k:Int)) rfl rfl h.1
      exact tvS (by simp [go_sem,yy0]) rfl
     ·refine ob_plain [26,27] rfl rfl fun aa g h=>?_
      obtain ⟨_,yy0,rfl⟩:=seen_in rfl h.1
      obtain ⟨_,yy1,rfl⟩:=seen_in rfl h.2.1
      exact tvS (by simp [go_sem,yy0,yy1,i2,hlt]) rfl
     ·refine ob_plain [28] rfl rfl fun aa g h=>?_
      obtain ⟨_,yy0,rfl⟩:=seen_in rfl h.1
      exact tvS (by simp [go_sem,yy0,c0 g,c1 g]) rfl
     ·refine ob_plain [7] rfl rfl fun aa g h=>?_
      have yy0:=seen_out (v:=.pointer (some ⟨wr.heap.size,0,none⟩)) rfl rfl h.1
      exact tvS (by simp [go_sem,yy0]) rfl
     ·refine ob_plain [30] rfl rfl fun aa g h=>?_
      obtain ⟨_,yy0,rfl⟩:=seen_in rfl h.1
      exact tvS (by simp [go_sem,yy0,y0 g]) rfl
     ·refine ob_plain [31] rfl rfl fun aa g h=>?_
      obtain ⟨_,yy0,rfl⟩:=seen_in rfl h.1
      exact tvS (by simp [go_sem,yy0,u32I]) rfl
     ·refine ob_plain [29,32] rfl rfl fun aa g h=>?_
      obtain ⟨_,yy0,rfl⟩:=seen_in rfl h.1
      obtain ⟨_,yy1,rfl⟩:=seen_in rfl h.2.1
      refine tupon_enter (f:=27) (args:=#[.agg #[.int .i64 a,.int .i64 b],.int .u32 (u32I p)]) (by simp [go_sem,yy0,yy1]) rfl ?_
      exact (KP1.out g.w).mono fun e w' ⟨he,hB⟩=>⟨_,he,hB,rfl⟩
     ·refine ob_plain [0] rfl rfl fun aa g h=>?_
      have yy0:=seen_out (v:=.slice (some ⟨bx,ox,none⟩) l.length cl) rfl rfl h.1
      exact tvS (by simp [go_sem,yy0]) rfl
     ·refine ob_plain [6] rfl rfl fun aa g h=>?_
      have yy0:=seen_out (v:=.int .i64 (k:Int)) rfl rfl h.1
      exact tvS (by simp [go_sem,yy0]) rfl
     ·refine ob_plain [34,35] rfl rfl fun aa g h=>?_
      obtain ⟨_,yy0,rfl⟩:=seen_in rfl h.1
      obtain ⟨_,yy1,rfl⟩:=seen_in rfl h.2.1
      exact tvS (by simp [go_sem,yy0,yy1,i2,hlt]) rfl
     ·refine ob_plain [36] rfl rfl fun aa g h=>?_
      obtain ⟨_,yy0,rfl⟩:=seen_in rfl h.1
      exact tvS (by simp [go_sem,yy0,c0 g,c1 g]) rfl
     ·refine ob_plain [7] rfl rfl fun aa g h=>?_
      have yy0:=seen_out (v:=.pointer (some ⟨wr.heap.size,0,none⟩)) rfl rfl h.1
      exact tvS (by simp [go_sem,yy0]) rfl
     ·refine ob_plain [38] rfl rfl fun aa g h=>?_
      obtain ⟨_,yy0,rfl⟩:=seen_in rfl h.1
      exact tvS (by simp [go_sem,yy0,y1 g]) rfl
     ·refine ob_plain [39] rfl rfl fun aa g h=>?_
      obtain ⟨_,yy0,rfl⟩:=seen_in rfl h.1
      exact tvS (by simp [go_sem,yy0,u32I]) rfl
     ·refine ob_plain [37,40] rfl rfl fun aa g h=>?_
      obtain ⟨_,yy0,rfl⟩:=seen_in rfl h.1
      obtain ⟨_,yy1,rfl⟩:=seen_in rfl h.2.1
      refine tupon_enter (f:=27) (args:=#[.agg #[.int .i64 a,.int .i64 b],.int .u32 (u32I q)]) (by simp [go_sem,yy0,yy1]) rfl ?_
      exact (KP2.out g.w).mono fun e w' ⟨he,hB⟩=>⟨_,he,hB,rfl⟩
     ·refine ob_plain [33] rfl rfl fun aa g h=>?_
      obtain ⟨_,yy0,rfl⟩:=seen_in rfl h.1
      exact tvS (by simp [go_sem,yy0]) rfl
     ·refine ob_plain [41] rfl rfl fun aa g h=>?_
      obtain ⟨_,yy0,rfl⟩:=seen_in rfl h.1
      exact tvS (by simp [go_sem,yy0]) rfl
    rintro w5 hB _ rfl _ rfl _ rfl _ rfl _ rfl _ rfl _ rfl _ rfl _ rfl _ rfl _ rfl _ rfl _ rfl _ rfl _ rfl _ rfl _ rfl _ rfl
    simp only [Act.put,List.setIfInBounds_toArray,List.set_cons_succ,List.set_cons_zero,List.filterMap_nil,finP]
    have hrow5:=own_keptN HR6.out hB
    have hB5:=below_then HB6.out hB
    have hs5:=hB5.size
    have HR5:=Lib.hid hrow5
    have HB5:=Lib.hid hB5
    clear hB hrow5 hB5 c0 c1 y0 y1 KP1 KP2
    rcases (show r1 < r2 ∨ r1 = r2 ∨ r2 < r1 by omega) with h12 | rfl | h12
    ·have hsn:=HSN.out
     rw [show min r1 r2 = r1 by omega,show max r1 r2 = r2 by omega] at hsn
     have HSN:=Lib.hid hsn
     clear hsn
     go_wp2_with (at_builtin; refine wpList_append_own _ rfl (.tmp 42) (.tmp 50) 23 rfl w.heap.size 66 i0 (.agg #[.int .i64 0,.int .i64 0]) 2 16 Tryz.underlying23 hi hz0 hz1 hz2 rfl (by decide) (.slice pv k cv) k _ rfl (HR5.out.alloc _) ⟨w5.heap.size,0,none⟩ 1 1 (encB (r1,r2)) rfl rfl (new_b _ (r1,r2)) (one_b _) (by unfold maxLen; omega) (by omega) (by rw [alloc_sz]; omega) ?_)
     intro v' w8 hown' hgrow _
     have hB8:Below w.heap.size w w8:=Below.grown (HB5.out.alloc hs5 _) hgrow (by rw [alloc_sz]; omega) (fun i hi=>(HR5.out.lt i hi).1)
     obtain ⟨p8,c8,rfl⟩:=own_slice hown'
     have HR8:=Lib.hid hown'
     have HB8:=Lib.hid hB8
     clear hown' hgrow hB8
     go_wp2_with (fail)
     go_roundw
     case rel =>
      refine ⟨k+1,by go_num,by omega,?_,HB8.out⟩
      rw [HSN.out,cr_snoc]
      exact HR8.out
     case measure=>simp [intOf]; omega
    ·have hsn:=HSN.out
     rw [show min r1 r1 = r1 by omega,show max r1 r1 = r1 by omega] at hsn
     have HSN:=Lib.hid hsn
     clear hsn
     go_wp2_with (at_builtin; refine wpList_append_own _ rfl (.tmp 42) (.tmp 50) 23 rfl w.heap.size 66 i0 (.agg #[.int .i64 0,.int .i64 0]) 2 16 Tryz.underlying23 hi hz0 hz1 hz2 rfl (by decide) (.slice pv k cv) k _ rfl (HR5.out.alloc _) ⟨w5.heap.size,0,none⟩ 1 1 (encB (r1,r1)) rfl rfl (new_b _ (r1,r1)) (one_b _) (by unfold maxLen; omega) (by omega) (by rw [alloc_sz]; omega) ?_)
     intro v' w8 hown' hgrow _
     have hB8:Below w.heap.size w w8:=Below.grown (HB5.out.alloc hs5 _) hgrow (by rw [alloc_sz]; omega) (fun i hi=>(HR5.out.lt i hi).1)
     obtain ⟨p8,c8,rfl⟩:=own_slice hown'
     have HR8:=Lib.hid hown'
     have HB8:=Lib.hid hB8
     clear hown' hgrow hB8
     go_wp2_with (fail)
     go_roundw
     case rel =>
      refine ⟨k+1,by go_num,by omega,?_,HB8.out⟩
      rw [HSN.out,cr_snoc]
      exact HR8.out
     case measure=>simp [intOf]; omega
    ·have hsn:=HSN.out
     rw [show min r1 r2 = r2 by omega,show max r1 r2 = r1 by omega] at hsn
     have HSN:=Lib.hid hsn
     clear hsn
     go_wp2_with (at_builtin; refine wpList_append_own _ rfl (.tmp 42) (.tmp 50) 23 rfl w.heap.size 66 i0 (.agg #[.int .i64 0,.int .i64 0]) 2 16 Tryz.underlying23 hi hz0 hz1 hz2 rfl (by decide) (.slice pv k cv) k _ rfl (HR5.out.alloc _) ⟨w5.heap.size,0,none⟩ 1 1 (encB (r2,r1)) rfl rfl (new_b _ (r2,r1)) (one_b _) (by unfold maxLen; omega) (by omega) (by rw [alloc_sz]; omega) ?_)
     intro v' w8 hown' hgrow _
     have hB8:Below w.heap.size w w8:=Below.grown (HB5.out.alloc hs5 _) hgrow (by rw [alloc_sz]; omega) (fun i hi=>(HR5.out.lt i hi).1)
     obtain ⟨p8,c8,rfl⟩:=own_slice hown'
     have HR8:=Lib.hid hown'
     have HB8:=Lib.hid hB8
     clear hown' hgrow hB8
     go_wp2_with (fail)
     go_roundw
     case rel =>
      refine ⟨k+1,by go_num,by omega,?_,HB8.out⟩
      rw [HSN.out,cr_snoc]
      exact HR8.out
     case measure=>simp [intOf]; omega
   ·have i3:(m.length:Int) ≤ k:=by omega
    have he:((0:Int),(0:Int)) = (p,q):=by rw [← hpq,List.getD_eq_getElem?_getD,List.getElem?_eq_none (by omega)]; rfl
    obtain ⟨rfl,rfl⟩:=Prod.mk.inj he
    clear he hpq
    subst hW6
    go_wp2_with (fail)
    generalize hW6:World.alloc wr _ = W6 at *
    clear hW6
    refine region_pred (lk [(26,fun z_ _=>z_ = .slice (some ⟨bx,ox,none⟩) l.length cl),(27,fun z_ _=>z_ = .int .i64 (k:Int)),(28,fun z_ _=>z_ = .pointer (some ⟨bx,ox+k * 2,none⟩)),(29,fun z_ _=>z_ = .agg #[.int .i64 a,.int .i64 b]),(30,fun z_ _=>z_ = .pointer (some ⟨wr.heap.size,0,none⟩)),(31,fun z_ _=>z_ = .int .i64 0),(32,fun z_ _=>z_ = .int .u32 (u32I 0)),(33,fun z_ _=>z_ = .int .i64 r1),(34,fun z_ _=>z_ = .slice (some ⟨bx,ox,none⟩) l.length cl),(35,fun z_ _=>z_ = .int .i64 (k:Int)),(36,fun z_ _=>z_ = .pointer (some ⟨bx,ox+k * 2,none⟩)),(37,fun z_ _=>z_ = .agg #[.int .i64 a,.int .i64 b]),(38,fun z_ _=>z_ = .pointer (some ⟨wr.heap.size,1,none⟩)),(39,fun z_ _=>z_ = .int .i64 0),(40,fun z_ _=>z_ = .int .u32 (u32I 0)),(41,fun z_ _=>z_ = .int .i64 r2),(8,fun z_ _=>z_ = .int .i64 r1),(9,fun z_ _=>z_ = .int .i64 r2)]) (by kernel_rfl) (by kernel_rfl) (lk_steady _ ⟨steady_eq _,steady_eq _,steady_eq _,steady_eq _,steady_eq _,steady_eq _,steady_eq _,steady_eq _,steady_eq _,steady_eq _,steady_eq _,steady_eq _,steady_eq _,steady_eq _,steady_eq _,steady_eq _,steady_eq _,steady_eq _,trivial⟩) ?_ ?_
    ·refine ⟨?_,?_,?_,?_,?_,?_,?_,?_,?_,?_,?_,?_,?_,?_,?_,?_,?_,?_,trivial⟩
     ·refine ob_plain [0] rfl rfl fun aa g h=>?_
      have yy0:=seen_out (v:=.slice (some ⟨bx,ox,none⟩) l.length cl) rfl rfl h.1
      exact tvS (by simp [go_sem,yy0]) rfl
     ·refine ob_plain [6] rfl rfl fun aa g h=>?_
      have yy0:=seen_out (v:=.int .i64 (k:Int)) rfl rfl h.1
      exact tvS (by simp [go_sem,yy0]) rfl
     ·refine ob_plain [26,27] rfl rfl fun aa g h=>?_
      obtain ⟨_,yy0,rfl⟩:=seen_in rfl h.1
      obtain ⟨_,yy1,rfl⟩:=seen_in rfl h.2.1
      exact tvS (by simp [go_sem,yy0,yy1,i2,hlt]) rfl
     ·refine ob_plain [28] rfl rfl fun aa g h=>?_
      obtain ⟨_,yy0,rfl⟩:=seen_in rfl h.1
      exact tvS (by simp [go_sem,yy0,c0 g,c1 g]) rfl
     ·refine ob_plain [7] rfl rfl fun aa g h=>?_
      have yy0:=seen_out (v:=.pointer (some ⟨wr.heap.size,0,none⟩)) rfl rfl h.1
      exact tvS (by simp [go_sem,yy0]) rfl
     ·refine ob_plain [30] rfl rfl fun aa g h=>?_
      obtain ⟨_,yy0,rfl⟩:=seen_in rfl h.1
      exact tvS (by simp [go_sem,yy0,y0 g]) rfl
     ·refine ob_plain [31] rfl rfl fun aa g h=>?_
      obtain ⟨_,yy0,rfl⟩:=seen_in rfl h.1
      exact tvS (by simp [go_sem,yy0,u32I]) rfl
     ·refine ob_plain [29,32] rfl rfl fun aa g h=>?_
      obtain ⟨_,yy0,rfl⟩:=seen_in rfl h.1
      obtain ⟨_,yy1,rfl⟩:=seen_in rfl h.2.1
      refine tupon_enter (f:=27) (args:=#[.agg #[.int .i64 a,.int .i64 b],.int .u32 (u32I 0)]) (by simp [go_sem,yy0,yy1]) rfl ?_
      exact (KP1.out g.w).mono fun e w' ⟨he,hB⟩=>⟨_,he,hB,rfl⟩
     ·refine ob_plain [0] rfl rfl fun aa g h=>?_
      have yy0:=seen_out (v:=.slice (some ⟨bx,ox,none⟩) l.length cl) rfl rfl h.1
      exact tvS (by simp [go_sem,yy0]) rfl
     ·refine ob_plain [6] rfl rfl fun aa g h=>?_
      have yy0:=seen_out (v:=.int .i64 (k:Int)) rfl rfl h.1
      exact tvS (by simp [go_sem,yy0]) rfl
     ·refine ob_plain [34,35] rfl rfl fun aa g h=>?_
      obtain ⟨_,yy0,rfl⟩:=seen_in rfl h.1
      obtain ⟨_,yy1,rfl⟩:=seen_in rfl h.2.1
      exact tvS (by simp [go_sem,yy0,yy1,i2,hlt]) rfl
     ·refine ob_plain [36] rfl rfl fun aa g h=>?_
      obtain ⟨_,yy0,rfl⟩:=seen_in rfl h.1
      exact tvS (by simp [go_sem,yy0,c0 g,c1 g]) rfl
     ·refine ob_plain [7] rfl rfl fun aa g h=>?_
      have yy0:=seen_out (v:=.pointer (some ⟨wr.heap.size,0,none⟩)) rfl rfl h.1
      exact tvS (by simp [go_sem,yy0]) rfl
     ·refine ob_plain [38] rfl rfl fun aa g h=>?_
      obtain ⟨_,yy0,rfl⟩:=seen_in rfl h.1
      exact tvS (by simp [go_sem,yy0,y1 g]) rfl
     ·refine ob_plain [39] rfl rfl fun aa g h=>?_
      obtain ⟨_,yy0,rfl⟩:=seen_in rfl h.1
      exact tvS (by simp [go_sem,yy0,u32I]) rfl
     ·refine ob_plain [37,40] rfl rfl fun aa g h=>?_
      obtain ⟨_,yy0,rfl⟩:=seen_in rfl h.1
      obtain ⟨_,yy1,rfl⟩:=seen_in rfl h.2.1
      refine tupon_enter (f:=27) (args:=#[.agg #[.int .i64 a,.int .i64 b],.int .u32 (u32I 0)]) (by simp [go_sem,yy0,yy1]) rfl ?_
      exact (KP2.out g.w).mono fun e w' ⟨he,hB⟩=>⟨_,he,hB,rfl⟩
     ·refine ob_plain [33] rfl rfl fun aa g h=>?_
      obtain ⟨_,yy0,rfl⟩:=seen_in rfl h.1
      exact tvS (by simp [go_sem,yy0]) rfl
     ·refine ob_plain [41] rfl rfl fun aa g h=>?_
      obtain ⟨_,yy0,rfl⟩:=seen_in rfl h.1
      exact tvS (by simp [go_sem,yy0]) rfl
    rintro w5 hB _ rfl _ rfl _ rfl _ rfl _ rfl _ rfl _ rfl _ rfl _ rfl _ rfl _ rfl _ rfl _ rfl _ rfl _ rfl _ rfl _ rfl _ rfl
    simp only [Act.put,List.setIfInBounds_toArray,List.set_cons_succ,List.set_cons_zero,List.filterMap_nil,finP]
    have hrow5:=own_keptN HR6.out hB
    have hB5:=below_then HB6.out hB
    have hs5:=hB5.size
    have HR5:=Lib.hid hrow5
    have HB5:=Lib.hid hB5
    clear hB hrow5 hB5 c0 c1 y0 y1 KP1 KP2
    rcases (show r1 < r2 ∨ r1 = r2 ∨ r2 < r1 by omega) with h12 | rfl | h12
    ·have hsn:=HSN.out
     rw [show min r1 r2 = r1 by omega,show max r1 r2 = r2 by omega] at hsn
     have HSN:=Lib.hid hsn
     clear hsn
     go_wp2_with (at_builtin; refine wpList_append_own _ rfl (.tmp 42) (.tmp 50) 23 rfl w.heap.size 66 i0 (.agg #[.int .i64 0,.int .i64 0]) 2 16 Tryz.underlying23 hi hz0 hz1 hz2 rfl (by decide) (.slice pv k cv) k _ rfl (HR5.out.alloc _) ⟨w5.heap.size,0,none⟩ 1 1 (encB (r1,r2)) rfl rfl (new_b _ (r1,r2)) (one_b _) (by unfold maxLen; omega) (by omega) (by rw [alloc_sz]; omega) ?_)
     intro v' w8 hown' hgrow _
     have hB8:Below w.heap.size w w8:=Below.grown (HB5.out.alloc hs5 _) hgrow (by rw [alloc_sz]; omega) (fun i hi=>(HR5.out.lt i hi).1)
     obtain ⟨p8,c8,rfl⟩:=own_slice hown'
     have HR8:=Lib.hid hown'
     have HB8:=Lib.hid hB8
     clear hown' hgrow hB8
     go_wp2_with (fail)
     go_roundw
     case rel =>
      refine ⟨k+1,by go_num,by omega,?_,HB8.out⟩
      rw [HSN.out,cr_snoc]
      exact HR8.out
     case measure=>simp [intOf]; omega
    ·have hsn:=HSN.out
     rw [show min r1 r1 = r1 by omega,show max r1 r1 = r1 by omega] at hsn
     have HSN:=Lib.hid hsn
     clear hsn
     go_wp2_with (at_builtin; refine wpList_append_own _ rfl (.tmp 42) (.tmp 50) 23 rfl w.heap.size 66 i0 (.agg #[.int .i64 0,.int .i64 0]) 2 16 Tryz.underlying23 hi hz0 hz1 hz2 rfl (by decide) (.slice pv k cv) k _ rfl (HR5.out.alloc _) ⟨w5.heap.size,0,none⟩ 1 1 (encB (r1,r1)) rfl rfl (new_b _ (r1,r1)) (one_b _) (by unfold maxLen; omega) (by omega) (by rw [alloc_sz]; omega) ?_)
     intro v' w8 hown' hgrow _
     have hB8:Below w.heap.size w w8:=Below.grown (HB5.out.alloc hs5 _) hgrow (by rw [alloc_sz]; omega) (fun i hi=>(HR5.out.lt i hi).1)
     obtain ⟨p8,c8,rfl⟩:=own_slice hown'
     have HR8:=Lib.hid hown'
     have HB8:=Lib.hid hB8
     clear hown' hgrow hB8
     go_wp2_with (fail)
     go_roundw
     case rel =>
      refine ⟨k+1,by go_num,by omega,?_,HB8.out⟩
      rw [HSN.out,cr_snoc]
      exact HR8.out
     case measure=>simp [intOf]; omega
    ·have hsn:=HSN.out
     rw [show min r1 r2 = r2 by omega,show max r1 r2 = r1 by omega] at hsn
     have HSN:=Lib.hid hsn
     clear hsn
     go_wp2_with (at_builtin; refine wpList_append_own _ rfl (.tmp 42) (.tmp 50) 23 rfl w.heap.size 66 i0 (.agg #[.int .i64 0,.int .i64 0]) 2 16 Tryz.underlying23 hi hz0 hz1 hz2 rfl (by decide) (.slice pv k cv) k _ rfl (HR5.out.alloc _) ⟨w5.heap.size,0,none⟩ 1 1 (encB (r2,r1)) rfl rfl (new_b _ (r2,r1)) (one_b _) (by unfold maxLen; omega) (by omega) (by rw [alloc_sz]; omega) ?_)
     intro v' w8 hown' hgrow _
     have hB8:Below w.heap.size w w8:=Below.grown (HB5.out.alloc hs5 _) hgrow (by rw [alloc_sz]; omega) (fun i hi=>(HR5.out.lt i hi).1)
     obtain ⟨p8,c8,rfl⟩:=own_slice hown'
     have HR8:=Lib.hid hown'
     have HB8:=Lib.hid hB8
     clear hown' hgrow hB8
     go_wp2_with (fail)
     go_roundw
     case rel =>
      refine ⟨k+1,by go_num,by omega,?_,HB8.out⟩
      rw [HSN.out,cr_snoc]
      exact HR8.out
     case measure=>simp [intOf]; omega
  ·obtain rfl:k = l.length:=by omega
   go_wp2_with (fail)
   go_ret
   exact ⟨_,_,rfl,hrow,hB⟩
end Go.Proofs.YtdfdpghdjlgghaaGreat
namespace Go.Proofs.YtdfdpghdjlgghaaGreat
open Go.ChangeShapes Go.WideShapes Go.ChangeAt Go.RowKit
set_option linter.unusedVariables false
set_option linter.unusedSimpArgs false
set_option maxRecDepth 100000
section
variable {H:Type} {enc:TypeId × Value→H} {w:World} {base:Nat} {spare:Nat→Bool} {held:Bool}
def WB (l:List (Int × Int)):Prop:=∀ q ∈ l,W64 q.1∧W64 q.2
def SrW (w:World) (x:Sr):Prop:=SrB w x∧W64 x.t∧W64 x.h∧WB x.F∧WB x.P∧WB x.U∧WB x.E
end
end Go.Proofs.YtdfdpghdjlgghaaGreat
