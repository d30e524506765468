/-
 Gk
-/
import Derived.Test.YtdfdpghdjlgghaaGreatKdv
import Derived.Test.YtdfdpghdjlgghaaGreatKdzk
namespace Go.Proofs.YtdfdpghdjlgghaaGreat
open Go.ChangeShapes Go.WideShapes Go.ChangeAt Go.RowKit
set_option linter.unusedVariables false
set_option linter.unusedSimpArgs false
set_option maxRecDepth 100000
attribute [local irreducible] Calls
theorem vbox_ok (v:Value) (l:List (Int × Int)) (w:World) (hv:Vx w v l) (ha:AV l) (h1:1 ≤ l.length) (h6:l.length ≤ 6):Calls Tryz.prog 104 #[v] w fun e w'=>e = .returned (.bool true)∧Below w.heap.size w w':=by
 have h:=box_valid v l w (vx_bx hv)
 have e:(l.all (fun p=>decide (VI p.1 p.2)) && (decide (1 ≤ l.length) && decide (l.length ≤ 6))) = true:=by
  have:l.all (fun p=>decide (VI p.1 p.2)) = true:=List.all_eq_true.2 (fun p hp=>decide_eq_true (ha p hp))
  rw [this,decide_eq_true h1,decide_eq_true h6]
  rfl
 rwa [e] at h
set_option maxHeartbeats 16000000 in
theorem fits_ok (T H:Int) (fp pp up ep:Option Addr) (fc pc uc ec:Nat) (F P U E:List (Int × Int)) (n:Nat) (w:World) (vf:Vx w (.slice fp F.length fc) F) (vp:Vx w (.slice pp P.length pc) P) (vu:Vx w (.slice up U.length uc) U) (ve:Vx w (.slice ep E.length ec) E)
  (lf:F.length = n) (lp:P.length = n) (lu:U.length = n) (le:E.length = n) (af:AV F) (ap:AV P) (au:AV U) (ae:AV E) (n1:1 ≤ n) (n6:n ≤ 6) (h1:1 ≤ H) (tn:Num T) (hn:Num H) (en:Num (T+H)) :
  Calls Tryz.prog 67 #[.agg #[.int .i64 T,.int .i64 H,.slice fp F.length fc,.slice pp P.length pc,.slice up U.length uc,.slice ep E.length ec],.int .i64 n] w fun e w'=>e = .returned (.bool true)∧Below w.heap.size w w':=by
 have KT:=Lib.hid (fun w=>isnum_yes T w tn)
 have KH:=Lib.hid (fun w=>isnum_yes H w hn)
 have KN:=Lib.hid (fun w=>isnum_yes (T+H) w en)
 unfold Num at tn hn en
 have KE:=Lib.hid (fun nf np nu ne w=>end_ok T H fp pp up ep nf fc np pc nu uc ne ec w (by omega) (by omega))
 have KB0:=Lib.hid (fun w v=>vbox_ok (.slice fp F.length fc) F w v af (by omega) (by omega))
 have KB1:=Lib.hid (fun w v=>vbox_ok (.slice pp P.length pc) P w v ap (by omega) (by omega))
 have KB2:=Lib.hid (fun w v=>vbox_ok (.slice up U.length uc) U w v au (by omega) (by omega))
 have KB3:=Lib.hid (fun w v=>vbox_ok (.slice ep E.length ec) E w v ae (by omega) (by omega))
 have hE:Below w.heap.size w ((w.alloc (.cells #[.int .i64 T,.int .i64 H,.slice fp F.length fc,.slice pp P.length pc,.slice up U.length uc,.slice ep E.length ec] 39)).alloc (.cells #[.slice fp F.length fc,.slice pp P.length pc,.slice up U.length uc,.slice ep E.length ec] 23)):=allocs_below [.cells #[.int .i64 T,.int .i64 H,.slice fp F.length fc,.slice pp P.length pc,.slice up U.length uc,.slice ep E.length ec] 39,.cells #[.slice fp F.length fc,.slice pp P.length pc,.slice up U.length uc,.slice ep E.length ec] 23] w
 have HA:=Lib.hid (show Blk ((w.alloc (.cells #[.int .i64 T,.int .i64 H,.slice fp F.length fc,.slice pp P.length pc,.slice up U.length uc,.slice ep E.length ec] 39)).alloc (.cells #[.slice fp F.length fc,.slice pp P.length pc,.slice up U.length uc,.slice ep E.length ec] 23)) w.heap.size (.cells #[.int .i64 T,.int .i64 H,.slice fp F.length fc,.slice pp P.length pc,.slice up U.length uc,.slice ep E.length ec] 39) from allocs_at [.cells #[.int .i64 T,.int .i64 H,.slice fp F.length fc,.slice pp P.length pc,.slice up U.length uc,.slice ep E.length ec] 39,.cells #[.slice fp F.length fc,.slice pp P.length pc,.slice up U.length uc,.slice ep E.length ec] 23] w 0 _ rfl)
 have HB:=Lib.hid (show Blk ((w.alloc (.cells #[.int .i64 T,.int .i64 H,.slice fp F.length fc,.slice pp P.length pc,.slice up U.length uc,.slice ep E.length ec] 39)).alloc (.cells #[.slice fp F.length fc,.slice pp P.length pc,.slice up U.length uc,.slice ep E.length ec] 23)) (w.heap.size+1) (.cells #[.slice fp F.length fc,.slice pp P.length pc,.slice up U.length uc,.slice ep E.length ec] 23) from allocs_at [.cells #[.int .i64 T,.int .i64 H,.slice fp F.length fc,.slice pp P.length pc,.slice up U.length uc,.slice ep E.length ec] 39,.cells #[.slice fp F.length fc,.slice pp P.length pc,.slice up U.length uc,.slice ep E.length ec] 23] w 1 _ rfl)
 have HW:=Lib.hid hE
 have V0:=Lib.hid vf
 have V1:=Lib.hid vp
 have V2:=Lib.hid vu
 have V3:=Lib.hid ve
 have HL0:=Lib.hid lf
 have HL1:=Lib.hid lp
 have HL2:=Lib.hid lu
 have HL3:=Lib.hid le
 have h1':(1:Int) ≤ H:=h1
 obtain ⟨d,hd⟩:∃ d,T+H = d:=⟨_,rfl⟩
 rw [hd] at KN KE
 rw [lf] at KB0 HA HB V0 hE HW ⊢
 rw [lp] at KB1 HA HB V1 hE HW ⊢
 rw [lu] at KB2 HA HB V2 hE HW ⊢
 rw [le] at KB3 HA HB V3 hE HW ⊢
 have KE:=Lib.hid (KE.out n n n n)
 clear hE vf vp vu ve lf lp lu le af ap au ae tn hn en hd h1
 have x2:=heapN_cellj HA.out (k:=2) rfl
 obtain ⟨W1,hW1⟩:∃ W1,w.alloc (.cells #[.int .i64 T,.int .i64 H,.slice fp n fc,.slice pp n pc,.slice up n uc,.slice ep n ec] 39) = W1:=⟨_,rfl⟩
 have hs1:Blk W1 w.heap.size (.cells #[.int .i64 T,.int .i64 H,.slice fp n fc,.slice pp n pc,.slice up n uc,.slice ep n ec] 39):=by rw [← hW1]; exact World.alloc_heap_new w _
 have z2:=heapN_cellj hs1 (k:=2) rfl
 have z3:=heapN_cellj hs1 (k:=3) rfl
 have z4:=heapN_cellj hs1 (k:=4) rfl
 have z5:=heapN_cellj hs1 (k:=5) rfl
 obtain ⟨W2,hW2⟩:∃ W2,W1.alloc (.cells #[.slice fp n fc,.slice pp n pc,.slice up n uc,.slice ep n ec] 23) = W2:=⟨_,rfl⟩
 have hb1:Below w.heap.size w W1:=by rw [← hW1]; exact (Below.refl _ _).alloc (Nat.le_refl _) _
 have hb2:Below W1.heap.size W1 W2:=by rw [← hW2]; exact (Below.refl _ _).alloc (Nat.le_refl _) _
 have HW:=Lib.hid (below_then hb1 hb2)
 have HA:=Lib.hid (hs1.grow hb2)
 have HB:=Lib.hid (show Blk W2 W1.heap.size (.cells #[.slice fp n fc,.slice pp n pc,.slice up n uc,.slice ep n ec] 23) by rw [← hW2]; exact World.alloc_heap_new W1 _)
 clear hs1 x2 hb1 hb2
 go_enter Tryz.func67,Tryz.ntmps67
 go_wp2_with (fail)
 go_loopw [17] (fun i wr=>∃ k:Nat,i = .int .i64 k∧k ≤ 4∧∃ g:Grown W2,wr = g.w) (fun i _=>4 - (intOf i).toNat)
 case atStart=>exact ⟨0,rfl,Nat.zero_le _,⟨W2,Below.refl _ _⟩,rfl⟩
 case round =>
  obtain ⟨k,rfl,hk,g,rfl⟩:=hrel
  have HB9:=Lib.hid (below_then HW.out g.h)
  have b0:=heapN_cellj (HB.out.grow g.h) (k:=0) rfl
  have b1:=heapN_cellj (HB.out.grow g.h) (k:=1) rfl
  have b2:=heapN_cellj (HB.out.grow g.h) (k:=2) rfl
  have b3:=heapN_cellj (HB.out.grow g.h) (k:=3) rfl
  rcases (show k = 0 ∨ k = 1 ∨ k = 2 ∨ k = 3 ∨ k = 4 by omega) with rfl | rfl | rfl | rfl | rfl
  ·go_wp2_with (fail)
   refine (KB0.out _ (V0.out.grow HB9.out)).mono ?_
   rintro e w5 ⟨rfl,hB5⟩
   have hB6:=g.h.trans (hB5.mono g.h.size)
   clear hB5
   go_wp2_with (fail)
   go_roundw
   case rel=>exact ⟨0+1,by go_num,by omega,⟨w5,hB6⟩,rfl⟩
   case measure=>simp [intOf]
  ·go_wp2_with (fail)
   refine (KB1.out _ (V1.out.grow HB9.out)).mono ?_
   rintro e w5 ⟨rfl,hB5⟩
   have hB6:=g.h.trans (hB5.mono g.h.size)
   clear hB5
   go_wp2_with (fail)
   go_roundw
   case rel=>exact ⟨1+1,by go_num,by omega,⟨w5,hB6⟩,rfl⟩
   case measure=>simp [intOf]
  ·go_wp2_with (fail)
   refine (KB2.out _ (V2.out.grow HB9.out)).mono ?_
   rintro e w5 ⟨rfl,hB5⟩
   have hB6:=g.h.trans (hB5.mono g.h.size)
   clear hB5
   go_wp2_with (fail)
   go_roundw
   case rel=>exact ⟨2+1,by go_num,by omega,⟨w5,hB6⟩,rfl⟩
   case measure=>simp [intOf]
  ·go_wp2_with (fail)
   refine (KB3.out _ (V3.out.grow HB9.out)).mono ?_
   rintro e w5 ⟨rfl,hB5⟩
   have hB6:=g.h.trans (hB5.mono g.h.size)
   clear hB5
   go_wp2_with (fail)
   go_roundw
   case rel=>exact ⟨3+1,by go_num,by omega,⟨w5,hB6⟩,rfl⟩
   case measure=>simp [intOf]
  ·have a0:=heapN_cellj (HA.out.grow g.h) (k:=0) rfl
   have a1:=heapN_cellj (HA.out.grow g.h) (k:=1) rfl
   go_wp2_with (fail)
   refine (KT.out _).mono ?_
   rintro e w5 ⟨rfl,hB5⟩
   have HA5:=Lib.hid (HA.out.grow (g.h.trans (hB5.mono g.h.size)))
   have HB5:=Lib.hid (below_then HB9.out hB5)
   have a1:=heapN_cellj HA5.out (k:=1) rfl
   clear hB5
   go_wp2_with (fail)
   refine (KH.out _).mono ?_
   rintro e w6 ⟨rfl,hB6⟩
   have HA6:=Lib.hid (HA5.out.grow hB6)
   have HB6:=Lib.hid (below_then HB5.out hB6)
   have a0:=heapN_cellj HA6.out (k:=0) rfl
   have a1:=heapN_cellj HA6.out (k:=1) rfl
   have a2:=heapN_cellj HA6.out (k:=2) rfl
   have a3:=heapN_cellj HA6.out (k:=3) rfl
   have a4:=heapN_cellj HA6.out (k:=4) rfl
   have a5:=heapN_cellj HA6.out (k:=5) rfl
   clear hB6
   go_wp2_with (fail)
   refine (KE.out _).mono ?_
   rintro e w7 ⟨rfl,hB7⟩
   have HB7:=Lib.hid (below_then HB6.out hB7)
   clear hB7 a0 a1 a2 a3 a4 a5
   go_wp2_with (fail)
   refine (KN.out _).mono ?_
   rintro e w8 ⟨rfl,hB8⟩
   have HB8:=Lib.hid (below_then HB7.out hB8)
   clear hB8
   go_wp2_with (fail)
   go_ret
   exact ⟨rfl,HB8.out⟩
section
variable {P:Program}
theorem gT14 {ops:Array Oper} {ds:List Tmp} {a0:Act} {w0:World} {Φ:Tmp→Value→World→Prop} {o:Oper} {j:Nat} (ts:List Tmp) (want:Bool) (u:Tmp) (hg:o.guard = some (j,want)) (hj:((ops[j]?).bind (·.dst)) = some u) (ht:o.looksAt #[] = ts)
  (h:∀ (a:Act) (g:Grown w0),seenAll Φ ds a0 a g.w ts→uponP P g.w (meets Φ o.dst) ((execOp a.eval o).run P g.w)) (hin:inL u ds = true:=by rfl) (hu:∀ v w,Φ u v w→v = .bool want:=by exact fun v w h=>h):Obl P ops ds a0 w0 Φ o:=ob_gtrue ts j want u hg hj ht hin hu h
theorem tv14 {w:World} {K:Value→World→Prop} {r:Result Next} {v:Value} (hr:r = .ok (.value v) w) (h:K v w):uponP P w K r:=tupon_value hr (Below.refl _ _) h
theorem ob_gfalse14 {ops:Array Oper} {ds:List Tmp} {a0:Act} {w0:World} {Φ:Tmp→Value→World→Prop} {o:Oper} (ts:List Tmp) (j:Nat) (want:Bool) (u:Tmp) (hg:o.guard = some (j,want)) (hj:((ops[j]?).bind (·.dst)) = some u) (ht:o.looksAt #[] = ts)
  (hin:inL u ds = true) (hu:∀ v w,Φ u v w→v = .bool (!want)) (h0:∀ w,meets Φ o.dst undef w):Obl P ops ds a0 w0 Φ o :=
 ob_guard ts j want u hg hj ht fun a g hs hsu=>by
  refine ⟨fun hn=>?_,fun _=>h0 _⟩
  obtain ⟨v,hv,hp⟩:=seen_in hin hsu
  have e:=hu v _ hp
  rw [hv,e] at hn
  injection hn with hn
  injection hn with hn
  cases want <;> cases hn
end
theorem Valid_nil (p:Option Addr) (c:Nat) (w:World):Calls Tryz.prog 23 #[.slice p 0 c] w fun e w'=>e = .returned (.bool false)∧Below w.heap.size w w':=by
 go_enter Tryz.func23,Tryz.ntmps23
 go_wp2_with (fail)
 go_ret
 exact ⟨rfl,Below.refl _ _⟩
set_option maxHeartbeats 32000000 in
theorem Valid_ok (p:Option Addr) (c n m:Nat) (l:List Sr) (w:World) (hl:Fx w (.slice p l.length c) l) (n1:1 ≤ n) (n6:n ≤ 6) (h1:1 ≤ l.length) (h256:l.length ≤ 256)
  (hb:∀ x ∈ l,x.F.length = n∧x.P.length = n∧x.U.length = n∧x.E.length = n∧AV x.F∧AV x.P∧AV x.U∧AV x.E) (ht:∀ x ∈ l,1 ≤ x.h∧x.h < 2147483648∧-2147483648 < x.t∧x.t+x.h < 2147483648)
  (hm:m ≤ l.length) (hok:∀ (i:Nat) x y,i+1 < m→l[i]? = some x→l[i+1]? = some y→y.t = x.t+x.h) (hno:m < l.length→0 < m∧∀ (i:Nat) x y,i+1 = m→l[i]? = some x→l[i+1]? = some y→y.t ≠ x.t+x.h) (r:Bool) (hr:decide (m = l.length) = r) :
  Calls Tryz.prog 23 #[.slice p l.length c] w fun e w'=>e = .returned (.bool r)∧Below w.heap.size w w':=by
 have HL:=Lib.hid hl
 have HBX:=Lib.hid hb
 have HTM:=Lib.hid ht
 have HOK:=Lib.hid hok
 have HNO:=Lib.hid hno
 have HN:=Lib.hid (And.intro n1 n6)
 have HR:=Lib.hid hr
 have HM:=Lib.hid hm
 obtain ⟨z,hz⟩:∃ x,l[0]? = some x:=⟨_,List.getElem?_eq_getElem (by omega)⟩
 have zl:=(hb z (List.mem_of_getElem? hz)).1
 obtain ⟨b,o,rfl,hbb,rdz⟩:=zx_rd hl.1 hz
 have RZ:Hid (∀ g:Grown w,g.w.cell? ⟨b,o+2,none⟩ = some (.slice z.fp n z.fc)):=Lib.hid (fun g=>by
  have:=(rdz g).2.2.1
  rw [Nat.zero_mul,Nat.add_zero,zl] at this
  exact this)
 have hl0:((l.length:Int) < 1) = False:=by simp; omega
 clear rdz hl hb ht hok hno n1 n6 hr hm zl hl0
 have h1':(1:Int) ≤ l.length:=by omega
 have h2':(l.length:Int) ≤ 256:=by omega
 go_enter Tryz.func23,Tryz.ntmps23
 go_wp2_with (fail)
 go_loopw [15] (fun i wr=>∃ k:Nat,i = .int .i64 k∧k ≤ m∧k ≤ l.length∧∃ g:Grown w,wr = g.w) (fun i _=>l.length - (intOf i).toNat)
 case atStart=>exact ⟨0,rfl,Nat.zero_le _,Nat.zero_le _,⟨w,Below.refl _ _⟩,rfl⟩
 case round =>
  obtain ⟨k,rfl,hkm,hk,g0,rfl⟩:=hrel
  by_cases hlt:k < l.length
  ·have i2:(k:Int) < l.length:=by omega
   have i0:(0:Int) < l.length:=by omega
   obtain ⟨x,hx⟩:∃ x,l[k]? = some x:=⟨_,List.getElem?_eq_getElem hlt⟩
   obtain ⟨b',o',hp',hb',rd⟩:=zx_rd (HL.out.grow g0.h).1 hx
   have hq':b = b'∧o = o':=by simpa using hp'
   have sx:=(HL.out.grow g0.h).2 x (List.mem_of_getElem? hx)
   have bx:=HBX.out x (List.mem_of_getElem? hx)
   have tx:=HTM.out x (List.mem_of_getElem? hx)
   have HX:=Lib.hid hx
   obtain ⟨x0,x1,x2,x3,x4,x5⟩:=rd ⟨g0.w,Below.refl _ _⟩
   have KOK:=Lib.hid (fun i y hi hy=>HOK.out i y x hi hy)
   have KNO:=Lib.hid (fun (h:m < l.length) i y (hi:i+1 = m) (hy:l[i]? = some y) (hxx:l[i+1]? = some x)=>(HNO.out h).2 i y x hi hy hxx)
   obtain ⟨T,H,fp,pp,up,ep,fc,pc,uc,ec,F,P,U,E⟩:=x
   dsimp only at *
   obtain ⟨rfl,rfl⟩:=hq'
   obtain ⟨l1,l2,l3,l4,a1,a2,a3,a4⟩:=bx
   have hn:=HN.out
   have KF:=Lib.hid (fun w v1 v2 v3 v4=>fits_ok T H fp pp up ep fc pc uc ec F P U E n w v1 v2 v3 v4 l1 l2 l3 l4 a1 a2 a3 a4 hn.1 hn.2 tx.1 ⟨by omega,by omega⟩ ⟨by omega,by omega⟩ ⟨by omega,by omega⟩)
   rw [l1,l2,l3,l4] at KF
   rw [l1] at x2
   rw [l2] at x3
   rw [l3] at x4
   rw [l4] at x5
   have s1:=sx.f
   have s2:=sx.p
   have s3:=sx.u
   have s4:=sx.e
   dsimp only at s1 s2 s3 s4
   rw [l1] at s1
   rw [l2] at s2
   rw [l3] at s3
   rw [l4] at s4
   obtain ⟨W6,hW6⟩:∃ W6,g0.w.alloc (.cells #[.int .i64 T,.int .i64 H,.slice fp n fc,.slice pp n pc,.slice up n uc,.slice ep n ec] 39) = W6:=⟨_,rfl⟩
   have hb6:Below g0.w.heap.size g0.w W6:=by rw [← hW6]; exact (Below.refl _ _).alloc (Nat.le_refl _) _
   have HS6:=Lib.hid (show Blk W6 g0.w.heap.size (.cells #[.int .i64 T,.int .i64 H,.slice fp n fc,.slice pp n pc,.slice up n uc,.slice ep n ec] 39) by rw [← hW6]; exact World.alloc_heap_new g0.w _)
   have HB6:=Lib.hid (below_then g0.h hb6)
   have S1:=Lib.hid (s1.grow hb6)
   have S2:=Lib.hid (s2.grow hb6)
   have S3:=Lib.hid (s3.grow hb6)
   have S4:=Lib.hid (s4.grow hb6)
   clear rd hx sx tx hb' hp' hb6 l1 l2 l3 l4 a1 a2 a3 a4 s1 s2 s3 s4 hn
   go_wp2_with (fail)
   clear hW6 x0 x1 x2 x3 x4 x5
   have z2:=fun g:Grown W6=>RZ.out ⟨g.w,HB6.out.trans (g.h.mono HB6.out.size)⟩
   have mm0:=fun g:Grown W6=>heapN_cellj (HS6.out.grow g.h) (k:=0) rfl
   have mm1:=fun g:Grown W6=>heapN_cellj (HS6.out.grow g.h) (k:=1) rfl
   have mm2:=fun g:Grown W6=>heapN_cellj (HS6.out.grow g.h) (k:=2) rfl
   have mm3:=fun g:Grown W6=>heapN_cellj (HS6.out.grow g.h) (k:=3) rfl
   have mm4:=fun g:Grown W6=>heapN_cellj (HS6.out.grow g.h) (k:=4) rfl
   have mm5:=fun g:Grown W6=>heapN_cellj (HS6.out.grow g.h) (k:=5) rfl
   have hl1:0 < l.length:=by omega
   rcases (show k = 0 ∨ 0 < k by omega) with rfl | hkp
   ·have hm0:0 < m:=by
     rcases Nat.lt_or_ge 0 m with h | h
     ·exact h
     ·exact (HNO.out (by omega)).1
    refine region_pred (lk [(20,fun z_ _=>z_ = .agg #[.int .i64 T,.int .i64 H,.slice fp n fc,.slice pp n pc,.slice up n uc,.slice ep n ec]),(21,fun z_ _=>z_ = .slice (some ⟨b,o,none⟩) l.length c),(22,fun z_ _=>z_ = .pointer (some ⟨b,o,none⟩)),(23,fun z_ _=>z_ = .pointer (some ⟨b,o+2,none⟩)),(24,fun z_ _=>z_ = .slice z.fp n z.fc),(25,fun z_ _=>z_ = .int .i64 (n:Int)),(26,fun z_ _=>z_ = .bool true),(27,fun z_ _=>z_ = .bool false),(28,fun z_ _=>z_ = .bool false),(29,fun z_ _=>z_ = .int .i64 0),(30,fun z_ _=>z_ = .bool false),(31,fun z_ _=>z_ = .bool false),(32,fun z_ _=>z_ = undef),(33,fun z_ _=>z_ = undef),(34,fun z_ _=>z_ = undef),(35,fun z_ _=>z_ = undef),(36,fun z_ _=>z_ = undef),(37,fun z_ _=>z_ = undef),(38,fun z_ _=>z_ = undef),(39,fun z_ _=>z_ = undef),(40,fun z_ _=>z_ = undef),(41,fun z_ _=>z_ = .bool false),(42,fun z_ _=>z_ = .bool false)]) (by kernel_rfl) (by kernel_rfl) (lk_steady _ ⟨steady_eq _,steady_eq _,steady_eq _,steady_eq _,steady_eq _,steady_eq _,steady_eq _,steady_eq _,steady_eq _,steady_eq _,steady_eq _,steady_eq _,steady_eq _,steady_eq _,steady_eq _,steady_eq _,steady_eq _,steady_eq _,steady_eq _,steady_eq _,steady_eq _,steady_eq _,steady_eq _,trivial⟩) ?_ ?_
    ·refine ⟨?_,?_,?_,?_,?_,?_,?_,?_,?_,?_,?_,?_,?_,?_,?_,?_,?_,?_,?_,?_,?_,?_,?_,trivial⟩
     ·exact ob_plain [4] rfl rfl fun _ g h=>by have y0:=seen_out rfl rfl h.1; exact tv14 (by simp [go_sem,y0,mm0 g,mm1 g,mm2 g,mm3 g,mm4 g,mm5 g]) rfl
     ·exact ob_plain [0] rfl rfl fun _ g h=>by have y0:=seen_out rfl rfl h.1; exact tv14 (by simp [go_sem,y0]) rfl
     ·exact ob_plain [21] rfl rfl fun _ g h=>by obtain ⟨_,y0,rfl⟩:=seen_in rfl h.1; exact tv14 (by simp [go_sem,y0,i0,hl1]) rfl
     ·exact ob_plain [22] rfl rfl fun _ g h=>by obtain ⟨_,y0,rfl⟩:=seen_in rfl h.1; exact tv14 (by simp [go_sem,y0]) rfl
     ·exact ob_plain [23] rfl rfl fun _ g h=>by obtain ⟨_,y0,rfl⟩:=seen_in rfl h.1; exact tv14 (by simp [go_sem,y0,z2 g]) rfl
     ·exact ob_plain [24] rfl rfl fun _ g h=>by obtain ⟨_,y0,rfl⟩:=seen_in rfl h.1; exact tv14 (by simp [go_sem,y0]) rfl
     ·exact ob_plain [20,25] rfl rfl fun _ g h=>by obtain ⟨_,y0,rfl⟩:=seen_in rfl h.1; obtain ⟨_,y1,rfl⟩:=seen_in rfl h.2.1; exact tupon_enter (f:=67) (args:=#[.agg #[.int .i64 T,.int .i64 H,.slice fp n fc,.slice pp n pc,.slice up n uc,.slice ep n ec],.int .i64 (n:Int)]) (by simp [go_sem,y0,y1]) rfl ((KF.out g.w (S1.out.grow g.h) (S2.out.grow g.h) (S3.out.grow g.h) (S4.out.grow g.h)).mono fun e w' ⟨he,hB⟩=>⟨_,he,hB,rfl⟩)
     ·exact ob_plain [26] rfl rfl fun _ g h=>by obtain ⟨_,y0,rfl⟩:=seen_in rfl h.1; exact tv14 (by simp [go_sem,y0]) rfl
     ·exact ob_plain [27] rfl rfl fun _ g h=>by obtain ⟨_,y0,rfl⟩:=seen_in rfl h.1; exact tv14 (by simp [go_sem,y0]) rfl
     ·exact gT14 [3] false 28 rfl rfl rfl fun _ g h=>by have y0:=seen_out rfl rfl h.1; exact tv14 (by simp [go_sem,y0]) rfl
     ·exact gT14 [29] false 28 rfl rfl rfl fun _ g h=>by obtain ⟨_,y0,rfl⟩:=seen_in rfl h.1; exact tv14 (by simp [go_sem,y0]) rfl
     ·exact gT14 [30] false 28 rfl rfl rfl fun _ g h=>by obtain ⟨_,y0,rfl⟩:=seen_in rfl h.1; exact tv14 (by simp [go_sem,y0]) rfl
     ·exact ob_gfalse14 _ _ true 31 rfl rfl rfl rfl (fun v w h=>h) (fun _=>rfl)
     ·exact ob_gfalse14 _ _ true 31 rfl rfl rfl rfl (fun v w h=>h) (fun _=>rfl)
     ·exact ob_gfalse14 _ _ true 31 rfl rfl rfl rfl (fun v w h=>h) (fun _=>rfl)
     ·exact ob_gfalse14 _ _ true 31 rfl rfl rfl rfl (fun v w h=>h) (fun _=>rfl)
     ·exact ob_gfalse14 _ _ true 31 rfl rfl rfl rfl (fun v w h=>h) (fun _=>rfl)
     ·exact ob_gfalse14 _ _ true 31 rfl rfl rfl rfl (fun v w h=>h) (fun _=>rfl)
     ·exact ob_gfalse14 _ _ true 31 rfl rfl rfl rfl (fun v w h=>h) (fun _=>rfl)
     ·exact ob_gfalse14 _ _ true 31 rfl rfl rfl rfl (fun v w h=>h) (fun _=>rfl)
     ·exact ob_gfalse14 _ _ true 31 rfl rfl rfl rfl (fun v w h=>h) (fun _=>rfl)
     ·exact gT14 [31,40] false 28 rfl rfl rfl fun _ g h=>by obtain ⟨_,y0,rfl⟩:=seen_in rfl h.1; obtain ⟨_,y1,rfl⟩:=seen_in rfl h.2.1; exact tv14 (by simp [go_sem,y0,y1]) rfl
     ·exact ob_plain [28,41] rfl rfl fun _ g h=>by obtain ⟨_,y0,rfl⟩:=seen_in rfl h.1; obtain ⟨_,y1,rfl⟩:=seen_in rfl h.2.1; exact tv14 (by simp [go_sem,y0,y1]) rfl
    rintro w7 hB _ rfl _ rfl _ rfl _ rfl _ rfl _ rfl _ rfl _ rfl _ rfl _ rfl _ rfl _ rfl _ rfl _ rfl _ rfl _ rfl _ rfl _ rfl _ rfl _ rfl _ rfl _ rfl _ rfl
    simp only [Act.put,List.setIfInBounds_toArray,List.set_cons_succ,List.set_cons_zero,List.filterMap_nil,finP]
    have hB7:=HB6.out.trans (hB.mono HB6.out.size)
    clear hB z2 mm0 mm1 mm2 mm3 mm4 mm5
    go_wp2_with (fail)
    go_roundw
    case rel=>exact ⟨0+1,by go_num,by omega,by omega,⟨w7,hB7⟩,rfl⟩
    case measure=>simp [intOf]; omega
   ·obtain ⟨j,rfl⟩:∃ j,k = j+1:=⟨k - 1,by omega⟩
    obtain ⟨q,hq⟩:∃ x,l[j]? = some x:=⟨_,List.getElem?_eq_getElem (by omega)⟩
    obtain ⟨b',o',hp',hb',rd⟩:=zx_rd HL.out.1 hq
    have hq':b = b'∧o = o':=by simpa using hp'
    have bq:=HBX.out q (List.mem_of_getElem? hq)
    have tq:=HTM.out q (List.mem_of_getElem? hq)
    have KOK:=Lib.hid (fun h=>KOK.out j q h hq HX.out)
    have KNO:=Lib.hid (fun (h:m < l.length) (h2:j+1 = m)=>KNO.out h j q h2 hq HX.out)
    obtain ⟨Tq,Hq,fq,pq,uq,eq_,gq,qq,rq,sq,F',P',U',E'⟩:=q
    dsimp only at *
    obtain ⟨rfl,rfl⟩:=hq'
    obtain ⟨l1,l2,l3,l4,-⟩:=bq
    rw [l1,l2,l3,l4] at rd
    have v0:=fun g:Grown W6=>(rd ⟨g.w,HB6.out.trans (g.h.mono HB6.out.size)⟩).1
    have v1:=fun g:Grown W6=>(rd ⟨g.w,HB6.out.trans (g.h.mono HB6.out.size)⟩).2.1
    have v2:=fun g:Grown W6=>(rd ⟨g.w,HB6.out.trans (g.h.mono HB6.out.size)⟩).2.2.1
    have v3:=fun g:Grown W6=>(rd ⟨g.w,HB6.out.trans (g.h.mono HB6.out.size)⟩).2.2.2.1
    have v4:=fun g:Grown W6=>(rd ⟨g.w,HB6.out.trans (g.h.mono HB6.out.size)⟩).2.2.2.2.1
    have v5:=fun g:Grown W6=>(rd ⟨g.w,HB6.out.trans (g.h.mono HB6.out.size)⟩).2.2.2.2.2
    have KE:=Lib.hid (fun w=>end_ok Tq Hq fq pq uq eq_ n gq n qq n rq n sq w (by omega) (by omega))
    obtain ⟨d,hd⟩:∃ d,Tq+Hq = d:=⟨_,rfl⟩
    rw [hd] at KE KOK KNO
    have hj1:decide ((0:Int) < ((j+1:Nat):Int)) = true:=decide_eq_true (by omega)
    have hj2:IntKind.i64.wrap (j:Int) = (j:Int):=wrapN _ (by omega) (by omega)
    have hj3:(j:Int) < l.length:=by omega
    have hj4:j < l.length:=by omega
    clear rd hq tq hb' hp' l1 l2 l3 l4 hd
    by_cases hb:j+1 < m
    ·have hcc:T = d:=KOK.out hb
     have hcmp:(T != d) = false:=by rw [hcc]; simp
     clear hcc
     refine region_pred (lk [(20,fun z_ _=>z_ = .agg #[.int .i64 T,.int .i64 H,.slice fp n fc,.slice pp n pc,.slice up n uc,.slice ep n ec]),(21,fun z_ _=>z_ = .slice (some ⟨b,o,none⟩) l.length c),(22,fun z_ _=>z_ = .pointer (some ⟨b,o,none⟩)),(23,fun z_ _=>z_ = .pointer (some ⟨b,o+2,none⟩)),(24,fun z_ _=>z_ = .slice z.fp n z.fc),(25,fun z_ _=>z_ = .int .i64 (n:Int)),(26,fun z_ _=>z_ = .bool true),(27,fun z_ _=>z_ = .bool false),(28,fun z_ _=>z_ = .bool false),(29,fun z_ _=>z_ = .int .i64 (((j+1:Nat)):Int)),(30,fun z_ _=>z_ = .bool true),(31,fun z_ _=>z_ = .bool true),(32,fun z_ _=>z_ = .pointer (some ⟨g0.w.heap.size,0,none⟩)),(33,fun z_ _=>z_ = .int .i64 T),(34,fun z_ _=>z_ = .slice (some ⟨b,o,none⟩) l.length c),(35,fun z_ _=>z_ = .int .i64 (((j+1:Nat)):Int)),(36,fun z_ _=>z_ = .int .i64 (j:Int)),(37,fun z_ _=>z_ = .pointer (some ⟨b,o+j * 6,none⟩)),(38,fun z_ _=>z_ = .agg #[.int .i64 Tq,.int .i64 Hq,.slice fq n gq,.slice pq n qq,.slice uq n rq,.slice eq_ n sq]),(39,fun z_ _=>z_ = .int .i64 d),(40,fun z_ _=>z_ = .bool false),(41,fun z_ _=>z_ = .bool false),(42,fun z_ _=>z_ = .bool false)]) (by kernel_rfl) (by kernel_rfl) (lk_steady _ ⟨steady_eq _,steady_eq _,steady_eq _,steady_eq _,steady_eq _,steady_eq _,steady_eq _,steady_eq _,steady_eq _,steady_eq _,steady_eq _,steady_eq _,steady_eq _,steady_eq _,steady_eq _,steady_eq _,steady_eq _,steady_eq _,steady_eq _,steady_eq _,steady_eq _,steady_eq _,steady_eq _,trivial⟩) ?_ ?_
     ·refine ⟨?_,?_,?_,?_,?_,?_,?_,?_,?_,?_,?_,?_,?_,?_,?_,?_,?_,?_,?_,?_,?_,?_,?_,trivial⟩
      ·exact ob_plain [4] rfl rfl fun _ g h=>by have y0:=seen_out rfl rfl h.1; exact tv14 (by simp [go_sem,y0,mm0 g,mm1 g,mm2 g,mm3 g,mm4 g,mm5 g]) rfl
      ·exact ob_plain [0] rfl rfl fun _ g h=>by have y0:=seen_out rfl rfl h.1; exact tv14 (by simp [go_sem,y0]) rfl
      ·exact ob_plain [21] rfl rfl fun _ g h=>by obtain ⟨_,y0,rfl⟩:=seen_in rfl h.1; exact tv14 (by simp [go_sem,y0,i0,hl1]) rfl
      ·exact ob_plain [22] rfl rfl fun _ g h=>by obtain ⟨_,y0,rfl⟩:=seen_in rfl h.1; exact tv14 (by simp [go_sem,y0]) rfl
      ·exact ob_plain [23] rfl rfl fun _ g h=>by obtain ⟨_,y0,rfl⟩:=seen_in rfl h.1; exact tv14 (by simp [go_sem,y0,z2 g]) rfl
      ·exact ob_plain [24] rfl rfl fun _ g h=>by obtain ⟨_,y0,rfl⟩:=seen_in rfl h.1; exact tv14 (by simp [go_sem,y0]) rfl
      ·exact ob_plain [20,25] rfl rfl fun _ g h=>by obtain ⟨_,y0,rfl⟩:=seen_in rfl h.1; obtain ⟨_,y1,rfl⟩:=seen_in rfl h.2.1; exact tupon_enter (f:=67) (args:=#[.agg #[.int .i64 T,.int .i64 H,.slice fp n fc,.slice pp n pc,.slice up n uc,.slice ep n ec],.int .i64 (n:Int)]) (by simp [go_sem,y0,y1]) rfl ((KF.out g.w (S1.out.grow g.h) (S2.out.grow g.h) (S3.out.grow g.h) (S4.out.grow g.h)).mono fun e w' ⟨he,hB⟩=>⟨_,he,hB,rfl⟩)
      ·exact ob_plain [26] rfl rfl fun _ g h=>by obtain ⟨_,y0,rfl⟩:=seen_in rfl h.1; exact tv14 (by simp [go_sem,y0]) rfl
      ·exact ob_plain [27] rfl rfl fun _ g h=>by obtain ⟨_,y0,rfl⟩:=seen_in rfl h.1; exact tv14 (by simp [go_sem,y0]) rfl
      ·exact gT14 [3] false 28 rfl rfl rfl fun _ g h=>by have y0:=seen_out rfl rfl h.1; exact tv14 (by simp [go_sem,y0]) rfl
      ·exact gT14 [29] false 28 rfl rfl rfl fun _ g h=>by obtain ⟨_,y0,rfl⟩:=seen_in rfl h.1; exact tv14 (by simp [go_sem,y0,hj1]) rfl
      ·exact gT14 [30] false 28 rfl rfl rfl fun _ g h=>by obtain ⟨_,y0,rfl⟩:=seen_in rfl h.1; exact tv14 (by simp [go_sem,y0]) rfl
      ·exact gT14 [4] true 31 rfl rfl rfl fun _ g h=>by have y0:=seen_out rfl rfl h.1; exact tv14 (by simp [go_sem,y0]) rfl
      ·exact gT14 [32] true 31 rfl rfl rfl fun _ g h=>by obtain ⟨_,y0,rfl⟩:=seen_in rfl h.1; exact tv14 (by simp [go_sem,y0,mm0 g]) rfl
      ·exact gT14 [0] true 31 rfl rfl rfl fun _ g h=>by have y0:=seen_out rfl rfl h.1; exact tv14 (by simp [go_sem,y0]) rfl
      ·exact gT14 [3] true 31 rfl rfl rfl fun _ g h=>by have y0:=seen_out rfl rfl h.1; exact tv14 (by simp [go_sem,y0]) rfl
      ·exact gT14 [35] true 31 rfl rfl rfl fun _ g h=>by obtain ⟨_,y0,rfl⟩:=seen_in rfl h.1; exact tv14 (by simp [go_sem,y0,hj2]) rfl
      ·exact gT14 [34,36] true 31 rfl rfl rfl fun _ g h=>by obtain ⟨_,y0,rfl⟩:=seen_in rfl h.1; obtain ⟨_,y1,rfl⟩:=seen_in rfl h.2.1; exact tv14 (by simp [go_sem,y0,y1,hj3,hj4]) rfl
      ·exact gT14 [37] true 31 rfl rfl rfl fun _ g h=>by obtain ⟨_,y0,rfl⟩:=seen_in rfl h.1; exact tv14 (by simp [go_sem,y0,v0 g,v1 g,v2 g,v3 g,v4 g,v5 g]) rfl
      ·exact gT14 [38] true 31 rfl rfl rfl fun _ g h=>by obtain ⟨_,y0,rfl⟩:=seen_in rfl h.1; exact tupon_enter (f:=61) (args:=#[.agg #[.int .i64 Tq,.int .i64 Hq,.slice fq n gq,.slice pq n qq,.slice uq n rq,.slice eq_ n sq]]) (by simp [go_sem,y0]) rfl ((KE.out g.w).mono fun e w' ⟨he,hB⟩=>⟨_,he,hB,rfl⟩)
      ·exact gT14 [33,39] true 31 rfl rfl rfl fun _ g h=>by obtain ⟨_,y0,rfl⟩:=seen_in rfl h.1; obtain ⟨_,y1,rfl⟩:=seen_in rfl h.2.1; exact tv14 (by simp [go_sem,y0,y1,hcmp]) rfl
      ·exact gT14 [31,40] false 28 rfl rfl rfl fun _ g h=>by obtain ⟨_,y0,rfl⟩:=seen_in rfl h.1; obtain ⟨_,y1,rfl⟩:=seen_in rfl h.2.1; exact tv14 (by simp [go_sem,y0,y1]) rfl
      ·exact ob_plain [28,41] rfl rfl fun _ g h=>by obtain ⟨_,y0,rfl⟩:=seen_in rfl h.1; obtain ⟨_,y1,rfl⟩:=seen_in rfl h.2.1; exact tv14 (by simp [go_sem,y0,y1]) rfl
     rintro w7 hB _ rfl _ rfl _ rfl _ rfl _ rfl _ rfl _ rfl _ rfl _ rfl _ rfl _ rfl _ rfl _ rfl _ rfl _ rfl _ rfl _ rfl _ rfl _ rfl _ rfl _ rfl _ rfl _ rfl
     simp only [Act.put,List.setIfInBounds_toArray,List.set_cons_succ,List.set_cons_zero,List.filterMap_nil,finP]
     have hB7:=HB6.out.trans (hB.mono HB6.out.size)
     clear hB z2 mm0 mm1 mm2 mm3 mm4 mm5
     clear v0 v1 v2 v3 v4 v5 hcmp
     go_wp2_with (fail)
     go_roundw
     case rel=>exact ⟨j+1+1,by go_num,by omega,by omega,⟨w7,hB7⟩,rfl⟩
     case measure=>simp [intOf]; omega
    ·have hjm:j+1 = m:=by omega
     have hcc:T ≠ d:=KNO.out (by omega) hjm
     have hcmp:(T != d) = true:=by simpa using hcc
     have hrf:r = false:=by rw [← HR.out]; exact decide_eq_false (by omega)
     have HRF:=Lib.hid hrf
     clear hcc hrf
     refine region_pred (lk [(20,fun z_ _=>z_ = .agg #[.int .i64 T,.int .i64 H,.slice fp n fc,.slice pp n pc,.slice up n uc,.slice ep n ec]),(21,fun z_ _=>z_ = .slice (some ⟨b,o,none⟩) l.length c),(22,fun z_ _=>z_ = .pointer (some ⟨b,o,none⟩)),(23,fun z_ _=>z_ = .pointer (some ⟨b,o+2,none⟩)),(24,fun z_ _=>z_ = .slice z.fp n z.fc),(25,fun z_ _=>z_ = .int .i64 (n:Int)),(26,fun z_ _=>z_ = .bool true),(27,fun z_ _=>z_ = .bool false),(28,fun z_ _=>z_ = .bool false),(29,fun z_ _=>z_ = .int .i64 (((j+1:Nat)):Int)),(30,fun z_ _=>z_ = .bool true),(31,fun z_ _=>z_ = .bool true),(32,fun z_ _=>z_ = .pointer (some ⟨g0.w.heap.size,0,none⟩)),(33,fun z_ _=>z_ = .int .i64 T),(34,fun z_ _=>z_ = .slice (some ⟨b,o,none⟩) l.length c),(35,fun z_ _=>z_ = .int .i64 (((j+1:Nat)):Int)),(36,fun z_ _=>z_ = .int .i64 (j:Int)),(37,fun z_ _=>z_ = .pointer (some ⟨b,o+j * 6,none⟩)),(38,fun z_ _=>z_ = .agg #[.int .i64 Tq,.int .i64 Hq,.slice fq n gq,.slice pq n qq,.slice uq n rq,.slice eq_ n sq]),(39,fun z_ _=>z_ = .int .i64 d),(40,fun z_ _=>z_ = .bool true),(41,fun z_ _=>z_ = .bool true),(42,fun z_ _=>z_ = .bool true)]) (by kernel_rfl) (by kernel_rfl) (lk_steady _ ⟨steady_eq _,steady_eq _,steady_eq _,steady_eq _,steady_eq _,steady_eq _,steady_eq _,steady_eq _,steady_eq _,steady_eq _,steady_eq _,steady_eq _,steady_eq _,steady_eq _,steady_eq _,steady_eq _,steady_eq _,steady_eq _,steady_eq _,steady_eq _,steady_eq _,steady_eq _,steady_eq _,trivial⟩) ?_ ?_
     ·refine ⟨?_,?_,?_,?_,?_,?_,?_,?_,?_,?_,?_,?_,?_,?_,?_,?_,?_,?_,?_,?_,?_,?_,?_,trivial⟩
      ·exact ob_plain [4] rfl rfl fun _ g h=>by have y0:=seen_out rfl rfl h.1; exact tv14 (by simp [go_sem,y0,mm0 g,mm1 g,mm2 g,mm3 g,mm4 g,mm5 g]) rfl
      ·exact ob_plain [0] rfl rfl fun _ g h=>by have y0:=seen_out rfl rfl h.1; exact tv14 (by simp [go_sem,y0]) rfl
      ·exact ob_plain [21] rfl rfl fun _ g h=>by obtain ⟨_,y0,rfl⟩:=seen_in rfl h.1; exact tv14 (by simp [go_sem,y0,i0,hl1]) rfl
      ·exact ob_plain [22] rfl rfl fun _ g h=>by obtain ⟨_,y0,rfl⟩:=seen_in rfl h.1; exact tv14 (by simp [go_sem,y0]) rfl
      ·exact ob_plain [23] rfl rfl fun _ g h=>by obtain ⟨_,y0,rfl⟩:=seen_in rfl h.1; exact tv14 (by simp [go_sem,y0,z2 g]) rfl
      ·exact ob_plain [24] rfl rfl fun _ g h=>by obtain ⟨_,y0,rfl⟩:=seen_in rfl h.1; exact tv14 (by simp [go_sem,y0]) rfl
      ·exact ob_plain [20,25] rfl rfl fun _ g h=>by obtain ⟨_,y0,rfl⟩:=seen_in rfl h.1; obtain ⟨_,y1,rfl⟩:=seen_in rfl h.2.1; exact tupon_enter (f:=67) (args:=#[.agg #[.int .i64 T,.int .i64 H,.slice fp n fc,.slice pp n pc,.slice up n uc,.slice ep n ec],.int .i64 (n:Int)]) (by simp [go_sem,y0,y1]) rfl ((KF.out g.w (S1.out.grow g.h) (S2.out.grow g.h) (S3.out.grow g.h) (S4.out.grow g.h)).mono fun e w' ⟨he,hB⟩=>⟨_,he,hB,rfl⟩)
      ·exact ob_plain [26] rfl rfl fun _ g h=>by obtain ⟨_,y0,rfl⟩:=seen_in rfl h.1; exact tv14 (by simp [go_sem,y0]) rfl
      ·exact ob_plain [27] rfl rfl fun _ g h=>by obtain ⟨_,y0,rfl⟩:=seen_in rfl h.1; exact tv14 (by simp [go_sem,y0]) rfl
      ·exact gT14 [3] false 28 rfl rfl rfl fun _ g h=>by have y0:=seen_out rfl rfl h.1; exact tv14 (by simp [go_sem,y0]) rfl
      ·exact gT14 [29] false 28 rfl rfl rfl fun _ g h=>by obtain ⟨_,y0,rfl⟩:=seen_in rfl h.1; exact tv14 (by simp [go_sem,y0,hj1]) rfl
      ·exact gT14 [30] false 28 rfl rfl rfl fun _ g h=>by obtain ⟨_,y0,rfl⟩:=seen_in rfl h.1; exact tv14 (by simp [go_sem,y0]) rfl
      ·exact gT14 [4] true 31 rfl rfl rfl fun _ g h=>by have y0:=seen_out rfl rfl h.1; exact tv14 (by simp [go_sem,y0]) rfl
      ·exact gT14 [32] true 31 rfl rfl rfl fun _ g h=>by obtain ⟨_,y0,rfl⟩:=seen_in rfl h.1; exact tv14 (by simp [go_sem,y0,mm0 g]) rfl
      ·exact gT14 [0] true 31 rfl rfl rfl fun _ g h=>by have y0:=seen_out rfl rfl h.1; exact tv14 (by simp [go_sem,y0]) rfl
      ·exact gT14 [3] true 31 rfl rfl rfl fun _ g h=>by have y0:=seen_out rfl rfl h.1; exact tv14 (by simp [go_sem,y0]) rfl
      ·exact gT14 [35] true 31 rfl rfl rfl fun _ g h=>by obtain ⟨_,y0,rfl⟩:=seen_in rfl h.1; exact tv14 (by simp [go_sem,y0,hj2]) rfl
      ·exact gT14 [34,36] true 31 rfl rfl rfl fun _ g h=>by obtain ⟨_,y0,rfl⟩:=seen_in rfl h.1; obtain ⟨_,y1,rfl⟩:=seen_in rfl h.2.1; exact tv14 (by simp [go_sem,y0,y1,hj3,hj4]) rfl
      ·exact gT14 [37] true 31 rfl rfl rfl fun _ g h=>by obtain ⟨_,y0,rfl⟩:=seen_in rfl h.1; exact tv14 (by simp [go_sem,y0,v0 g,v1 g,v2 g,v3 g,v4 g,v5 g]) rfl
      ·exact gT14 [38] true 31 rfl rfl rfl fun _ g h=>by obtain ⟨_,y0,rfl⟩:=seen_in rfl h.1; exact tupon_enter (f:=61) (args:=#[.agg #[.int .i64 Tq,.int .i64 Hq,.slice fq n gq,.slice pq n qq,.slice uq n rq,.slice eq_ n sq]]) (by simp [go_sem,y0]) rfl ((KE.out g.w).mono fun e w' ⟨he,hB⟩=>⟨_,he,hB,rfl⟩)
      ·exact gT14 [33,39] true 31 rfl rfl rfl fun _ g h=>by obtain ⟨_,y0,rfl⟩:=seen_in rfl h.1; obtain ⟨_,y1,rfl⟩:=seen_in rfl h.2.1; exact tv14 (by simp [go_sem,y0,y1,hcmp]) rfl
      ·exact gT14 [31,40] false 28 rfl rfl rfl fun _ g h=>by obtain ⟨_,y0,rfl⟩:=seen_in rfl h.1; obtain ⟨_,y1,rfl⟩:=seen_in rfl h.2.1; exact tv14 (by simp [go_sem,y0,y1]) rfl
      ·exact ob_plain [28,41] rfl rfl fun _ g h=>by obtain ⟨_,y0,rfl⟩:=seen_in rfl h.1; obtain ⟨_,y1,rfl⟩:=seen_in rfl h.2.1; exact tv14 (by simp [go_sem,y0,y1]) rfl
     rintro w7 hB _ rfl _ rfl _ rfl _ rfl _ rfl _ rfl _ rfl _ rfl _ rfl _ rfl _ rfl _ rfl _ rfl _ rfl _ rfl _ rfl _ rfl _ rfl _ rfl _ rfl _ rfl _ rfl _ rfl
     simp only [Act.put,List.setIfInBounds_toArray,List.set_cons_succ,List.set_cons_zero,List.filterMap_nil,finP]
     have hB7:=HB6.out.trans (hB.mono HB6.out.size)
     clear hB z2 mm0 mm1 mm2 mm3 mm4 mm5
     clear v0 v1 v2 v3 v4 v5 hcmp
     go_wp2_with (fail)
     go_ret
     exact ⟨(by rw [HRF.out]; first | done | rfl),hB7⟩
  ·obtain rfl:k = l.length:=by omega
   have hrt:r = true:=by rw [← HR.out]; exact decide_eq_true (by have:=HM.out; omega)
   have HRT:=Lib.hid hrt
   clear hrt
   go_wp2_with (fail)
   go_ret
   exact ⟨(by rw [HRT.out]; first | done | rfl),g0.h⟩
end Go.Proofs.YtdfdpghdjlgghaaGreat
