/-
 Cg
-/
import Derived.Test.YtdfdpghdjlgghaaGreatKdy
import Derived.Test.YtdfdpghdjlgghaaGreatKdzi
namespace Go.Proofs.YtdfdpghdjlgghaaGreat
open Go.ChangeShapes Go.WideShapes Go.ChangeAt Go.RowKit
set_option linter.unusedVariables false
set_option linter.unusedSimpArgs false
set_option maxRecDepth 100000
attribute [local irreducible] Calls
theorem pure_extract {P:Program} {o:Oper} {x:Operand} {k:Nat} (ho:o.op = .extract x k):PureOp P o:=by
 intro e w1 w2 n w' h
 unfold execOp at h ⊢
 simp only [ho] at h ⊢
 cases hx:e x <;> simp only [hx] at h ⊢ <;> try (simp [stuck,go_sem] at h; done)
 rename_i vs
 cases hv:vs[k]? with
 | none=>simp [hv,stuck,go_sem] at h
 | some v =>
  simp [hv,go_sem] at h ⊢
  obtain ⟨h1,h2⟩:=h
  exact ⟨⟨_,h1.symm⟩,h2.symm,h1⟩
theorem exec_store_row {P:Program} {o:Oper} {e:Operand→Value} {w:World} (ty:TypeId) (x y:Operand) (ho:o.op = .store ty x y) (g:Nat) (cells:Array Value) (hx:e x = .pointer (some ⟨g,0,none⟩)) (hy:e y = .agg cells)
  (t:TypeId) (old:Array Value) (hg:w.heap[g]? = some (.cells old t (0,0))) (hi:(P.info? ty).map (·.size) = some cells.size) (hold:old.size = cells.size) (h1:cells.all (·.oneCell') = true) :
  (execOp e o).run P w = .ok .skip (w.setRow g cells):=by
 unfold execOp
 simp only [ho,hx,hy,Instr.storeAt,Instr.sureAddr,Sem.run_bind,Sem.run_pure,Result.andThen_ok,run_storeVar_row w g t ty old cells hg hi hold h1]
def SgV (B0:Nat) (W:World) (T H:Int) (X:List (Int × Int)) (o:Option (List (Int × Int) × List (Int × Int) × List (Int × Int))) (v:Value):Prop :=
 match o with
 | none=>v = .agg #[.int .i64 0,.int .i64 0,.slice none 0 0,.slice none 0 0,.slice none 0 0,.slice none 0 0]
 | some (B,V,E)=>∃ p1_ c1_ p2_ c2_ p3_ c3_ p4_ c4_,v = .agg #[.int .i64 T,.int .i64 H,.slice p1_ X.length c1_,.slice p2_ B.length c2_,.slice p3_ V.length c3_,.slice p4_ E.length c4_]∧VxF B0 W (.slice p1_ X.length c1_) X∧VxF B0 W (.slice p2_ B.length c2_) B∧VxF B0 W (.slice p3_ V.length c3_) V∧VxF B0 W (.slice p4_ E.length c4_) E
theorem SgV.grow {B0:Nat} {W W':World} {T H:Int} {X:List (Int × Int)} {o:Option (List (Int × Int) × List (Int × Int) × List (Int × Int))} {v:Value} (h:SgV B0 W T H X o v) (hB:Below W.heap.size W W'):SgV B0 W' T H X o v:=by
 match o,h with
 | none,h=>exact h
 | some (B,V,E),⟨a,b,c,d,e,f,g,i,h1,h2,h3,h4,h5⟩=>exact ⟨a,b,c,d,e,f,g,i,h1,h2.grow hB,h3.grow hB,h4.grow hB,h5.grow hB⟩
theorem new0 {H:Int} (h0:0 ≤ H) (h1:H ≤ 1000000) (w:World):Calls Tryz.prog 83 #[.int .i64 0,.int .i64 H] w fun e w'=>e = .returned (.agg #[.int .i64 0,.int .i64 H])∧Below w.heap.size w w':=by
 have h:=iv_new 0 H w h0
 unfold mkLo mkHi at h
 have hn:Num 0∧Num H:=⟨⟨by omega,by omega⟩,by omega,by omega⟩
 rw [if_pos hn,if_pos hn] at h
 exact h
set_option maxHeartbeats 16000000 in
theorem IntervalStep_ok (N T H:Int) (vl vo vx:Value) (L:List Is) (O:List Int) (X:List (Int × Int)) (K:Nat) (w:World) (hl:Ix w vl L) (ho:Px w vo O) (hx:Vx w vx X) (htv:tvB N L O = true) (hN1:NmL L) (hXN:(X.length:Int) = N) (hvx:AV X) (ht1:-1048576 ≤ T) (ht2:T ≤ 1048576) (h0:0 ≤ H) (h1:H ≤ 1000000) (hK:K+1 ≤ 8) (r:Option (List (Int × Int) × List (Int × Int) × List (Int × Int))) (hr:stpI L O X T H K = r) :
  Calls Tryz.prog 52 #[.agg #[.int .i64 N,vl,vo],vx,.agg #[.int .i64 T,.int .i64 H],.int .i64 K] w fun e w'=>∃ s,e = .returned (.tuple #[s,.bool r.isSome])∧SgV w.heap.size w' T H X r s∧Below w.heap.size w w':=by
 obtain ⟨hn1,hn6,h400,hon,hvl,hout⟩:=tv_cases htv
 obtain ⟨pl,cl,rfl⟩:=hl.cut
 obtain ⟨po,co,rfl⟩:=ho.cut
 obtain ⟨px,cx,rfl⟩:=hx.cut
 obtain ⟨q,hq⟩:∃ q,encR (imgT L O T H X) X = q:=⟨_,rfl⟩
 have hqv:∀ B,q = some B→B.length = X.length∧AV B:=fun B e=>⟨(encl_facts htv hXN hvx ht1 ht2 h0 h1 (hq.trans e)).1,(encl_facts htv hXN hvx ht1 ht2 h0 h1 (hq.trans e)).2.1⟩
 have KE:=Lib.hid (fun w a b c=>encl_okF N T H (.slice pl L.length cl) (.slice po O.length co) (.slice px X.length cx) L O X w a b c htv hN1 hXN hvx ht1 ht2 h0 h1 q hq)
 have hst:stpQ L O X T H K q = r:=by
  rw [← hr]
  unfold stpI
  rw [hq]
 have hH:VI H H:=.inr ⟨⟨by omega,by omega⟩,⟨by omega,by omega⟩,Int.le_refl _⟩
 have hH0:VI 0 H:=num_vi h0 h1
 have htt:VI T T:=.inr ⟨⟨by omega,by omega⟩,⟨by omega,by omega⟩,Int.le_refl _⟩
 have K1:=Lib.hid (fun pb cb B p0 p1 b1 b2 b3 b4 b5 w a b c d (hBN:(B.length:Int) = N) hvb hp e f g h i=>encl1_ok N T H p0 p1 pl po px pb cl co cx cb L O X B K b1 b2 b3 b4 b5 w a b c d htv hN1 hXN hBN hvx hvb ht1 ht2 h0 h1 hK hp e f g h i)
 have KA:=Lib.hid (fun B p (hBN:(B.length:Int) = N) (hvb:AV B) (hp:VI p.1 p.2)=>(⟨encA_av htv hXN hBN hvx hvb htt (time_vi ht1 ht2 h0 h1) hp,encA_len (by omega)⟩:AV (encA L O X B T H p K)∧(encA L O X B T H p K).length = X.length))
 have KN:=Lib.hid (fun w=>new0 h0 h1 w)
 have KP:=Lib.hid (fun w=>ipt_num (T:=H) w (by omega) (by omega))
 have KCL:=Lib.hid (fun w hv=>clone_vx (.slice px X.length cx) X w hv (by omega) (by omega))
 have hE:Below w.heap.size w (((((w.alloc (.cells #[.int .i64 N,.slice pl L.length cl,.slice po O.length co] 35)).alloc (.cells #[.slice px X.length cx] 23)).alloc (.cells #[.int .i64 T,.int .i64 H] 116)).alloc (.cells #[.int .i64 K] 3)).alloc (.cells #[.int .i64 0,.int .i64 0,.slice none 0 0,.slice none 0 0,.slice none 0 0,.slice none 0 0] 39)):=allocs_below [.cells #[.int .i64 N,.slice pl L.length cl,.slice po O.length co] 35,.cells #[.slice px X.length cx] 23,.cells #[.int .i64 T,.int .i64 H] 116,.cells #[.int .i64 K] 3,.cells #[.int .i64 0,.int .i64 0,.slice none 0 0,.slice none 0 0,.slice none 0 0,.slice none 0 0] 39] w
 have HC:=Lib.hid (show Blk (((((w.alloc (.cells #[.int .i64 N,.slice pl L.length cl,.slice po O.length co] 35)).alloc (.cells #[.slice px X.length cx] 23)).alloc (.cells #[.int .i64 T,.int .i64 H] 116)).alloc (.cells #[.int .i64 K] 3)).alloc (.cells #[.int .i64 0,.int .i64 0,.slice none 0 0,.slice none 0 0,.slice none 0 0,.slice none 0 0] 39)) (w.heap.size) (.cells #[.int .i64 N,.slice pl L.length cl,.slice po O.length co] 35) from allocs_at [.cells #[.int .i64 N,.slice pl L.length cl,.slice po O.length co] 35,.cells #[.slice px X.length cx] 23,.cells #[.int .i64 T,.int .i64 H] 116,.cells #[.int .i64 K] 3,.cells #[.int .i64 0,.int .i64 0,.slice none 0 0,.slice none 0 0,.slice none 0 0,.slice none 0 0] 39] w 0 _ rfl)
 have HX1:=Lib.hid (show Blk (((((w.alloc (.cells #[.int .i64 N,.slice pl L.length cl,.slice po O.length co] 35)).alloc (.cells #[.slice px X.length cx] 23)).alloc (.cells #[.int .i64 T,.int .i64 H] 116)).alloc (.cells #[.int .i64 K] 3)).alloc (.cells #[.int .i64 0,.int .i64 0,.slice none 0 0,.slice none 0 0,.slice none 0 0,.slice none 0 0] 39)) (w.heap.size+1) (.cells #[.slice px X.length cx] 23) from allocs_at [.cells #[.int .i64 N,.slice pl L.length cl,.slice po O.length co] 35,.cells #[.slice px X.length cx] 23,.cells #[.int .i64 T,.int .i64 H] 116,.cells #[.int .i64 K] 3,.cells #[.int .i64 0,.int .i64 0,.slice none 0 0,.slice none 0 0,.slice none 0 0,.slice none 0 0] 39] w 1 _ rfl)
 have HT:=Lib.hid (show Blk (((((w.alloc (.cells #[.int .i64 N,.slice pl L.length cl,.slice po O.length co] 35)).alloc (.cells #[.slice px X.length cx] 23)).alloc (.cells #[.int .i64 T,.int .i64 H] 116)).alloc (.cells #[.int .i64 K] 3)).alloc (.cells #[.int .i64 0,.int .i64 0,.slice none 0 0,.slice none 0 0,.slice none 0 0,.slice none 0 0] 39)) (w.heap.size+1+1) (.cells #[.int .i64 T,.int .i64 H] 116) from allocs_at [.cells #[.int .i64 N,.slice pl L.length cl,.slice po O.length co] 35,.cells #[.slice px X.length cx] 23,.cells #[.int .i64 T,.int .i64 H] 116,.cells #[.int .i64 K] 3,.cells #[.int .i64 0,.int .i64 0,.slice none 0 0,.slice none 0 0,.slice none 0 0,.slice none 0 0] 39] w 2 _ rfl)
 have HK:=Lib.hid (show Blk (((((w.alloc (.cells #[.int .i64 N,.slice pl L.length cl,.slice po O.length co] 35)).alloc (.cells #[.slice px X.length cx] 23)).alloc (.cells #[.int .i64 T,.int .i64 H] 116)).alloc (.cells #[.int .i64 K] 3)).alloc (.cells #[.int .i64 0,.int .i64 0,.slice none 0 0,.slice none 0 0,.slice none 0 0,.slice none 0 0] 39)) (w.heap.size+1+1+1) (.cells #[.int .i64 K] 3) from allocs_at [.cells #[.int .i64 N,.slice pl L.length cl,.slice po O.length co] 35,.cells #[.slice px X.length cx] 23,.cells #[.int .i64 T,.int .i64 H] 116,.cells #[.int .i64 K] 3,.cells #[.int .i64 0,.int .i64 0,.slice none 0 0,.slice none 0 0,.slice none 0 0,.slice none 0 0] 39] w 3 _ rfl)
 have HZ:=Lib.hid (show Blk (((((w.alloc (.cells #[.int .i64 N,.slice pl L.length cl,.slice po O.length co] 35)).alloc (.cells #[.slice px X.length cx] 23)).alloc (.cells #[.int .i64 T,.int .i64 H] 116)).alloc (.cells #[.int .i64 K] 3)).alloc (.cells #[.int .i64 0,.int .i64 0,.slice none 0 0,.slice none 0 0,.slice none 0 0,.slice none 0 0] 39)) (w.heap.size+1+1+1+1) (.cells #[.int .i64 0,.int .i64 0,.slice none 0 0,.slice none 0 0,.slice none 0 0,.slice none 0 0] 39) from allocs_at [.cells #[.int .i64 N,.slice pl L.length cl,.slice po O.length co] 35,.cells #[.slice px X.length cx] 23,.cells #[.int .i64 T,.int .i64 H] 116,.cells #[.int .i64 K] 3,.cells #[.int .i64 0,.int .i64 0,.slice none 0 0,.slice none 0 0,.slice none 0 0,.slice none 0 0] 39] w 4 _ rfl)
 have HW:=Lib.hid hE
 have HSZ0:=Lib.hid (show (((((w.alloc (.cells #[.int .i64 N,.slice pl L.length cl,.slice po O.length co] 35)).alloc (.cells #[.slice px X.length cx] 23)).alloc (.cells #[.int .i64 T,.int .i64 H] 116)).alloc (.cells #[.int .i64 K] 3)).alloc (.cells #[.int .i64 0,.int .i64 0,.slice none 0 0,.slice none 0 0,.slice none 0 0,.slice none 0 0] 39)).heap.size = w.heap.size+5 from by simp)
 have HL:=Lib.hid (hl.grow hE)
 have HO:=Lib.hid (ho.grow hE)
 have HX:=Lib.hid (hx.grow hE)
 have HST:=Lib.hid hst
 have HQV:=Lib.hid hqv
 have HH:=Lib.hid hH
 have HH0:=Lib.hid hH0
 have HXN:=Lib.hid hXN
 have H16:=Lib.hid (show 1 ≤ X.length∧X.length ≤ 6 by omega)
 have KE1:=Lib.hid (KE.out _ HL.out HO.out HX.out)
 have x0:=heapN_cellj HC.out (k:=0) rfl
 have x1:=heapN_cellj HC.out (k:=1) rfl
 have x2:=heapN_cellj HC.out (k:=2) rfl
 have y0:=heapN_cellj HT.out (k:=0) rfl
 have y1:=heapN_cellj HT.out (k:=1) rfl
 have u0:=heapN_cellj HX1.out (k:=0) rfl
 clear hE hl ho hx htv hXN hvx ht1 ht2 h0 h1 hK hn1 hn6 h400 hon hvl hout hq hqv hst hr hH hH0 htt KE
 go_enter Tryz.func52,Tryz.ntmps52
 go_wp2_with (fail)
 refine KE1.out.mono ?_
 rintro e w5 ⟨v5,rfl,hv5,hB5⟩
 have HB5:=Lib.hid hB5
 clear x0 x1 x2 y0 y1 u0 KE1 hB5
 cases q with
 | none =>
  have hrn:none = r:=HST.out
  subst hrn
  have hv5':Vx w5 v5 []:=hv5.1
  obtain ⟨pb,cb,e5⟩:=hv5'.cut
  have e5:v5 = .slice pb 0 cb:=e5
  subst e5
  obtain ⟨W6,hW6⟩:∃ W6,w5.alloc (.cells #[.slice pb 0 cb] 23) = W6:=⟨_,rfl⟩
  have hb6:Below w5.heap.size w5 W6:=by rw [← hW6]; exact (Below.refl _ _).alloc (Nat.le_refl _) _
  have hz:=HZ.out.grow (HB5.out.trans (hb6.mono HB5.out.size))
  have HB6:=Lib.hid (below_then HW.out (HB5.out.trans (hb6.mono HB5.out.size)))
  clear hb6 HST hv5 hv5'
  have HW9:=Lib.hid (below_row (X:=w.heap.size+1+1+1+1) HB6.out (by omega) #[.int .i64 0,.int .i64 0,.slice none 0 0,.slice none 0 0,.slice none 0 0,.slice none 0 0])
  have hs9:=setRow_heap W6 (w.heap.size+1+1+1+1) _ #[.int .i64 0,.int .i64 0,.slice none 0 0,.slice none 0 0,.slice none 0 0,.slice none 0 0] _ _ hz
  have x0:=heapN_cellj hs9 (k:=0) rfl
  have x1:=heapN_cellj hs9 (k:=1) rfl
  have x2:=heapN_cellj hs9 (k:=2) rfl
  have x3:=heapN_cellj hs9 (k:=3) rfl
  have x4:=heapN_cellj hs9 (k:=4) rfl
  have x5:=heapN_cellj hs9 (k:=5) rfl
  clear hs9
  go_wp2_with (first | (refine wpList_buildTo rfl 39 #[] rfl _ rfl #[.int .i64 0,.int .i64 0,.slice none 0 0,.slice none 0 0,.slice none 0 0,.slice none 0 0] (by kernel_rfl) ?_) | (refine wpList_store_row rfl 39 (.tmp 8) (.tmp 22) rfl (w.heap.size+1+1+1+1) #[.int .i64 0,.int .i64 0,.slice none 0 0,.slice none 0 0,.slice none 0 0,.slice none 0 0] rfl rfl 39 _ (show W6.heap[w.heap.size+1+1+1+1]? = some (.cells _ 39 (0,0)) from hz) (by kernel_rfl) rfl (by first | rfl | decide | simp [Value.oneCell']) ?_))
  exact bodyPost_ret (v:=.tuple #[.agg #[.int .i64 0,.int .i64 0,.slice none 0 0,.slice none 0 0,.slice none 0 0,.slice none 0 0],.bool false]) (by simp [results,Tryz.results52,go_sem,x0,x1,x2,x3,x4,x5]) rfl ⟨_,rfl,rfl,HW9.out⟩
 | some B =>
  obtain ⟨hBl,hBv⟩:=HQV.out B rfl
  have hv5':VxF (w.heap.size+5) w5 v5 B:=hv5.mono (by simp [HSZ0.out])
  clear hv5
  obtain ⟨pb,cb,rfl⟩:=hv5'.cut
  have hBN:(B.length:Int) = N:=by rw [hBl]; exact HXN.out
  obtain ⟨hv1,hl1⟩:=KA.out B (0,H) hBN hBv HH0.out
  obtain ⟨hv2,hl2⟩:=KA.out B (H,H) hBN hBv HH.out
  have hst:(if bndB (encA L O X B T H (0,H) K) && bndB (encA L O X B T H (H,H) K) then some (B,encA L O X B T H (0,H) K,encA L O X B T H (H,H) K) else none) = r:=HST.out
  have K1:=Lib.hid (fun p0 p1 b1 b2 b3 b4 b5 w a b c d hp e f g h i=>K1.out pb cb B p0 p1 b1 b2 b3 b4 b5 w a b c d hBN hBv hp e f g h i)
  obtain ⟨V,hV⟩:∃ V,encA L O X B T H (0,H) K = V:=⟨_,rfl⟩
  obtain ⟨E,hEE⟩:∃ E,encA L O X B T H (H,H) K = E:=⟨_,rfl⟩
  have K2:=Lib.hid (K1.out 0 H)
  have K3:=Lib.hid (K1.out H H)
  rw [hV] at K2 hv1 hl1 hst
  rw [hEE] at K3 hv2 hl2 hst
  obtain ⟨b,hb⟩:∃ b,(bndB V && bndB E) = b:=⟨_,rfl⟩
  rw [hb] at hst
  have h16:=H16.out
  have KF:=Lib.hid (fun p1 p2 c1 c2 vt ve w a c=>finished_ok T H p1 p2 X.length B.length c1 c2 vt ve V E b w a c hv1 hv2 (by omega) (by omega) (by omega) hb)
  obtain ⟨W6,hW6⟩:∃ W6,w5.alloc (.cells #[.slice pb B.length cb] 23) = W6:=⟨_,rfl⟩
  have hb6:Below w5.heap.size w5 W6:=by rw [← hW6]; exact (Below.refl _ _).alloc (Nat.le_refl _) _
  have hx6:W6.heap[w5.heap.size]? = some (.cells #[.slice pb B.length cb] 23 (0,0)):=by rw [← hW6]; exact World.alloc_heap_new w5 _
  have hb0:=HB5.out.trans (hb6.mono HB5.out.size)
  have HC6:=Lib.hid (HC.out.grow hb0)
  have HX6:=Lib.hid (HX1.out.grow hb0)
  have HT6:=Lib.hid (HT.out.grow hb0)
  have HK6:=Lib.hid (HK.out.grow hb0)
  have HZ6:=Lib.hid (HZ.out.grow hb0)
  have HB6:=Lib.hid (show Blk W6 w5.heap.size (.cells #[.slice pb B.length cb] 23) from hx6)
  have HLL:=Lib.hid (HL.out.grow hb0)
  have HOO:=Lib.hid (HO.out.grow hb0)
  have HXX:=Lib.hid (HX.out.grow hb0)
  have HBB:=Lib.hid (show VxF (w.heap.size+5) W6 (.slice pb B.length cb) B from hv5'.grow hb6)
  have HS5:=Lib.hid (show w.heap.size+5 ≤ W6.heap.size from by rw [← HSZ0.out]; exact Nat.le_trans HB5.out.size hb6.size)
  have HW6:=Lib.hid (below_then HW.out hb0)
  have HST2:=Lib.hid hst
  have HLV:=Lib.hid (show V.length = X.length∧E.length = X.length from ⟨hl1,hl2⟩)
  have K2C:=Lib.hid (fun g:Grown W6=>K2.out w.heap.size (w.heap.size+1) w5.heap.size (w.heap.size+1+1) (w.heap.size+1+1+1) g.w (HLL.out.grow g.h) (HOO.out.grow g.h) (HXX.out.grow g.h) (HBB.out.1.grow g.h) HH0.out (HC6.out.grow g.h) (HX6.out.grow g.h) (HB6.out.grow g.h) (HT6.out.grow g.h) (HK6.out.grow g.h))
  have K3C:=Lib.hid (fun g:Grown W6=>K3.out w.heap.size (w.heap.size+1) w5.heap.size (w.heap.size+1+1) (w.heap.size+1+1+1) g.w (HLL.out.grow g.h) (HOO.out.grow g.h) (HXX.out.grow g.h) (HBB.out.1.grow g.h) HH.out (HC6.out.grow g.h) (HX6.out.grow g.h) (HB6.out.grow g.h) (HT6.out.grow g.h) (HK6.out.grow g.h))
  clear hBl hBv hBN hv1 hl1 hv2 hl2 hst hV hEE hb h16 hb6 hx6 hb0 K1 K2 K3 HST hv5' KA HQV HC HX1 HT HK HZ HL HO HX
  go_wp2_with (fail)
  clear hW6
  have y0:=fun g:Grown W6=>heapN_cellj (HT6.out.grow g.h) (k:=0) rfl
  have y1:=fun g:Grown W6=>heapN_cellj (HT6.out.grow g.h) (k:=1) rfl
  have u0:=fun g:Grown W6=>heapN_cellj (HX6.out.grow g.h) (k:=0) rfl
  have z0:=fun g:Grown W6=>heapN_cellj (HB6.out.grow g.h) (k:=0) rfl
  cases b with
  | false =>
   have hrn:none = r:=HST2.out
   subst hrn
   have KFT:=Lib.hid (fun p1 p2 c1 c2 p3 c3 p4 c4 w (a:Vx w (.slice p3 X.length c3) V) (c:Vx w (.slice p4 X.length c4) E)=>KF.out p1 p2 c1 c2 (.slice p3 X.length c3) (.slice p4 X.length c4) w a c)
   refine region_pred_m (lk [(24,fun z_ _=>z_ = .pointer (some ⟨w.heap.size+1+1,0,none⟩)),(25,fun z_ _=>z_ = .int .i64 T),(26,fun z_ _=>z_ = .pointer (some ⟨w.heap.size+1+1,1,none⟩)),(27,fun z_ _=>z_ = .int .i64 H),(28,fun z_ _=>z_ = .slice px X.length cx),(29,fun z_ w'=>∃ p_ c_,z_ = .slice p_ X.length c_∧VxF (w.heap.size+5) w' (.slice p_ X.length c_) X),(30,fun z_ _=>z_ = .slice pb B.length cb),(31,fun z_ _=>z_ = .func (.func 93) #[] #[.pointer (some ⟨w.heap.size,0,none⟩),.pointer (some ⟨w.heap.size+1,0,none⟩),.pointer (some ⟨w5.heap.size,0,none⟩),.pointer (some ⟨w.heap.size+1+1,0,none⟩),.pointer (some ⟨w.heap.size+1+1+1,0,none⟩)]),(32,fun z_ _=>z_ = .pointer (some ⟨w.heap.size+1+1,1,none⟩)),(33,fun z_ _=>z_ = .int .i64 H),(34,fun z_ _=>z_ = .agg #[.int .i64 0,.int .i64 H]),(35,fun z_ w'=>∃ p_ c_,z_ = .slice p_ X.length c_∧VxF (w.heap.size+5) w' (.slice p_ X.length c_) V),(36,fun z_ _=>z_ = .func (.func 93) #[] #[.pointer (some ⟨w.heap.size,0,none⟩),.pointer (some ⟨w.heap.size+1,0,none⟩),.pointer (some ⟨w5.heap.size,0,none⟩),.pointer (some ⟨w.heap.size+1+1,0,none⟩),.pointer (some ⟨w.heap.size+1+1+1,0,none⟩)]),(37,fun z_ _=>z_ = .pointer (some ⟨w.heap.size+1+1,1,none⟩)),(38,fun z_ _=>z_ = .int .i64 H),(39,fun z_ _=>z_ = .agg #[.int .i64 H,.int .i64 H]),(40,fun z_ w'=>∃ p_ c_,z_ = .slice p_ X.length c_∧VxF (w.heap.size+5) w' (.slice p_ X.length c_) E),(41,fun z_ w'=>∃ p1_ c1_ p3_ c3_ p4_ c4_,z_ = .agg #[.int .i64 T,.int .i64 H,.slice p1_ X.length c1_,.slice pb B.length cb,.slice p3_ X.length c3_,.slice p4_ X.length c4_]∧VxF (w.heap.size+5) w' (.slice p1_ X.length c1_) X∧VxF (w.heap.size+5) w' (.slice p3_ X.length c3_) V∧VxF (w.heap.size+5) w' (.slice p4_ X.length c4_) E),(42,fun z_ _=>z_ = .tuple #[.agg #[.int .i64 0,.int .i64 0,.slice none 0 0,.slice none 0 0,.slice none 0 0,.slice none 0 0],.bool false]),(43,fun z_ _=>z_ = .agg #[.int .i64 0,.int .i64 0,.slice none 0 0,.slice none 0 0,.slice none 0 0,.slice none 0 0]),(44,fun z_ _=>z_ = .bool false),(9,fun z_ _=>z_ = .bool false)]) 21 _ [20,22] rfl rfl (by kernel_rfl) (by kernel_rfl) ?_ ?_ ?_ (lk_steady _ ⟨steady_eq _,steady_eq _,steady_eq _,steady_eq _,steady_eq _,fun u w1 w2 hb ⟨p,c,e,h⟩=>⟨p,c,e,h.grow hb⟩,steady_eq _,steady_eq _,steady_eq _,steady_eq _,steady_eq _,fun u w1 w2 hb ⟨p,c,e,h⟩=>⟨p,c,e,h.grow hb⟩,steady_eq _,steady_eq _,steady_eq _,steady_eq _,fun u w1 w2 hb ⟨p,c,e,h⟩=>⟨p,c,e,h.grow hb⟩,fun u w1 w2 hb ⟨a,b,c,d,e,f,h1,h2,h3,h4⟩=>⟨a,b,c,d,e,f,h1,h2.grow hb,h3.grow hb,h4.grow hb⟩,steady_eq _,steady_eq _,steady_eq _,steady_eq _,trivial⟩) ?_ ?_
   ·intro i hi o ho
    simp only [List.mem_cons,List.not_mem_nil,or_false] at hi
    rcases hi with rfl | rfl
    ·cases ho
     first | exact pure_extract rfl | (intro e w1 w2 n w' h; simp [execOp,go_sem] at h ⊢; first | exact h | (obtain ⟨h1,h2⟩:=h; exact ⟨⟨_,h1.symm⟩,h2.symm,h1⟩))
    ·cases ho
     first | exact pure_extract rfl | (intro e w1 w2 n w' h; simp [execOp,go_sem] at h ⊢; first | exact h | (obtain ⟨h1,h2⟩:=h; exact ⟨⟨_,h1.symm⟩,h2.symm,h1⟩))
   ·intro i hi o ho
    simp only [List.mem_cons,List.not_mem_nil,or_false] at hi
    rcases hi with rfl | rfl
    ·cases ho
     intro a v
     simp [execOp,Act.put,Act.eval,go_sem]
    ·cases ho
     intro a v
     simp [execOp,Act.put,Act.eval,go_sem]
   ·intro a g h
    have yy0:=seen_out (v:=.pointer (some ⟨w.heap.size+1+1+1+1,0,none⟩)) rfl rfl h.1
    obtain ⟨_,yy1,rfl⟩:=seen_in rfl h.2.1
    have ee0:=getD_of yy0
    have ee1:=getD_of yy1
    exact ⟨_,exec_store_row 39 (.tmp 8) (.tmp 43) rfl (w.heap.size+1+1+1+1) #[.int .i64 0,.int .i64 0,.slice none 0 0,.slice none 0 0,.slice none 0 0,.slice none 0 0] ee0 ee1 39 _ (show g.w.heap[w.heap.size+1+1+1+1]? = some (.cells _ 39 (0,0)) from HZ6.out.grow g.h) (by kernel_rfl) rfl (by first | rfl | decide | simp [Value.oneCell'])⟩
   ·refine ⟨?_,?_,?_,?_,?_,?_,?_,?_,?_,?_,?_,?_,?_,?_,?_,?_,?_,?_,?_,?_,?_,?_,?_,trivial⟩
    ·refine fun _=>ob_plain [6] rfl rfl fun _ g h=>?_
     have yy0:=seen_out (v:=.pointer (some ⟨w.heap.size+1+1,0,none⟩)) rfl rfl h.1
     exact tvS (by simp [go_sem,yy0]) rfl
    ·refine fun _=>ob_plain [24] rfl rfl fun _ g h=>?_
     obtain ⟨_,yy0,rfl⟩:=seen_in rfl h.1
     exact tvS (by simp [go_sem,yy0,y0 g]) rfl
    ·refine fun _=>ob_plain [6] rfl rfl fun _ g h=>?_
     have yy0:=seen_out (v:=.pointer (some ⟨w.heap.size+1+1,0,none⟩)) rfl rfl h.1
     exact tvS (by simp [go_sem,yy0]) rfl
    ·refine fun _=>ob_plain [26] rfl rfl fun _ g h=>?_
     obtain ⟨_,yy0,rfl⟩:=seen_in rfl h.1
     exact tvS (by simp [go_sem,yy0,y1 g]) rfl
    ·refine fun _=>ob_plain [5] rfl rfl fun _ g h=>?_
     have yy0:=seen_out (v:=.pointer (some ⟨w.heap.size+1,0,none⟩)) rfl rfl h.1
     exact tvS (by simp [go_sem,yy0,u0 g]) rfl
    ·refine fun _=>ob_plain [28] rfl rfl fun _ g h=>?_
     obtain ⟨_,yy0,rfl⟩:=seen_in rfl h.1
     refine tupon_enter (f:=66) (args:=#[.slice px X.length cx]) (by simp [go_sem,yy0]) rfl ?_
     exact (KCL.out g.w (HXX.out.grow g.h)).mono fun e w' ⟨pq,cq,he,hv,hB⟩=>⟨_,he,hB,⟨pq,cq,rfl,hv.mono (Nat.le_trans HS5.out g.h.size)⟩⟩
    ·refine fun _=>ob_plain [10] rfl rfl fun _ g h=>?_
     have yy0:=seen_out (v:=.pointer (some ⟨w5.heap.size,0,none⟩)) rfl rfl h.1
     exact tvS (by simp [go_sem,yy0,z0 g]) rfl
    ·refine fun _=>ob_plain [12] rfl rfl fun _ g h=>?_
     have yy0:=seen_out (v:=.func (.func 93) #[] #[.pointer (some ⟨w.heap.size,0,none⟩),.pointer (some ⟨w.heap.size+1,0,none⟩),.pointer (some ⟨w5.heap.size,0,none⟩),.pointer (some ⟨w.heap.size+1+1,0,none⟩),.pointer (some ⟨w.heap.size+1+1+1,0,none⟩)]) rfl rfl h.1
     exact tvS (by simp [go_sem,yy0]) rfl
    ·refine fun _=>ob_plain [6] rfl rfl fun _ g h=>?_
     have yy0:=seen_out (v:=.pointer (some ⟨w.heap.size+1+1,0,none⟩)) rfl rfl h.1
     exact tvS (by simp [go_sem,yy0]) rfl
    ·refine fun _=>ob_plain [32] rfl rfl fun _ g h=>?_
     obtain ⟨_,yy0,rfl⟩:=seen_in rfl h.1
     exact tvS (by simp [go_sem,yy0,y1 g]) rfl
    ·refine fun _=>ob_plain [33] rfl rfl fun _ g h=>?_
     obtain ⟨_,yy0,rfl⟩:=seen_in rfl h.1
     refine tupon_enter (f:=83) (args:=#[.int .i64 0,.int .i64 H]) (by simp [go_sem,yy0]) rfl ?_
     exact (KN.out g.w).mono fun e w' ⟨he,hB⟩=>⟨_,he,hB,rfl⟩
    ·refine fun _=>ob_plain [31,34] rfl rfl fun _ g h=>?_
     obtain ⟨_,yy0,rfl⟩:=seen_in rfl h.1
     obtain ⟨_,yy1,rfl⟩:=seen_in rfl h.2.1
     refine tupon_enter (f:=93) (args:=#[.agg #[.int .i64 0,.int .i64 H],.pointer (some ⟨w.heap.size,0,none⟩),.pointer (some ⟨w.heap.size+1,0,none⟩),.pointer (some ⟨w5.heap.size,0,none⟩),.pointer (some ⟨w.heap.size+1+1,0,none⟩),.pointer (some ⟨w.heap.size+1+1+1,0,none⟩)]) (by simp [go_sem,yy0,yy1]) rfl ?_
     exact (K2C.out g).mono fun e w' ⟨pq,cq,he,hv,hB⟩=>⟨_,he,hB,⟨pq,cq,rfl,hv.mono (Nat.le_trans HS5.out g.h.size)⟩⟩
    ·refine fun _=>ob_plain [12] rfl rfl fun _ g h=>?_
     have yy0:=seen_out (v:=.func (.func 93) #[] #[.pointer (some ⟨w.heap.size,0,none⟩),.pointer (some ⟨w.heap.size+1,0,none⟩),.pointer (some ⟨w5.heap.size,0,none⟩),.pointer (some ⟨w.heap.size+1+1,0,none⟩),.pointer (some ⟨w.heap.size+1+1+1,0,none⟩)]) rfl rfl h.1
     exact tvS (by simp [go_sem,yy0]) rfl
    ·refine fun _=>ob_plain [6] rfl rfl fun _ g h=>?_
     have yy0:=seen_out (v:=.pointer (some ⟨w.heap.size+1+1,0,none⟩)) rfl rfl h.1
     exact tvS (by simp [go_sem,yy0]) rfl
    ·refine fun _=>ob_plain [37] rfl rfl fun _ g h=>?_
     obtain ⟨_,yy0,rfl⟩:=seen_in rfl h.1
     exact tvS (by simp [go_sem,yy0,y1 g]) rfl
    ·refine fun _=>ob_plain [38] rfl rfl fun _ g h=>?_
     obtain ⟨_,yy0,rfl⟩:=seen_in rfl h.1
     refine tupon_enter (f:=96) (args:=#[.int .i64 H]) (by simp [go_sem,yy0]) rfl ?_
     exact (KP.out g.w).mono fun e w' ⟨he,hB⟩=>⟨_,he,hB,rfl⟩
    ·refine fun _=>ob_plain [36,39] rfl rfl fun _ g h=>?_
     obtain ⟨_,yy0,rfl⟩:=seen_in rfl h.1
     obtain ⟨_,yy1,rfl⟩:=seen_in rfl h.2.1
     refine tupon_enter (f:=93) (args:=#[.agg #[.int .i64 H,.int .i64 H],.pointer (some ⟨w.heap.size,0,none⟩),.pointer (some ⟨w.heap.size+1,0,none⟩),.pointer (some ⟨w5.heap.size,0,none⟩),.pointer (some ⟨w.heap.size+1+1,0,none⟩),.pointer (some ⟨w.heap.size+1+1+1,0,none⟩)]) (by simp [go_sem,yy0,yy1]) rfl ?_
     exact (K3C.out g).mono fun e w' ⟨pq,cq,he,hv,hB⟩=>⟨_,he,hB,⟨pq,cq,rfl,hv.mono (Nat.le_trans HS5.out g.h.size)⟩⟩
    ·refine fun _=>ob_plain [25,27,29,30,35,40] rfl rfl fun _ g h=>?_
     obtain ⟨_,yy0,rfl⟩:=seen_in rfl h.1
     obtain ⟨_,yy1,rfl⟩:=seen_in rfl h.2.1
     obtain ⟨_,yy2,⟨p29,c29,rfl,h29⟩⟩:=seen_in rfl h.2.2.1
     obtain ⟨_,yy3,rfl⟩:=seen_in rfl h.2.2.2.1
     obtain ⟨_,yy4,⟨p35,c35,rfl,h35⟩⟩:=seen_in rfl h.2.2.2.2.1
     obtain ⟨_,yy5,⟨p40,c40,rfl,h40⟩⟩:=seen_in rfl h.2.2.2.2.2.1
     exact tupon_value (v:=.agg #[.int .i64 T,.int .i64 H,.slice p29 X.length c29,.slice pb B.length cb,.slice p35 X.length c35,.slice p40 X.length c40]) (by simp [go_sem,yy0,yy1,yy2,yy3,yy4,yy5]) (Below.refl _ _) ⟨_,_,_,_,_,_,rfl,h29,h35,h40⟩
    ·refine fun _=>ob_plain [41] rfl rfl fun _ g h=>?_
     obtain ⟨_,yy0,⟨p1,c1,p3,c3,p4,c4,rfl,k1,k3,k4⟩⟩:=seen_in rfl h.1
     refine tupon_enter (f:=95) (args:=#[.agg #[.int .i64 T,.int .i64 H,.slice p1 X.length c1,.slice pb B.length cb,.slice p3 X.length c3,.slice p4 X.length c4]]) (by simp [go_sem,yy0]) rfl ?_
     exact (KFT.out p1 pb c1 cb p3 c3 p4 c4 g.w k3.1 k4.1).mono fun e w' ⟨he,hB⟩=>⟨_,he,hB,rfl⟩
    ·refine fun _=>ob_plain [42] rfl rfl fun _ g h=>?_
     obtain ⟨_,yy0,rfl⟩:=seen_in rfl h.1
     exact tvS (by simp [go_sem,yy0]) rfl
    ·refine fun _=>ob_plain [42] rfl rfl fun _ g h=>?_
     obtain ⟨_,yy0,rfl⟩:=seen_in rfl h.1
     exact tvS (by simp [go_sem,yy0]) rfl
    ·exact fun h=>absurd rfl h
    ·refine fun _=>ob_plain [44] rfl rfl fun _ g h=>?_
     obtain ⟨_,yy0,rfl⟩:=seen_in rfl h.1
     exact tvS (by simp [go_sem,yy0]) rfl
   rintro w7 hB _ rfl _ rfl _ rfl _ rfl _ rfl _ ⟨p29,c29,rfl,h29⟩ _ rfl _ rfl _ rfl _ rfl _ rfl _ ⟨p35,c35,rfl,h35⟩ _ rfl _ rfl _ rfl _ rfl _ ⟨p40,c40,rfl,h40⟩ _ ⟨p1,c1,p3,c3,p4,c4,rfl,k1,k3,k4⟩ _ rfl _ rfl _ rfl _ rfl
   simp only [Act.put,List.setIfInBounds_toArray,List.set_cons_succ,List.set_cons_zero,List.filterMap_nil,finP]
   refine ⟨_,exec_store_row 39 (.tmp 8) (.tmp 43) rfl (w.heap.size+1+1+1+1) #[.int .i64 0,.int .i64 0,.slice none 0 0,.slice none 0 0,.slice none 0 0,.slice none 0 0] rfl rfl 39 _ (show w7.heap[w.heap.size+1+1+1+1]? = some (.cells _ 39 (0,0)) from HZ6.out.grow hB) (by kernel_rfl) rfl (by first | rfl | decide | simp [Value.oneCell']),?_⟩
   have HW9:=Lib.hid (below_row (X:=w.heap.size+1+1+1+1) (below_then HW6.out hB) (by omega) #[.int .i64 0,.int .i64 0,.slice none 0 0,.slice none 0 0,.slice none 0 0,.slice none 0 0])
   have hs9:=setRow_heap w7 (w.heap.size+1+1+1+1) _ #[.int .i64 0,.int .i64 0,.slice none 0 0,.slice none 0 0,.slice none 0 0,.slice none 0 0] _ _ (show w7.heap[w.heap.size+1+1+1+1]? = some (.cells _ 39 (0,0)) from HZ6.out.grow hB)
   have x0:=heapN_cellj hs9 (k:=0) rfl
   have x1:=heapN_cellj hs9 (k:=1) rfl
   have x2:=heapN_cellj hs9 (k:=2) rfl
   have x3:=heapN_cellj hs9 (k:=3) rfl
   have x4:=heapN_cellj hs9 (k:=4) rfl
   have x5:=heapN_cellj hs9 (k:=5) rfl
   clear hB hs9 y0 y1 u0 z0
   go_wp2_with (fail)
   exact bodyPost_ret (v:=.tuple #[.agg #[.int .i64 0,.int .i64 0,.slice none 0 0,.slice none 0 0,.slice none 0 0,.slice none 0 0],.bool false]) (by simp [results,Tryz.results52,go_sem,x0,x1,x2,x3,x4,x5]) rfl ⟨_,rfl,rfl,HW9.out⟩
  | true =>
   have hrn:some (B,V,E) = r:=HST2.out
   subst hrn
   have KFT:=Lib.hid (fun p1 p2 c1 c2 p3 c3 p4 c4 w (a:Vx w (.slice p3 X.length c3) V) (c:Vx w (.slice p4 X.length c4) E)=>KF.out p1 p2 c1 c2 (.slice p3 X.length c3) (.slice p4 X.length c4) w a c)
   refine region_pred_m (lk [(24,fun z_ _=>z_ = .pointer (some ⟨w.heap.size+1+1,0,none⟩)),(25,fun z_ _=>z_ = .int .i64 T),(26,fun z_ _=>z_ = .pointer (some ⟨w.heap.size+1+1,1,none⟩)),(27,fun z_ _=>z_ = .int .i64 H),(28,fun z_ _=>z_ = .slice px X.length cx),(29,fun z_ w'=>∃ p_ c_,z_ = .slice p_ X.length c_∧VxF (w.heap.size+5) w' (.slice p_ X.length c_) X),(30,fun z_ _=>z_ = .slice pb B.length cb),(31,fun z_ _=>z_ = .func (.func 93) #[] #[.pointer (some ⟨w.heap.size,0,none⟩),.pointer (some ⟨w.heap.size+1,0,none⟩),.pointer (some ⟨w5.heap.size,0,none⟩),.pointer (some ⟨w.heap.size+1+1,0,none⟩),.pointer (some ⟨w.heap.size+1+1+1,0,none⟩)]),(32,fun z_ _=>z_ = .pointer (some ⟨w.heap.size+1+1,1,none⟩)),(33,fun z_ _=>z_ = .int .i64 H),(34,fun z_ _=>z_ = .agg #[.int .i64 0,.int .i64 H]),(35,fun z_ w'=>∃ p_ c_,z_ = .slice p_ X.length c_∧VxF (w.heap.size+5) w' (.slice p_ X.length c_) V),(36,fun z_ _=>z_ = .func (.func 93) #[] #[.pointer (some ⟨w.heap.size,0,none⟩),.pointer (some ⟨w.heap.size+1,0,none⟩),.pointer (some ⟨w5.heap.size,0,none⟩),.pointer (some ⟨w.heap.size+1+1,0,none⟩),.pointer (some ⟨w.heap.size+1+1+1,0,none⟩)]),(37,fun z_ _=>z_ = .pointer (some ⟨w.heap.size+1+1,1,none⟩)),(38,fun z_ _=>z_ = .int .i64 H),(39,fun z_ _=>z_ = .agg #[.int .i64 H,.int .i64 H]),(40,fun z_ w'=>∃ p_ c_,z_ = .slice p_ X.length c_∧VxF (w.heap.size+5) w' (.slice p_ X.length c_) E),(41,fun z_ w'=>∃ p1_ c1_ p3_ c3_ p4_ c4_,z_ = .agg #[.int .i64 T,.int .i64 H,.slice p1_ X.length c1_,.slice pb B.length cb,.slice p3_ X.length c3_,.slice p4_ X.length c4_]∧VxF (w.heap.size+5) w' (.slice p1_ X.length c1_) X∧VxF (w.heap.size+5) w' (.slice p3_ X.length c3_) V∧VxF (w.heap.size+5) w' (.slice p4_ X.length c4_) E),(42,fun z_ w'=>∃ p1_ c1_ p3_ c3_ p4_ c4_,z_ = .tuple #[.agg #[.int .i64 T,.int .i64 H,.slice p1_ X.length c1_,.slice pb B.length cb,.slice p3_ X.length c3_,.slice p4_ X.length c4_],.bool true]∧VxF (w.heap.size+5) w' (.slice p1_ X.length c1_) X∧VxF (w.heap.size+5) w' (.slice p3_ X.length c3_) V∧VxF (w.heap.size+5) w' (.slice p4_ X.length c4_) E),(43,fun z_ w'=>∃ p1_ c1_ p3_ c3_ p4_ c4_,z_ = .agg #[.int .i64 T,.int .i64 H,.slice p1_ X.length c1_,.slice pb B.length cb,.slice p3_ X.length c3_,.slice p4_ X.length c4_]∧VxF (w.heap.size+5) w' (.slice p1_ X.length c1_) X∧VxF (w.heap.size+5) w' (.slice p3_ X.length c3_) V∧VxF (w.heap.size+5) w' (.slice p4_ X.length c4_) E),(44,fun z_ _=>z_ = .bool true),(9,fun z_ _=>z_ = .bool true)]) 21 _ [20,22] rfl rfl (by kernel_rfl) (by kernel_rfl) ?_ ?_ ?_ (lk_steady _ ⟨steady_eq _,steady_eq _,steady_eq _,steady_eq _,steady_eq _,fun u w1 w2 hb ⟨p,c,e,h⟩=>⟨p,c,e,h.grow hb⟩,steady_eq _,steady_eq _,steady_eq _,steady_eq _,steady_eq _,fun u w1 w2 hb ⟨p,c,e,h⟩=>⟨p,c,e,h.grow hb⟩,steady_eq _,steady_eq _,steady_eq _,steady_eq _,fun u w1 w2 hb ⟨p,c,e,h⟩=>⟨p,c,e,h.grow hb⟩,fun u w1 w2 hb ⟨a,b,c,d,e,f,h1,h2,h3,h4⟩=>⟨a,b,c,d,e,f,h1,h2.grow hb,h3.grow hb,h4.grow hb⟩,fun u w1 w2 hb ⟨a,b,c,d,e,f,h1,h2,h3,h4⟩=>⟨a,b,c,d,e,f,h1,h2.grow hb,h3.grow hb,h4.grow hb⟩,fun u w1 w2 hb ⟨a,b,c,d,e,f,h1,h2,h3,h4⟩=>⟨a,b,c,d,e,f,h1,h2.grow hb,h3.grow hb,h4.grow hb⟩,steady_eq _,steady_eq _,trivial⟩) ?_ ?_
   ·intro i hi o ho
    simp only [List.mem_cons,List.not_mem_nil,or_false] at hi
    rcases hi with rfl | rfl
    ·cases ho
     first | exact pure_extract rfl | (intro e w1 w2 n w' h; simp [execOp,go_sem] at h ⊢; first | exact h | (obtain ⟨h1,h2⟩:=h; exact ⟨⟨_,h1.symm⟩,h2.symm,h1⟩))
    ·cases ho
     first | exact pure_extract rfl | (intro e w1 w2 n w' h; simp [execOp,go_sem] at h ⊢; first | exact h | (obtain ⟨h1,h2⟩:=h; exact ⟨⟨_,h1.symm⟩,h2.symm,h1⟩))
   ·intro i hi o ho
    simp only [List.mem_cons,List.not_mem_nil,or_false] at hi
    rcases hi with rfl | rfl
    ·cases ho
     intro a v
     simp [execOp,Act.put,Act.eval,go_sem]
    ·cases ho
     intro a v
     simp [execOp,Act.put,Act.eval,go_sem]
   ·intro a g h
    have yy0:=seen_out (v:=.pointer (some ⟨w.heap.size+1+1+1+1,0,none⟩)) rfl rfl h.1
    obtain ⟨_,yy1,⟨p1,c1,p3,c3,p4,c4,rfl,k1,k3,k4⟩⟩:=seen_in rfl h.2.1
    have ee0:=getD_of yy0
    have ee1:=getD_of yy1
    exact ⟨_,exec_store_row 39 (.tmp 8) (.tmp 43) rfl (w.heap.size+1+1+1+1) #[.int .i64 T,.int .i64 H,.slice p1 X.length c1,.slice pb B.length cb,.slice p3 X.length c3,.slice p4 X.length c4] ee0 ee1 39 _ (show g.w.heap[w.heap.size+1+1+1+1]? = some (.cells _ 39 (0,0)) from HZ6.out.grow g.h) (by kernel_rfl) rfl (by first | rfl | decide | simp [Value.oneCell'])⟩
   ·refine ⟨?_,?_,?_,?_,?_,?_,?_,?_,?_,?_,?_,?_,?_,?_,?_,?_,?_,?_,?_,?_,?_,?_,?_,trivial⟩
    ·refine fun _=>ob_plain [6] rfl rfl fun _ g h=>?_
     have yy0:=seen_out (v:=.pointer (some ⟨w.heap.size+1+1,0,none⟩)) rfl rfl h.1
     exact tvS (by simp [go_sem,yy0]) rfl
    ·refine fun _=>ob_plain [24] rfl rfl fun _ g h=>?_
     obtain ⟨_,yy0,rfl⟩:=seen_in rfl h.1
     exact tvS (by simp [go_sem,yy0,y0 g]) rfl
    ·refine fun _=>ob_plain [6] rfl rfl fun _ g h=>?_
     have yy0:=seen_out (v:=.pointer (some ⟨w.heap.size+1+1,0,none⟩)) rfl rfl h.1
     exact tvS (by simp [go_sem,yy0]) rfl
    ·refine fun _=>ob_plain [26] rfl rfl fun _ g h=>?_
     obtain ⟨_,yy0,rfl⟩:=seen_in rfl h.1
     exact tvS (by simp [go_sem,yy0,y1 g]) rfl
    ·refine fun _=>ob_plain [5] rfl rfl fun _ g h=>?_
     have yy0:=seen_out (v:=.pointer (some ⟨w.heap.size+1,0,none⟩)) rfl rfl h.1
     exact tvS (by simp [go_sem,yy0,u0 g]) rfl
    ·refine fun _=>ob_plain [28] rfl rfl fun _ g h=>?_
     obtain ⟨_,yy0,rfl⟩:=seen_in rfl h.1
     refine tupon_enter (f:=66) (args:=#[.slice px X.length cx]) (by simp [go_sem,yy0]) rfl ?_
     exact (KCL.out g.w (HXX.out.grow g.h)).mono fun e w' ⟨pq,cq,he,hv,hB⟩=>⟨_,he,hB,⟨pq,cq,rfl,hv.mono (Nat.le_trans HS5.out g.h.size)⟩⟩
    ·refine fun _=>ob_plain [10] rfl rfl fun _ g h=>?_
     have yy0:=seen_out (v:=.pointer (some ⟨w5.heap.size,0,none⟩)) rfl rfl h.1
     exact tvS (by simp [go_sem,yy0,z0 g]) rfl
    ·refine fun _=>ob_plain [12] rfl rfl fun _ g h=>?_
     have yy0:=seen_out (v:=.func (.func 93) #[] #[.pointer (some ⟨w.heap.size,0,none⟩),.pointer (some ⟨w.heap.size+1,0,none⟩),.pointer (some ⟨w5.heap.size,0,none⟩),.pointer (some ⟨w.heap.size+1+1,0,none⟩),.pointer (some ⟨w.heap.size+1+1+1,0,none⟩)]) rfl rfl h.1
     exact tvS (by simp [go_sem,yy0]) rfl
    ·refine fun _=>ob_plain [6] rfl rfl fun _ g h=>?_
     have yy0:=seen_out (v:=.pointer (some ⟨w.heap.size+1+1,0,none⟩)) rfl rfl h.1
     exact tvS (by simp [go_sem,yy0]) rfl
    ·refine fun _=>ob_plain [32] rfl rfl fun _ g h=>?_
     obtain ⟨_,yy0,rfl⟩:=seen_in rfl h.1
     exact tvS (by simp [go_sem,yy0,y1 g]) rfl
    ·refine fun _=>ob_plain [33] rfl rfl fun _ g h=>?_
     obtain ⟨_,yy0,rfl⟩:=seen_in rfl h.1
     refine tupon_enter (f:=83) (args:=#[.int .i64 0,.int .i64 H]) (by simp [go_sem,yy0]) rfl ?_
     exact (KN.out g.w).mono fun e w' ⟨he,hB⟩=>⟨_,he,hB,rfl⟩
    ·refine fun _=>ob_plain [31,34] rfl rfl fun _ g h=>?_
     obtain ⟨_,yy0,rfl⟩:=seen_in rfl h.1
     obtain ⟨_,yy1,rfl⟩:=seen_in rfl h.2.1
     refine tupon_enter (f:=93) (args:=#[.agg #[.int .i64 0,.int .i64 H],.pointer (some ⟨w.heap.size,0,none⟩),.pointer (some ⟨w.heap.size+1,0,none⟩),.pointer (some ⟨w5.heap.size,0,none⟩),.pointer (some ⟨w.heap.size+1+1,0,none⟩),.pointer (some ⟨w.heap.size+1+1+1,0,none⟩)]) (by simp [go_sem,yy0,yy1]) rfl ?_
     exact (K2C.out g).mono fun e w' ⟨pq,cq,he,hv,hB⟩=>⟨_,he,hB,⟨pq,cq,rfl,hv.mono (Nat.le_trans HS5.out g.h.size)⟩⟩
    ·refine fun _=>ob_plain [12] rfl rfl fun _ g h=>?_
     have yy0:=seen_out (v:=.func (.func 93) #[] #[.pointer (some ⟨w.heap.size,0,none⟩),.pointer (some ⟨w.heap.size+1,0,none⟩),.pointer (some ⟨w5.heap.size,0,none⟩),.pointer (some ⟨w.heap.size+1+1,0,none⟩),.pointer (some ⟨w.heap.size+1+1+1,0,none⟩)]) rfl rfl h.1
     exact tvS (by simp [go_sem,yy0]) rfl
    ·refine fun _=>ob_plain [6] rfl rfl fun _ g h=>?_
     have yy0:=seen_out (v:=.pointer (some ⟨w.heap.size+1+1,0,none⟩)) rfl rfl h.1
     exact tvS (by simp [go_sem,yy0]) rfl
    ·refine fun _=>ob_plain [37] rfl rfl fun _ g h=>?_
     obtain ⟨_,yy0,rfl⟩:=seen_in rfl h.1
     exact tvS (by simp [go_sem,yy0,y1 g]) rfl
    ·refine fun _=>ob_plain [38] rfl rfl fun _ g h=>?_
     obtain ⟨_,yy0,rfl⟩:=seen_in rfl h.1
     refine tupon_enter (f:=96) (args:=#[.int .i64 H]) (by simp [go_sem,yy0]) rfl ?_
     exact (KP.out g.w).mono fun e w' ⟨he,hB⟩=>⟨_,he,hB,rfl⟩
    ·refine fun _=>ob_plain [36,39] rfl rfl fun _ g h=>?_
     obtain ⟨_,yy0,rfl⟩:=seen_in rfl h.1
     obtain ⟨_,yy1,rfl⟩:=seen_in rfl h.2.1
     refine tupon_enter (f:=93) (args:=#[.agg #[.int .i64 H,.int .i64 H],.pointer (some ⟨w.heap.size,0,none⟩),.pointer (some ⟨w.heap.size+1,0,none⟩),.pointer (some ⟨w5.heap.size,0,none⟩),.pointer (some ⟨w.heap.size+1+1,0,none⟩),.pointer (some ⟨w.heap.size+1+1+1,0,none⟩)]) (by simp [go_sem,yy0,yy1]) rfl ?_
     exact (K3C.out g).mono fun e w' ⟨pq,cq,he,hv,hB⟩=>⟨_,he,hB,⟨pq,cq,rfl,hv.mono (Nat.le_trans HS5.out g.h.size)⟩⟩
    ·refine fun _=>ob_plain [25,27,29,30,35,40] rfl rfl fun _ g h=>?_
     obtain ⟨_,yy0,rfl⟩:=seen_in rfl h.1
     obtain ⟨_,yy1,rfl⟩:=seen_in rfl h.2.1
     obtain ⟨_,yy2,⟨p29,c29,rfl,h29⟩⟩:=seen_in rfl h.2.2.1
     obtain ⟨_,yy3,rfl⟩:=seen_in rfl h.2.2.2.1
     obtain ⟨_,yy4,⟨p35,c35,rfl,h35⟩⟩:=seen_in rfl h.2.2.2.2.1
     obtain ⟨_,yy5,⟨p40,c40,rfl,h40⟩⟩:=seen_in rfl h.2.2.2.2.2.1
     exact tupon_value (v:=.agg #[.int .i64 T,.int .i64 H,.slice p29 X.length c29,.slice pb B.length cb,.slice p35 X.length c35,.slice p40 X.length c40]) (by simp [go_sem,yy0,yy1,yy2,yy3,yy4,yy5]) (Below.refl _ _) ⟨_,_,_,_,_,_,rfl,h29,h35,h40⟩
    ·refine fun _=>ob_plain [41] rfl rfl fun _ g h=>?_
     obtain ⟨_,yy0,⟨p1,c1,p3,c3,p4,c4,rfl,k1,k3,k4⟩⟩:=seen_in rfl h.1
     refine tupon_enter (f:=95) (args:=#[.agg #[.int .i64 T,.int .i64 H,.slice p1 X.length c1,.slice pb B.length cb,.slice p3 X.length c3,.slice p4 X.length c4]]) (by simp [go_sem,yy0]) rfl ?_
     exact (KFT.out p1 pb c1 cb p3 c3 p4 c4 g.w k3.1 k4.1).mono fun e w' ⟨he,hB⟩=>⟨_,he,hB,⟨_,_,_,_,_,_,rfl,k1.grow hB,k3.grow hB,k4.grow hB⟩⟩
    ·refine fun _=>ob_plain [42] rfl rfl fun _ g h=>?_
     obtain ⟨_,yy0,⟨p1,c1,p3,c3,p4,c4,rfl,k1,k3,k4⟩⟩:=seen_in rfl h.1
     exact tupon_value (v:=.agg #[.int .i64 T,.int .i64 H,.slice p1 X.length c1,.slice pb B.length cb,.slice p3 X.length c3,.slice p4 X.length c4]) (by simp [go_sem,yy0]) (Below.refl _ _) ⟨_,_,_,_,_,_,rfl,k1,k3,k4⟩
    ·refine fun _=>ob_plain [42] rfl rfl fun _ g h=>?_
     obtain ⟨_,yy0,⟨p1,c1,p3,c3,p4,c4,rfl,k1,k3,k4⟩⟩:=seen_in rfl h.1
     exact tvS (by simp [go_sem,yy0]) rfl
    ·exact fun h=>absurd rfl h
    ·refine fun _=>ob_plain [44] rfl rfl fun _ g h=>?_
     obtain ⟨_,yy0,rfl⟩:=seen_in rfl h.1
     exact tvS (by simp [go_sem,yy0]) rfl
   rintro w7 hB _ rfl _ rfl _ rfl _ rfl _ rfl _ ⟨p29,c29,rfl,h29⟩ _ rfl _ rfl _ rfl _ rfl _ rfl _ ⟨p35,c35,rfl,h35⟩ _ rfl _ rfl _ rfl _ rfl _ ⟨p40,c40,rfl,h40⟩ _ ⟨p1,c1,p3,c3,p4,c4,rfl,k1,k3,k4⟩ _ ⟨p1,c1,p3,c3,p4,c4,rfl,k1,k3,k4⟩ _ ⟨p1,c1,p3,c3,p4,c4,rfl,k1,k3,k4⟩ _ rfl _ rfl
   simp only [Act.put,List.setIfInBounds_toArray,List.set_cons_succ,List.set_cons_zero,List.filterMap_nil,finP]
   refine ⟨_,exec_store_row 39 (.tmp 8) (.tmp 43) rfl (w.heap.size+1+1+1+1) #[.int .i64 T,.int .i64 H,.slice p1 X.length c1,.slice pb B.length cb,.slice p3 X.length c3,.slice p4 X.length c4] rfl rfl 39 _ (show w7.heap[w.heap.size+1+1+1+1]? = some (.cells _ 39 (0,0)) from HZ6.out.grow hB) (by kernel_rfl) rfl (by first | rfl | decide | simp [Value.oneCell']),?_⟩
   have HW9:=Lib.hid (below_row (X:=w.heap.size+1+1+1+1) (below_then HW6.out hB) (by omega) #[.int .i64 T,.int .i64 H,.slice p1 X.length c1,.slice pb B.length cb,.slice p3 X.length c3,.slice p4 X.length c4])
   have hs9:=setRow_heap w7 (w.heap.size+1+1+1+1) _ #[.int .i64 T,.int .i64 H,.slice p1 X.length c1,.slice pb B.length cb,.slice p3 X.length c3,.slice p4 X.length c4] _ _ (show w7.heap[w.heap.size+1+1+1+1]? = some (.cells _ 39 (0,0)) from HZ6.out.grow hB)
   have x0:=heapN_cellj hs9 (k:=0) rfl
   have x1:=heapN_cellj hs9 (k:=1) rfl
   have x2:=heapN_cellj hs9 (k:=2) rfl
   have x3:=heapN_cellj hs9 (k:=3) rfl
   have x4:=heapN_cellj hs9 (k:=4) rfl
   have x5:=heapN_cellj hs9 (k:=5) rfl
   have kB:=(HBB.out.grow hB).row (X:=w.heap.size+1+1+1+1) (by omega) #[.int .i64 T,.int .i64 H,.slice p1 X.length c1,.slice pb B.length cb,.slice p3 X.length c3,.slice p4 X.length c4]
   have m1:=k1.row (X:=w.heap.size+1+1+1+1) (by omega) #[.int .i64 T,.int .i64 H,.slice p1 X.length c1,.slice pb B.length cb,.slice p3 X.length c3,.slice p4 X.length c4]
   have m3:=k3.row (X:=w.heap.size+1+1+1+1) (by omega) #[.int .i64 T,.int .i64 H,.slice p1 X.length c1,.slice pb B.length cb,.slice p3 X.length c3,.slice p4 X.length c4]
   have m4:=k4.row (X:=w.heap.size+1+1+1+1) (by omega) #[.int .i64 T,.int .i64 H,.slice p1 X.length c1,.slice pb B.length cb,.slice p3 X.length c3,.slice p4 X.length c4]
   have M:=Lib.hid (And.intro kB (And.intro m1 (And.intro m3 m4)))
   clear hB hs9 y0 y1 u0 z0 kB m1 m3 m4
   go_wp2_with (fail)
   refine bodyPost_ret (v:=.tuple #[.agg #[.int .i64 T,.int .i64 H,.slice p1 X.length c1,.slice pb B.length cb,.slice p3 X.length c3,.slice p4 X.length c4],.bool true]) (by simp [results,Tryz.results52,go_sem,x0,x1,x2,x3,x4,x5]) rfl ⟨_,rfl,?_,HW9.out⟩
   obtain ⟨kB,m1,m3,m4⟩:=M.out
   refine ⟨p1,c1,pb,cb,p3,c3,p4,c4,by rw [HLV.out.1,HLV.out.2],m1.mono (by omega),kB.mono (by omega),?_,?_⟩
   ·rw [HLV.out.1]; exact m3.mono (by omega)
   ·rw [HLV.out.2]; exact m4.mono (by omega)
end Go.Proofs.YtdfdpghdjlgghaaGreat
