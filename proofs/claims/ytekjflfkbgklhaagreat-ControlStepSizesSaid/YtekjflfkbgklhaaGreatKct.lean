/-
 Iter Every Sqd
-/
import Derived.Test.YtekjflfkbgklhaaGreatKcf
import Derived.Test.YtekjflfkbgklhaaGreatKch
import Derived.Test.YtekjflfkbgklhaaGreatKcm
import Derived.Test.YtekjflfkbgklhaaGreatKcs
import Derived.RangeFuncNested
import Derived.RangeFuncBound
import Derived.RangeFuncCalls
import Derived.RangeFuncLeaves
import Derived.Shelf.Abstract
import Derived.Shelf.RegionOpen
import Derived.WalkKit
import Derived.OwnWalkIn
import Derived.TacticsInMore
import Derived.LoopNIn
import Derived.LoopIn
namespace Go.Proofs.YtekjflfkbgklhaaGreat
open Go.ChangeShapes Go.WideShapes Go.ChangeAt Go.RowKit Go.Shelf
set_option linter.unusedVariables false
set_option linter.unusedSimpArgs false
set_option maxRecDepth 100000
attribute [local go_sem] Oper.semAt_some
def KpB (n₀ x y:Nat) (W W':World):Prop:=Below n₀ W W'∧W'.heap[x]? = W.heap[x]?∧W'.heap[y]? = W.heap[y]?
theorem KpB.trans {n₀ x y:Nat} {A B C:World} (h:KpB n₀ x y A B) (k:KpB n₀ x y B C):KpB n₀ x y A C:=⟨h.1.trans k.1,k.2.1.trans h.2.1,k.2.2.trans h.2.2⟩
def iva (p:Int × Int):Value:=.agg #[.int .i64 p.1,.int .i64 p.2]

theorem grown_below {W W':World} (h:Below W.heap.size W W'):W.grownBy W' none:=⟨h.os,h.tape,h.output,h.size,fun k hk _=>h.block k hk⟩

set_option maxHeartbeats 2000000 in
theorem pairs1_in (n:Nat) (hn:1 ≤ n) (l x y:Nat) (va vb:Value) (la lb:List (Int × Int)) (w W:World) (hva:Bx w va la) (hvb:Bx w vb lb) (hlen:lb.length = la.length)
  (hB:Below w.heap.size w W) (hx:Boxed W x 25 va) (hy:Boxed W y 25 vb) {α:Type} (val:α→(Int × Int) × (Int × Int)) (zs:List α) (hzs:zs.map val = la.zip lb) (J Jx:List α→World→Prop) (hJ:AbidesFrom W.heap.size J)
  (hY:∀ pre z W1,J pre W1→pre.length < zs.length→YieldAt Fence.wide (n - 1) Tryz.prog l #[iva (val z).1,iva (val z).2] W1 fun e W' =>
   (e = .returned (.bool true)∧J (pre ++ [z]) W'∧KpB w.heap.size x y W1 W') ∨ (e = .returned (.bool false)∧Jx (pre ++ [z]) W')) (h0:J [] W) :
  CallsIn Fence.wide n Tryz.prog 156 #[.func (.yield l) #[] #[],.pointer (some ⟨x,0,none⟩),.pointer (some ⟨y,0,none⟩)] W fun e W'=>(∃ v,e = .returned v) ∧
   ((∃ ys,ys = zs∧J ys W') ∨ (∃ pre,pre <+: zs∧Jx pre W')):=by
 obtain ⟨hl,p,c,rfl,hp⟩:=hva
 obtain ⟨hm,q,d,rfl,hq⟩:=hvb
 unfold maxLen at hl hm
 rw [hlen] at hy
 have hx0:=hx.cell
 have hy0:=hy.cell
 have hLz:=Lib.hid hlen
 have hzl:zs.length = la.length:=by rw [← List.length_map (f:=val),hzs,List.length_zip]; omega
 rw [hzl] at hY
 have hZL:=Lib.hid hzl
 have hM:=Lib.hid hm
 have HZS:=Lib.hid hzs
 clear hzl hm hzs
 refine callsIn_of_wp Tryz.func156 rfl trivial ?_ rfl
 simp only [Tryz.ntmps156,List.size_toArray,List.length_cons,List.length_nil,Nat.reduceAdd,Nat.reduceSub,Array.replicate_succ,Array.replicate_zero,List.push_toArray,List.append_toArray,List.nil_append,List.cons_append]
 gi_wp2
 gi_loopw [10] (fun i wr=>∃ k:Nat,k ≤ la.length∧i = .int .i64 k∧J (zs.take k) wr∧KpB w.heap.size x y W wr) (fun i _=>la.length - (intOf i).toNat)
 case atStart=>exact ⟨0,Nat.zero_le _,rfl,h0,Below.refl _ _,rfl,rfl⟩
 case round =>
  obtain ⟨k,hk,rfl,hJs,hnx,hkx,hky⟩:=hrel
  have bx:Boxed wr x 25 _:=hkx.trans hx
  have bY:Boxed wr y 25 _:=hky.trans hy
  have bx0:=bx.cell
  have by0:=bY.cell
  by_cases hlt:k < la.length
  ·obtain ⟨b,o,x1,y1,rfl,hg,hb,c1,c2⟩:=Bx.at (c:=0) (n:=0) hp hlt (hB.trans hnx)
   obtain ⟨b',o',x2,y2,rfl,hg',hb',c1',c2'⟩:=Bx.at (c:=0) (n:=0) hq (k:=k) (by omega) (hB.trans hnx)
   have hz:(la.zip lb)[k]? = some ((x1,y1),(x2,y2)):=by
    rw [List.getElem?_zip_eq_some]
    exact ⟨hg,hg'⟩
   rw [← HZS.out,List.getElem?_map] at hz
   obtain ⟨z,hz1,hz2⟩:=Option.map_eq_some_iff.1 hz
   have HZ:Hid (zs.take (k+1) = zs.take k ++ [z]):=by
    rw [List.take_add_one,hz1]
    rfl
   have hlk:(k:Int) < la.length:=by omega
   have hbw:b < wr.heap.size:=Nat.lt_of_lt_of_le hb (hB.trans hnx).size
   have hbw':b' < wr.heap.size:=Nat.lt_of_lt_of_le hb' (hB.trans hnx).size
   clear hp hq hg hg' hz hz1
   gi_wp2
   refine region_in (F:=Fence.wide) 9 wide_fn rfl wide_call (by kernel_rfl) (by kernel_rfl) ?_
   refine data_op (.func (.yield l) #[] #[]) rfl (RQ_pure (fun w=>by simp [go_sem])) ?_
   simp only [Act.put,List.setIfInBounds_toArray,List.set_cons_succ,List.set_cons_zero]
   refine data_op (.slice (some ⟨b,o,none⟩) la.length c) rfl (RQ_load rfl rfl (fun g=>by simp [go_sem,(g.cell (o:=0) bx.lt).trans bx0])) ?_
   simp only [Act.put,List.setIfInBounds_toArray,List.set_cons_succ,List.set_cons_zero]
   refine data_op (.int .i64 k) rfl (RQ_pure (fun w=>by simp [go_sem])) ?_
   simp only [Act.put,List.setIfInBounds_toArray,List.set_cons_succ,List.set_cons_zero]
   refine data_op (.pointer (some ⟨b,o+k * 2,none⟩)) rfl (RQ_pure (fun w=>by simp [go_sem,hlk])) ?_
   simp only [Act.put,List.setIfInBounds_toArray,List.set_cons_succ,List.set_cons_zero]
   refine data_op (.agg #[.int .i64 x1,.int .i64 y1]) rfl (RQ_load rfl rfl (fun g=>by simp [go_sem,(g.cell (o:=o+k * 2) hbw).trans c1,(g.cell (o:=o+k * 2+1) hbw).trans c2])) ?_
   simp only [Act.put,List.setIfInBounds_toArray,List.set_cons_succ,List.set_cons_zero]
   refine data_op (.slice (some ⟨b',o',none⟩) la.length d) rfl (RQ_load rfl rfl (fun g=>by simp [go_sem,(g.cell (o:=0) bY.lt).trans by0])) ?_
   simp only [Act.put,List.setIfInBounds_toArray,List.set_cons_succ,List.set_cons_zero]
   refine data_op (.int .i64 k) rfl (RQ_pure (fun w=>by simp [go_sem])) ?_
   simp only [Act.put,List.setIfInBounds_toArray,List.set_cons_succ,List.set_cons_zero]
   refine data_op (.pointer (some ⟨b',o' + k * 2,none⟩)) rfl (RQ_pure (fun w=>by simp [go_sem,hlk])) ?_
   simp only [Act.put,List.setIfInBounds_toArray,List.set_cons_succ,List.set_cons_zero]
   refine data_op (.agg #[.int .i64 x2,.int .i64 y2]) rfl (RQ_load rfl rfl (fun g=>by simp [go_sem,(g.cell (o:=o' + k * 2) hbw').trans c1',(g.cell (o:=o' + k * 2+1) hbw').trans c2'])) ?_
   simp only [Act.put,List.setIfInBounds_toArray,List.set_cons_succ,List.set_cons_zero]
   refine data_end ?_
   intro w5 hB5
   obtain ⟨fn,tmps,assign,body,hy',hR⟩:=hY _ z w5 (hJ _ _ _ none hJs (grown_below hB5) (fun _ e=>by cases e)) (by rw [List.length_take]; omega)
   rw [hz2] at hy'
   simp only [iva] at hy'
   clear hz2
   have hK5:KpB w.heap.size x y wr w5:=⟨hB5.mono (hB.trans hnx).size,hB5.block _ bx.lt,hB5.block _ bY.lt⟩
   clear hY
   simp only [List.drop_succ_cons,List.drop_zero]
   gi_wp2
   refine hR.mono ?_
   rintro e W3 (⟨rfl,hJ3,hk3⟩ | ⟨rfl,hJx3⟩)
   ·gi_wp2
    go_roundw
    case rel=>exact ⟨k+1,by omega,by simp,by rw [HZ.out]; exact hJ3,(KpB.trans ⟨hnx,hkx,hky⟩ hK5).trans hk3⟩
    case measure=>simp [intOf]; omega
   ·gi_wp2
    refine bodyPost_ret (results_none rfl _ _ _) rfl ?_
    exact ⟨⟨_,rfl⟩,.inr ⟨_,by rw [← HZ.out]; exact List.take_prefix _ _,hJx3⟩⟩
  ·obtain rfl:k = la.length:=by omega
   gi_wp2
   go_end0
   refine ⟨⟨_,rfl⟩,.inl ⟨_,rfl,?_⟩⟩
   rw [List.take_of_length_le (by rw [hZL.out]; exact Nat.le_refl _)] at hJs
   exact hJs

theorem pairs_stopsv (n:Nat) (hn:1 ≤ n) (x y:Nat) (va vb:Value) (la lb:List (Int × Int)) (w W0:World) (hva:Bx w va la) (hvb:Bx w vb lb) (hlen:lb.length = la.length) (hB:Below w.heap.size w W0)
  (hx:Boxed W0 x 25 va) (hy:Boxed W0 y 25 vb) {α:Type} (val:α→(Int × Int) × (Int × Int)) (zs:List α) (hzs:zs.map val = la.zip lb) :
  SeqStopsK Fence.wide n Tryz.prog 156 #[.pointer (some ⟨x,0,none⟩),.pointer (some ⟨y,0,none⟩)] (fun z:α=>#[iva (val z).1,iva (val z).2]) (KpB w.heap.size x y)
   (fun ys=>ys = zs) (fun pre=>pre <+: zs) zs.length W0:=fun l J Jx W hW hJ _ hY h0 =>
 pairs1_in n hn l x y va vb la lb w W hva hvb hlen (hB.trans (hW.mono hB.size)) ((hW.block _ hx.lt).trans hx) ((hW.block _ hy.lt).trans hy) val zs hzs J Jx hJ hY h0
theorem pairs_stops (n:Nat) (hn:1 ≤ n) (x y:Nat) (va vb:Value) (la lb:List (Int × Int)) (w W0:World) (hva:Bx w va la) (hvb:Bx w vb lb) (hlen:lb.length = la.length) (hB:Below w.heap.size w W0)
  (hx:Boxed W0 x 25 va) (hy:Boxed W0 y 25 vb) :
  SeqStopsK Fence.wide n Tryz.prog 156 #[.pointer (some ⟨x,0,none⟩),.pointer (some ⟨y,0,none⟩)] (fun z:(Int × Int) × (Int × Int)=>#[iva z.1,iva z.2]) (KpB w.heap.size x y)
   (fun ys=>ys = la.zip lb) (fun pre=>pre <+: la.zip lb) (la.zip lb).length W0:=pairs_stopsv n hn x y va vb la lb w W0 hva hvb hlen hB hx hy (fun z=>z) (la.zip lb) (by simp)

theorem pairs_in (n:Nat) (a b:Option Addr) (la ca lb cb:Nat) (w:World) :
  CallsIn Fence.wide n Tryz.prog 138 #[.slice a la ca,.slice b lb cb] w fun e w'=>e = .returned (.func (.func 156) #[] #[.pointer (some ⟨w.heap.size,0,none⟩),.pointer (some ⟨w.heap.size+1,0,none⟩)]) ∧
   w' = (w.alloc (.cells #[.slice a la ca] 25)).alloc (.cells #[.slice b lb cb] 25):=by
 refine callsIn_of_wp Tryz.func138 rfl trivial ?_ rfl
 simp only [Tryz.ntmps138,List.size_toArray,List.length_cons,List.length_nil,Nat.reduceAdd,Nat.reduceSub,Array.replicate_succ,Array.replicate_zero,List.push_toArray,List.append_toArray,List.nil_append,List.cons_append]
 gi_wp2
 go_ret
 exact ⟨rfl,rfl⟩
end Go.Proofs.YtekjflfkbgklhaaGreat
namespace Go.Proofs.YtekjflfkbgklhaaGreat
open Go.ChangeShapes Go.WideShapes Go.ChangeAt Go.RowKit Go.Shelf
set_option linter.unusedVariables false
set_option linter.unusedSimpArgs false
set_option maxRecDepth 100000
attribute [local go_sem] Oper.semAt_some
end Go.Proofs.YtekjflfkbgklhaaGreat
namespace Go.Proofs.YtekjflfkbgklhaaGreat
open Go.ChangeShapes Go.WideShapes Go.ChangeAt Go.RowKit Go.Shelf
set_option linter.unusedVariables false
set_option linter.unusedSimpArgs false
set_option maxRecDepth 100000
attribute [local go_sem] Oper.semAt_some
def IvBox (W:World) (b:Nat) (p:Int × Int):Prop:=W.heap[b]? = some (.cells #[.int .i64 p.1,.int .i64 p.2] 59 (0,0))
theorem IvBox.lt {W:World} {b:Nat} {p:Int × Int} (h:IvBox W b p):b < W.heap.size:=(Array.getElem?_eq_some_iff.1 h).1
theorem IvBox.new (W:World) (x y:Int):IvBox (W.alloc (.cells #[.int .i64 x,.int .i64 y] 59)) W.heap.size (x,y):=World.alloc_heap_new W _
theorem IvBox.alloc {W:World} {b:Nat} {p:Int × Int} (h:IvBox W b p) (o:Obj):IvBox (W.alloc o) b p:=(Below.heap_alloc W o b h.lt).trans h
theorem IvBox.cell0 {W:World} {b:Nat} {p:Int × Int} (h:IvBox W b p):W.cell? ⟨b,0,none⟩ = some (.int .i64 p.1):=by simp [World.cell?,show W.heap[b]? = _ from h]
theorem IvBox.cell1 {W:World} {b:Nat} {p:Int × Int} (h:IvBox W b p):W.cell? ⟨b,1,none⟩ = some (.int .i64 p.2):=by simp [World.cell?,show W.heap[b]? = _ from h]
theorem own_block {B:Nat} {W W':World} {row:Option Nat} (hg:W.grownBy W' row) (hr:∀ r,row = some r→B ≤ r∧∃ o:Obj,W.heap[r]? = some o∧o.isCells = false) {b:Nat} {cs:Array Value} {t:TypeId} {z:Nat × Nat} (h:W.heap[b]? = some (.cells cs t z)):W'.heap[b]? = some (.cells cs t z) :=
 (hg.block b (Array.getElem?_eq_some_iff.1 h).1 (fun e=>by
  obtain ⟨_,o,ho,hc⟩:=hr b e.symm
  rw [h] at ho
  rw [← Option.some.inj ho] at hc
  cases hc)).trans h

theorem kpb_put {n₀ x y:Nat} {W:World} {l:Nat} {o':Obj} (h:n₀ ≤ l) (hx:x < l) (hy:y < l):KpB n₀ x y W (W.putObj l o') :=
 have hg:=grownBy_putObj' W l o'
 ⟨⟨hg.os,hg.tape,hg.output,hg.size,fun k hk=>World.putObj_heap_other (by omega)⟩,World.putObj_heap_other (by omega),World.putObj_heap_other (by omega)⟩

def sub1 (z:(Int × Int) × (Int × Int)):Bool:=decide (z.2.1 ≤ z.1.1) && decide (z.1.2 ≤ z.2.2)

set_option maxHeartbeats 4000000 in
theorem every_sub_in (n:Nat) (hn:3 ≤ n) (va vb:Value) (la lb:List (Int × Int)) (w:World) (hva:Bx w va la) (hvb:Bx w vb lb) (hlen:lb.length = la.length) :
  CallsIn Fence.wide n Tryz.prog 120 #[va,vb,.func (.func 121) #[] #[]] w fun e W'=>e = .returned (.bool ((la.zip lb).all sub1))∧Below w.heap.size w W':=by
 have h1:1 ≤ n:=by omega
 have HA:=Lib.hid hva
 have HB:=Lib.hid hvb
 obtain ⟨hl,p,c,rfl,hp⟩:=hva
 obtain ⟨hm,q,d,rfl,hq⟩:=hvb
 clear hp hq hl hm
 rw [hlen] at HB ⊢
 refine callsIn_of_wp_marks Tryz.func120 rfl trivial ?_ rfl
 simp only [Tryz.ntmps120,List.size_toArray,List.length_cons,List.length_nil,Nat.reduceAdd,Nat.reduceSub,Array.replicate_succ,Array.replicate_zero,List.push_toArray,List.append_toArray,List.nil_append,List.cons_append]
 gi_wp2_with (refine ⟨trivial,?_⟩; gi_at_call 138; refine (pairs_in (n - 1) _ _ _ _ _ _ _).mono ?_; rintro e w' ⟨rfl,rfl⟩)
 have b0:=(((Boxed.new w 90 (.func (.func 121) #[] #[])).alloc (.cells #[.bool false] 4)).alloc (.cells #[.slice p la.length c] 25)).alloc (.cells #[.slice q la.length d] 25)
 have b1:=((Boxed.new (w.alloc (.cells #[.func (.func 121) #[] #[]] 90)) 4 (.bool false)).alloc (.cells #[.slice p la.length c] 25)).alloc (.cells #[.slice q la.length d] 25)
 have b2:=(Boxed.new ((w.alloc (.cells #[.func (.func 121) #[] #[]] 90)).alloc (.cells #[.bool false] 4)) 25 (.slice p la.length c)).alloc (.cells #[.slice q la.length d] 25)
 have b3:=Boxed.new (((w.alloc (.cells #[.func (.func 121) #[] #[]] 90)).alloc (.cells #[.bool false] 4)).alloc (.cells #[.slice p la.length c] 25)) 25 (.slice q la.length d)
 have hB0:Below w.heap.size w ((((w.alloc (.cells #[.func (.func 121) #[] #[]] 90)).alloc (.cells #[.bool false] 4)).alloc (.cells #[.slice p la.length c] 25)).alloc (.cells #[.slice q la.length d] 25)):=((((Below.refl _ w).alloc (Nat.le_refl _) _).alloc (by simp) _).alloc (by simp; omega) _).alloc (by simp; omega) _
 have hsz:((((w.alloc (.cells #[.func (.func 121) #[] #[]] 90)).alloc (.cells #[.bool false] 4)).alloc (.cells #[.slice p la.length c] 25)).alloc (.cells #[.slice q la.length d] 25)).heap.size = w.heap.size+4:=by simp
 simp only [World.size_alloc] at b0 b1 b2 b3 ⊢
 obtain ⟨W0,hW0⟩:∃ W0,((((w.alloc (.cells #[.func (.func 121) #[] #[]] 90)).alloc (.cells #[.bool false] 4)).alloc (.cells #[.slice p la.length c] 25)).alloc (.cells #[.slice q la.length d] 25)) = W0:=⟨_,rfl⟩
 rw [hW0] at b0 b1 b2 b3 hB0 hsz ⊢
 clear hW0
 refine wpIn_rangeFunc_ownH rfl h1 (gf:=156) (lb:=#[.pointer (some ⟨w.heap.size+1+1,0,none⟩),.pointer (some ⟨w.heap.size+1+1+1,0,none⟩)]) rfl trivial (enters_of Tryz.func156 (by kernel_rfl) rfl)
  (pairs_stops (n - 1) (by omega) (w.heap.size+1+1) (w.heap.size+1+1+1) _ _ la lb w W0 HA.out (by have:=HB.out; exact this) hlen hB0 b2 b3) KpB.trans (fun W l o o' hl ho hoc _=>kpb_put (by omega) (by omega) (by omega)) (Below.refl _ _) (fun _=>rfl)
  (fun pre W=>((∀ z ∈ pre,sub1 z = true)∧Boxed W w.heap.size 90 (.func (.func 121) #[] #[])∧Boxed W (w.heap.size+1) 4 (.bool false)∧Boxed W (w.heap.size+1+1) 25 (.slice p la.length c)∧Boxed W (w.heap.size+1+1+1) 25 (.slice q la.length d))∧Below w.heap.size w W)
  (fun k pre W=>(k = .ret∧(∃ z ∈ pre,sub1 z = false)∧Boxed W (w.heap.size+1) 4 (.bool false))∧Below w.heap.size w W)
  (OwnFrom.and (fun s A B row hs hg hr=>⟨hs.1,own_block hg hr hs.2.1,own_block hg hr hs.2.2.1,own_block hg hr hs.2.2.2.1,own_block hg hr hs.2.2.2.2⟩) (ownFrom_below (Nat.le_refl _) (by omega)))
  (fun k=>OwnFrom.and (fun s A B row hs hg hr=>⟨hs.1,hs.2.1,own_block hg hr hs.2.2⟩) (ownFrom_below (Nat.le_refl _) (by omega)))
  ⟨⟨by simp,b0,b1,b2,b3⟩,hB0⟩
  (fun z a' W=>∃ X Y,IvBox W X z.1∧IvBox W Y z.2∧a' = { tmps:=#[.slice p la.length c,.slice q la.length d,.func (.func 121) #[] #[],undef,undef,.pointer (some ⟨w.heap.size,0,none⟩),.pointer (some ⟨w.heap.size+1,0,none⟩),.pointer (some ⟨X,0,none⟩),.pointer (some ⟨Y,0,none⟩),.slice p la.length c,.slice q la.length d,.func (.func 156) #[] #[.pointer (some ⟨w.heap.size+1+1,0,none⟩),.pointer (some ⟨w.heap.size+1+1+1,0,none⟩)],.agg #[.int .i64 z.1.1,.int .i64 z.1.2],.agg #[.int .i64 z.2.1,.int .i64 z.2.2],undef,undef,undef,undef,undef,undef,undef,undef,undef,undef],defers:=[] })
  (fun z a' _ A B row hs hg hr=>by obtain ⟨X,Y,h1,h2,h3⟩:=hs; exact ⟨X,Y,own_block hg hr h1,own_block hg hr h2,h3⟩) ?assign ?body ?done ?stop
 case assign =>
  rintro l pre ⟨⟨x1,y1⟩,⟨x2,y2⟩⟩ W K hI hK
  simp only [iva]
  gi_wp2
  obtain ⟨⟨i1,i2,i3,i4,i5⟩,i6⟩:=hI
  refine hK _ _ (((KeepsOthers.alloc _ _).trans (KeepsOthers.alloc _ _)).from _) ⟨((Below.refl _ W).alloc i6.size _).alloc (by have:=i6.size; simp; omega) _,((i4.alloc _).alloc _).trans i4.symm,((i5.alloc _).alloc _).trans i5.symm⟩
   ⟨⟨i1,(i2.alloc _).alloc _,(i3.alloc _).alloc _,(i4.alloc _).alloc _,(i5.alloc _).alloc _⟩,(i6.alloc i6.size _).alloc (by have:=i6.size; simp; omega) _⟩ ⟨W.heap.size,W.heap.size+1,(IvBox.new W x1 y1).alloc _,?_,rfl⟩
  have:=IvBox.new (W.alloc (.cells #[.int .i64 x1,.int .i64 y1] 59)) x2 y2
  rw [World.size_alloc] at this
  exact this
 case body =>
  rintro l pre ⟨⟨x1,y1⟩,⟨x2,y2⟩⟩ a' W hl ⟨r,hr⟩ ⟨⟨hz,c0,c1,c2,c3⟩,hB⟩ ⟨X,Y,hX,hY,rfl⟩ hlt
  have c0':=c0.cell
  have x0':=hX.cell0
  have x1':=hX.cell1
  have y0':=hY.cell0
  have y1':=hY.cell1
  dsimp only at x0' x1' y0' y1'
  obtain ⟨s,hs⟩:∃ s,(decide (x2 ≤ x1) && decide (y1 ≤ y2)) = s:=⟨_,rfl⟩
  have hs1:sub1 ((x1,y1),(x2,y2)) = s:=hs
  have hsz':=hB.size
  have l1:=c1.lt
  gi_wp2_with (fail)
  refine ⟨trivial,fun h=>(by cases h),?_⟩
  refine (CallsIn.inRound l (callsIn_wide.2 (iv_subset x1 y1 x2 y2 s _ hs))).mono ?_
  rintro e w5 ⟨rfl,hB5⟩
  have d0:Boxed w5 w.heap.size _ _:=(hB5.block _ c0.lt).trans c0
  have d1:Boxed w5 (w.heap.size+1) _ _:=(hB5.block _ c1.lt).trans c1
  have d2:Boxed w5 (w.heap.size+1+1) _ _:=(hB5.block _ c2.lt).trans c2
  have d3:Boxed w5 (w.heap.size+1+1+1) _ _:=(hB5.block _ c3.lt).trans c3
  have hK5:KeepsFrom W0.heap.size W w5:=⟨hB5.size,fun k o _ hk _=>(hB5.block k (Array.getElem?_eq_some_iff.1 hk).1).trans hk⟩
  have hB':Below w.heap.size w w5:=hB.trans (hB5.mono hB.size)
  have d1c:=d1.cell
  have d1f:=d1.frozen
  cases s
  ·gi_wp2
   exact ⟨hK5.trans ((KeepsOthers.setCell _ _ _).from _),⟨rfl,⟨_,List.mem_append_right _ List.mem_cons_self,hs1⟩,d1.set _⟩,hB'.setCell (p:=⟨w.heap.size+1,0,none⟩) (by simp) _⟩
  ·gi_wp2
   refine ⟨hK5,⟨hB5.mono hB.size,d2.trans c2.symm,d3.trans c3.symm⟩,⟨fun z hzm=>?_,d0,d1,d2,d3⟩,hB'⟩
   rcases List.mem_append.1 hzm with h | h
   ·exact hz z h
   ·rw [List.mem_singleton.1 h]
    exact hs1
 case done =>
  rintro D ys W hD rfl ⟨⟨hz,c0,c1,c2,c3⟩,hB⟩ hK
  have d1c:=c1.cell
  have d1f:=c1.frozen
  gi_wp2
  have hK':=(KeepsOthers.setCell W ⟨w.heap.size+1,0,none⟩ (.bool true)).same D _ hK rfl
  refine ⟨by simp,.inl ⟨_,_,rfl,run_takeDeferred hK',?_⟩⟩
  have hc5:=cell_kept (c1.set (.bool true)).cell (grownBy_putObj' _ D (.deferred none)) (fun r e=>by cases e; exact ⟨_,hK',rfl⟩)
  refine ⟨.bool true,?_,ret_bool ?_,(hB.setCell (p:=⟨w.heap.size+1,0,none⟩) (by simp) _).trans (belowK_b (w:=w) (Nat.le_refl _) _ D _ _ (by omega) hK' rfl rfl)⟩
  ·simp [results,Tryz.f120,go_sem,hc5]
  ·rw [eq_comm,List.all_eq_true]
   exact hz
 case stop =>
  rintro D k pre W hD hpre ⟨⟨rfl,⟨z,hzm,hz⟩,c1⟩,hB⟩ hK
  gi_wp2
  refine ⟨by simp,.inl ⟨_,_,rfl,run_takeDeferred hK,?_⟩⟩
  have hc5:=cell_kept c1.cell (grownBy_putObj' _ D (.deferred none)) (fun r e=>by cases e; exact ⟨_,hK,rfl⟩)
  refine ⟨.bool false,?_,ret_bool ?_,hB.trans (belowK_b (w:=w) (Nat.le_refl _) W D _ _ (by omega) hK rfl rfl)⟩
  ·simp [results,Tryz.f120,go_sem,hc5]
  ·rw [eq_comm,Bool.eq_false_iff]
   intro h
   have:=List.all_eq_true.1 h z (hpre.subset hzm)
   rw [hz] at this
   cases this
set_option maxHeartbeats 1000000 in
theorem box_subset (va vb:Value) (la lb:List (Int × Int)) (w:World) (hva:Bx w va la) (hvb:Bx w vb lb) (hlen:lb.length = la.length) :
  Calls Tryz.prog 89 #[va,vb] w fun e W'=>e = .returned (.bool ((la.zip lb).all sub1))∧Below w.heap.size w W':=by
 have c1:=(callsIn_wide (n:=5)).1 (every_sub_in 5 (by decide) va vb la lb w hva hvb hlen)
 obtain ⟨hl,p,c,rfl,hp⟩:=hva
 obtain ⟨hm,q,d,rfl,hq⟩:=hvb
 clear hp hq hl hm hlen
 generalize (la.zip lb).all sub1 = r at *
 go_enter Tryz.func89,Tryz.ntmps89
 go_wp2_with (go_at_call 120; refine c1.mono ?_; rintro e w1 ⟨rfl,hB⟩)
 go_ret
 exact ⟨rfl,hB⟩
end Go.Proofs.YtekjflfkbgklhaaGreat
namespace Go.Proofs.YtekjflfkbgklhaaGreat
open Go.ChangeShapes Go.WideShapes Go.ChangeAt Go.RowKit Go.Shelf
set_option linter.unusedVariables false
set_option linter.unusedSimpArgs false
set_option maxRecDepth 100000
attribute [local go_sem] Oper.semAt_some
end Go.Proofs.YtekjflfkbgklhaaGreat
namespace Go.Proofs.YtekjflfkbgklhaaGreat
open Go.ChangeShapes Go.WideShapes Go.ChangeAt Go.RowKit Go.Shelf
set_option linter.unusedVariables false
set_option linter.unusedSimpArgs false
set_option maxRecDepth 100000
attribute [local go_sem] Oper.semAt_some
theorem heap_set {W:World} {a:Addr} {u:Value} {k:Nat} (h:k ≠ a.block):(W.setCell a u).heap[k]? = W.heap[k]?:=Below.heap_setCell _ _ _ k h
theorem cells_set {W:World} {b o:Nat} {cs:Array Value} {t:TypeId} {z:Nat × Nat} {u:Value} (h:W.heap[b]? = some (.cells cs t z)):(W.setCell ⟨b,o,none⟩ u).heap[b]? = some (.cells (cs.setIfInBounds o u) t z):=by
 obtain ⟨hlt,hk⟩:=Array.getElem?_eq_some_iff.1 h
 show (W.heap.modify b _)[b]? = _
 rw [Array.getElem?_eq_getElem (by rw [Array.size_modify]; exact hlt),Array.getElem_modify_self,hk]
 rfl
theorem IvBox.set {W:World} {b:Nat} {p:Int × Int} (h:IvBox W b p) (x y:Int):IvBox ((W.setCell ⟨b,0,none⟩ (.int .i64 x)).setCell ⟨b,1,none⟩ (.int .i64 y)) b (x,y):=by
 have h1:=cells_set (o:=1) (u:=.int .i64 y) (cells_set (o:=0) (u:=.int .i64 x) h)
 exact h1
theorem IvBox.frozen {W:World} {b:Nat} {p:Int × Int} (h:IvBox W b p) (o:Nat):W.frozen? ⟨b,o,none⟩ = false:=by simp [World.frozen?,show W.heap[b]? = _ from h]

def VB (p:Int × Int):Prop:=VI p.1 p.2
abbrev VP:={ z:(Int × Int) × (Int × Int) // VB z.1∧VB z.2 }
def vps (l:List ((Int × Int) × (Int × Int))) (h:∀ z ∈ l,VB z.1∧VB z.2):List VP:=l.attachWith _ h
theorem vps_map (l:List ((Int × Int) × (Int × Int))) (h:∀ z ∈ l,VB z.1∧VB z.2):(vps l h).map Subtype.val = l:=by
 have:=List.attachWith_map_val (f:=fun z=>z) h
 simpa [vps] using this

end Go.Proofs.YtekjflfkbgklhaaGreat
