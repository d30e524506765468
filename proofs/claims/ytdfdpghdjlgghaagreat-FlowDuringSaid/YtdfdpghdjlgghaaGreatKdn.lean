/-
 Box Iter
-/
import Derived.Test.YtdfdpghdjlgghaaGreatKda
import Derived.Test.YtdfdpghdjlgghaaGreatKdd
import Derived.Test.YtdfdpghdjlgghaaGreatKdf
import Derived.Test.YtdfdpghdjlgghaaGreatKdj
import Derived.RangeFuncNested
import Derived.RangeFuncBound
import Derived.RangeFuncCalls
import Derived.RangeFuncLeaves
import Derived.Shelf.Abstract
import Derived.Shelf.RegionOpen
import Derived.WalkKit
import Derived.OwnWalkIn
import Derived.TacticsInMore
import Derived.LoopNIn
import Derived.LoopIn
namespace Go.Proofs.YtdfdpghdjlgghaaGreat
open Go.ChangeShapes Go.WideShapes Go.ChangeAt Go.RowKit
set_option linter.unusedVariables false
set_option linter.unusedSimpArgs false
set_option maxRecDepth 100000
def Bx (w:World) (v:Value) (l:List (Int × Int)):Prop:=l.length ≤ maxLen∧∃ p cap,v = .slice p l.length cap ∧
 ∀ k x,l[k]? = some x→∃ b o,p = some ⟨b,o,none⟩∧b < w.heap.size∧w.cell? ⟨b,o+k * 2,none⟩ = some (.int .i64 x.1)∧w.cell? ⟨b,o+k * 2+1,none⟩ = some (.int .i64 x.2)
def Pt (w:World) (v:Value) (l:List Int):Prop:=l.length ≤ maxLen∧∃ p cap,v = .slice p l.length cap ∧
 ∀ k x,l[k]? = some x→∃ b o,p = some ⟨b,o,none⟩∧b < w.heap.size∧w.cell? ⟨b,o+k,none⟩ = some (.int .i64 x)

theorem Bx.grow {w w':World} {v:Value} {l:List (Int × Int)} (h:Bx w v l) (hb:Below w.heap.size w w'):Bx w' v l:=by
 obtain ⟨hl,p,cap,rfl,h⟩:=h
 refine ⟨hl,p,cap,rfl,fun k x hx=>?_⟩
 obtain ⟨b,o,rfl,h1,h2,h3⟩:=h k x hx
 exact ⟨b,o,rfl,Nat.lt_of_lt_of_le h1 hb.size,(hb.cell (p:=⟨b,o+k * 2,none⟩) h1).trans h2,(hb.cell (p:=⟨b,o+k * 2+1,none⟩) h1).trans h3⟩
theorem Pt.grow {w w':World} {v:Value} {l:List Int} (h:Pt w v l) (hb:Below w.heap.size w w'):Pt w' v l:=by
 obtain ⟨hl,p,cap,rfl,h⟩:=h
 refine ⟨hl,p,cap,rfl,fun k x hx=>?_⟩
 obtain ⟨b,o,rfl,h1,h2⟩:=h k x hx
 exact ⟨b,o,rfl,Nat.lt_of_lt_of_le h1 hb.size,(hb.cell (p:=⟨b,o+k,none⟩) h1).trans h2⟩
theorem Bx.mono {w w':World} {B:Nat} {v:Value} {l:List (Int × Int)} (h:Bx w v l) (hb:Below B w w') (hB:w.heap.size ≤ B):Bx w' v l:=h.grow (hb.mono hB)
theorem Bx.nil {w:World}:Bx w (.slice none 0 0) []:=⟨by simp,none,0,rfl,fun k x h=>by simp at h⟩

theorem Bx.at {w wr:World} {p:Option Addr} {c n k:Nat} {l:List (Int × Int)} (h:∀ k x,l[k]? = some x→∃ b o,p = some ⟨b,o,none⟩∧b < w.heap.size∧w.cell? ⟨b,o+k * 2,none⟩ = some (.int .i64 x.1)∧w.cell? ⟨b,o+k * 2+1,none⟩ = some (.int .i64 x.2))
  (hk:k < l.length) (hb:Below w.heap.size w wr):∃ b o x y,p = some ⟨b,o,none⟩∧l[k]? = some (x,y)∧b < w.heap.size∧wr.cell? ⟨b,o+k * 2,none⟩ = some (.int .i64 x)∧wr.cell? ⟨b,o+k * 2+1,none⟩ = some (.int .i64 y):=by
 obtain ⟨b,o,h1,h2,h3,h4⟩:=h k l[k] (List.getElem?_eq_getElem hk)
 exact ⟨b,o,l[k].1,l[k].2,h1,List.getElem?_eq_getElem hk,h2,(hb.cell (p:=⟨b,o+k * 2,none⟩) h2).trans h3,(hb.cell (p:=⟨b,o+k * 2+1,none⟩) h2).trans h4⟩

theorem Pt.at {w wr:World} {p:Option Addr} {c n k:Nat} {l:List Int} (h:∀ k x,l[k]? = some x→∃ b o,p = some ⟨b,o,none⟩∧b < w.heap.size∧w.cell? ⟨b,o+k,none⟩ = some (.int .i64 x))
  (hk:k < l.length) (hb:Below w.heap.size w wr):∃ b o x,p = some ⟨b,o,none⟩∧l[k]? = some x∧b < w.heap.size∧wr.cell? ⟨b,o+k,none⟩ = some (.int .i64 x):=by
 obtain ⟨b,o,h1,h2,h3⟩:=h k l[k] (List.getElem?_eq_getElem hk)
 exact ⟨b,o,l[k],h1,List.getElem?_eq_getElem hk,h2,(hb.cell (p:=⟨b,o+k,none⟩) h2).trans h3⟩

theorem ret_bool {a b:Bool} (h:a = b):Ending.returned (.bool a) = .returned (.bool b):=by rw [h]

theorem take_succ_eq {α:Type} {l m:List α} {k:Nat} {x y:α} (h:l.take k = m.take k) (hx:l[k]? = some x) (hy:m[k]? = some y) (e:x = y):l.take (k+1) = m.take (k+1):=by
 rw [List.take_add_one,List.take_add_one,h,hx,hy,e]

set_option maxHeartbeats 1000000 in
theorem r3same (v u:Value) (l m:List (Int × Int)) (w:World) (hv:Bx w v l) (hu:Bx w u m) :
  Calls Tryz.prog 24 #[v,u] w fun e w'=>e = .returned (.bool (decide (l = m)))∧Below w.heap.size w w':=by
 obtain ⟨hl,p,c,rfl,hp⟩:=hv
 obtain ⟨hm,q,d,rfl,hq⟩:=hu
 unfold maxLen at hl hm
 by_cases hlen:l.length = m.length
 ·have HL:=Lib.hid hlen
  go_enter Tryz.func24,Tryz.ntmps24
  go_wp2_with (fail)
  go_loopw [5] (fun c wr=>∃ k:Nat,c = .int .i64 k∧k ≤ l.length∧Hid (l.take k = m.take k)∧Below w.heap.size w wr) (fun c _=>l.length - (intOf c).toNat)
  case atStart=>exact ⟨0,rfl,Nat.zero_le _,rfl,Below.refl _ _⟩
  case round =>
   obtain ⟨k,rfl,hk,ht,hB⟩:=hrel
   by_cases hlt:k < l.length
   ·obtain ⟨b,o,x,y,rfl,hx,hb,c1,c2⟩:=Bx.at (c:=0) (n:=0) hp hlt hB
    obtain ⟨b',o',x',y',rfl,hx',hb',c1',c2'⟩:=Bx.at (c:=0) (n:=0) hq (k:=k) (by omega) hB
    have hltm:k < m.length:=by omega
    clear hp hq
    have HX:=Lib.hid hx
    have HX':=Lib.hid hx'
    clear hx hx'
    have hsz:=hB.size
    by_cases he:x = x'∧y = y'
    ·obtain ⟨rfl,rfl⟩:=he
     go_wp2_with (fail)
     go_quiet (fail)
     go_wp2_with (fail)
     go_roundw
     case rel=>exact ⟨k+1,by go_num,by omega,take_succ_eq ht.out HX.out HX'.out rfl,below_drewN hB _⟩
     case measure=>simp [intOf]; omega
    ·have hne:decide (l = m) = false:=by
      rw [decide_eq_false_iff_not]
      intro e
      rw [e,HX'.out] at HX
      have:=HX.out
      simp at this
      exact he ⟨this.1.symm,this.2.symm⟩
     by_cases h1:x = x'
     ·have h2:(y == y') = false:=by
       rw [beq_eq_false_iff_ne]
       exact fun h2=>he ⟨h1,h2⟩
      clear he
      subst h1
      go_wp2_with (fail)
      go_quiet (fail)
      go_wp2_with (fail)
      go_ret
      exact ⟨ret_bool hne.symm,below_drewN hB _⟩
     ·have h2:(x == x') = false:=by
       rw [beq_eq_false_iff_ne]
       exact h1
      clear he h1
      go_wp2_with (fail)
      go_quiet (fail)
      go_wp2_with (fail)
      go_ret
      exact ⟨ret_bool hne.symm,below_drewN hB _⟩
   ·obtain rfl:k = l.length:=by omega
    go_wp2_with (fail)
    go_ret
    have hT:=ht.out
    have hT':=HL.out
    refine ⟨ret_bool ?_,hB⟩
    rw [List.take_of_length_le (Nat.le_refl _),List.take_of_length_le (by omega)] at hT
    simp [hT]
 ·have hne:decide (l = m) = false:=by
   rw [decide_eq_false_iff_not]
   intro e
   exact hlen (by rw [e])
  have hlt:((l.length:Int) != (m.length:Int)) = true:=by simp; omega
  go_enter Tryz.func24,Tryz.ntmps24
  go_wp2_with (fail)
  go_ret
  exact ⟨ret_bool hne.symm,Below.refl _ _⟩
end Go.Proofs.YtdfdpghdjlgghaaGreat
namespace Go.Proofs.YtdfdpghdjlgghaaGreat
open Go.ChangeShapes Go.WideShapes Go.ChangeAt Go.RowKit Go.Shelf
set_option linter.unusedVariables false
set_option linter.unusedSimpArgs false
set_option maxRecDepth 100000
attribute [local go_sem] Oper.semAt_some
def KpB (n₀ x y:Nat) (W W':World):Prop:=Below n₀ W W'∧W'.heap[x]? = W.heap[x]?∧W'.heap[y]? = W.heap[y]?
theorem KpB.trans {n₀ x y:Nat} {A B C:World} (h:KpB n₀ x y A B) (k:KpB n₀ x y B C):KpB n₀ x y A C:=⟨h.1.trans k.1,k.2.1.trans h.2.1,k.2.2.trans h.2.2⟩
def iva (p:Int × Int):Value:=.agg #[.int .i64 p.1,.int .i64 p.2]

theorem grown_below {W W':World} (h:Below W.heap.size W W'):W.grownBy W' none:=⟨h.os,h.tape,h.output,h.size,fun k hk _=>h.block k hk⟩

set_option maxHeartbeats 2000000 in
theorem pairs1_in (n:Nat) (hn:1 ≤ n) (l x y:Nat) (va vb:Value) (la lb:List (Int × Int)) (w W:World) (hva:Bx w va la) (hvb:Bx w vb lb) (hlen:lb.length = la.length)
  (hB:Below w.heap.size w W) (hx:Boxed W x 23 va) (hy:Boxed W y 23 vb) {α:Type} (val:α→(Int × Int) × (Int × Int)) (zs:List α) (hzs:zs.map val = la.zip lb) (J Jx:List α→World→Prop) (hJ:AbidesFrom W.heap.size J)
  (hY:∀ pre z W1,J pre W1→pre.length < zs.length→YieldAt Fence.wide (n - 1) Tryz.prog l #[iva (val z).1,iva (val z).2] W1 fun e W' =>
   (e = .returned (.bool true)∧J (pre ++ [z]) W'∧KpB w.heap.size x y W1 W') ∨ (e = .returned (.bool false)∧Jx (pre ++ [z]) W')) (h0:J [] W) :
  CallsIn Fence.wide n Tryz.prog 129 #[.func (.yield l) #[] #[],.pointer (some ⟨x,0,none⟩),.pointer (some ⟨y,0,none⟩)] W fun e W'=>(∃ v,e = .returned v) ∧
   ((∃ ys,ys = zs∧J ys W') ∨ (∃ pre,pre <+: zs∧Jx pre W')):=by
 obtain ⟨hl,p,c,rfl,hp⟩:=hva
 obtain ⟨hm,q,d,rfl,hq⟩:=hvb
 unfold maxLen at hl hm
 rw [hlen] at hy
 have hx0:=hx.cell
 have hy0:=hy.cell
 have hLz:=Lib.hid hlen
 have hzl:zs.length = la.length:=by rw [← List.length_map (f:=val),hzs,List.length_zip]; omega
 rw [hzl] at hY
 have hZL:=Lib.hid hzl
 have hM:=Lib.hid hm
 have HZS:=Lib.hid hzs
 clear hzl hm hzs
 refine callsIn_of_wp Tryz.func129 rfl trivial ?_ rfl
 simp only [Tryz.ntmps129,List.size_toArray,List.length_cons,List.length_nil,Nat.reduceAdd,Nat.reduceSub,Array.replicate_succ,Array.replicate_zero,List.push_toArray,List.append_toArray,List.nil_append,List.cons_append]
 gi_wp2
 gi_loopw [10] (fun i wr=>∃ k:Nat,k ≤ la.length∧i = .int .i64 k∧J (zs.take k) wr∧KpB w.heap.size x y W wr) (fun i _=>la.length - (intOf i).toNat)
 case atStart=>exact ⟨0,Nat.zero_le _,rfl,h0,Below.refl _ _,rfl,rfl⟩
 case round =>
  obtain ⟨k,hk,rfl,hJs,hnx,hkx,hky⟩:=hrel
  have bx:Boxed wr x 23 _:=hkx.trans hx
  have bY:Boxed wr y 23 _:=hky.trans hy
  have bx0:=bx.cell
  have by0:=bY.cell
  by_cases hlt:k < la.length
  ·obtain ⟨b,o,x1,y1,rfl,hg,hb,c1,c2⟩:=Bx.at (c:=0) (n:=0) hp hlt (hB.trans hnx)
   obtain ⟨b',o',x2,y2,rfl,hg',hb',c1',c2'⟩:=Bx.at (c:=0) (n:=0) hq (k:=k) (by omega) (hB.trans hnx)
   have hz:(la.zip lb)[k]? = some ((x1,y1),(x2,y2)):=by
    rw [List.getElem?_zip_eq_some]
    exact ⟨hg,hg'⟩
   rw [← HZS.out,List.getElem?_map] at hz
   obtain ⟨z,hz1,hz2⟩:=Option.map_eq_some_iff.1 hz
   have HZ:Hid (zs.take (k+1) = zs.take k ++ [z]):=by
    rw [List.take_add_one,hz1]
    rfl
   have hlk:(k:Int) < la.length:=by omega
   have hbw:b < wr.heap.size:=Nat.lt_of_lt_of_le hb (hB.trans hnx).size
   have hbw':b' < wr.heap.size:=Nat.lt_of_lt_of_le hb' (hB.trans hnx).size
   clear hp hq hg hg' hz hz1
   gi_wp2
   refine region_in (F:=Fence.wide) 9 wide_fn rfl wide_call (by kernel_rfl) (by kernel_rfl) ?_
   refine data_op (.func (.yield l) #[] #[]) rfl (RQ_pure (fun w=>by simp [go_sem])) ?_
   simp only [Act.put,List.setIfInBounds_toArray,List.set_cons_succ,List.set_cons_zero]
   refine data_op (.slice (some ⟨b,o,none⟩) la.length c) rfl (RQ_load rfl rfl (fun g=>by simp [go_sem,(g.cell (o:=0) bx.lt).trans bx0])) ?_
   simp only [Act.put,List.setIfInBounds_toArray,List.set_cons_succ,List.set_cons_zero]
   refine data_op (.int .i64 k) rfl (RQ_pure (fun w=>by simp [go_sem])) ?_
   simp only [Act.put,List.setIfInBounds_toArray,List.set_cons_succ,List.set_cons_zero]
   refine data_op (.pointer (some ⟨b,o+k * 2,none⟩)) rfl (RQ_pure (fun w=>by simp [go_sem,hlk])) ?_
   simp only [Act.put,List.setIfInBounds_toArray,List.set_cons_succ,List.set_cons_zero]
   refine data_op (.agg #[.int .i64 x1,.int .i64 y1]) rfl (RQ_load rfl rfl (fun g=>by simp [go_sem,(g.cell (o:=o+k * 2) hbw).trans c1,(g.cell (o:=o+k * 2+1) hbw).trans c2])) ?_
   simp only [Act.put,List.setIfInBounds_toArray,List.set_cons_succ,List.set_cons_zero]
   refine data_op (.slice (some ⟨b',o',none⟩) la.length d) rfl (RQ_load rfl rfl (fun g=>by simp [go_sem,(g.cell (o:=0) bY.lt).trans by0])) ?_
   simp only [Act.put,List.setIfInBounds_toArray,List.set_cons_succ,List.set_cons_zero]
   refine data_op (.int .i64 k) rfl (RQ_pure (fun w=>by simp [go_sem])) ?_
   simp only [Act.put,List.setIfInBounds_toArray,List.set_cons_succ,List.set_cons_zero]
   refine data_op (.pointer (some ⟨b',o' + k * 2,none⟩)) rfl (RQ_pure (fun w=>by simp [go_sem,hlk])) ?_
   simp only [Act.put,List.setIfInBounds_toArray,List.set_cons_succ,List.set_cons_zero]
   refine data_op (.agg #[.int .i64 x2,.int .i64 y2]) rfl (RQ_load rfl rfl (fun g=>by simp [go_sem,(g.cell (o:=o' + k * 2) hbw').trans c1',(g.cell (o:=o' + k * 2+1) hbw').trans c2'])) ?_
   simp only [Act.put,List.setIfInBounds_toArray,List.set_cons_succ,List.set_cons_zero]
   refine data_end ?_
   intro w5 hB5
   obtain ⟨fn,tmps,assign,body,hy',hR⟩:=hY _ z w5 (hJ _ _ _ none hJs (grown_below hB5) (fun _ e=>by cases e)) (by rw [List.length_take]; omega)
   rw [hz2] at hy'
   simp only [iva] at hy'
   clear hz2
   have hK5:KpB w.heap.size x y wr w5:=⟨hB5.mono (hB.trans hnx).size,hB5.block _ bx.lt,hB5.block _ bY.lt⟩
   clear hY
   simp only [List.drop_succ_cons,List.drop_zero]
   gi_wp2
   refine hR.mono ?_
   rintro e W3 (⟨rfl,hJ3,hk3⟩ | ⟨rfl,hJx3⟩)
   ·gi_wp2
    go_roundw
    case rel=>exact ⟨k+1,by omega,by simp,by rw [HZ.out]; exact hJ3,(KpB.trans ⟨hnx,hkx,hky⟩ hK5).trans hk3⟩
    case measure=>simp [intOf]; omega
   ·gi_wp2
    refine bodyPost_ret (results_none rfl _ _ _) rfl ?_
    exact ⟨⟨_,rfl⟩,.inr ⟨_,by rw [← HZ.out]; exact List.take_prefix _ _,hJx3⟩⟩
  ·obtain rfl:k = la.length:=by omega
   gi_wp2
   go_end0
   refine ⟨⟨_,rfl⟩,.inl ⟨_,rfl,?_⟩⟩
   rw [List.take_of_length_le (by rw [hZL.out]; exact Nat.le_refl _)] at hJs
   exact hJs

theorem pairs_stopsv (n:Nat) (hn:1 ≤ n) (x y:Nat) (va vb:Value) (la lb:List (Int × Int)) (w W0:World) (hva:Bx w va la) (hvb:Bx w vb lb) (hlen:lb.length = la.length) (hB:Below w.heap.size w W0)
  (hx:Boxed W0 x 23 va) (hy:Boxed W0 y 23 vb) {α:Type} (val:α→(Int × Int) × (Int × Int)) (zs:List α) (hzs:zs.map val = la.zip lb) :
  SeqStopsK Fence.wide n Tryz.prog 129 #[.pointer (some ⟨x,0,none⟩),.pointer (some ⟨y,0,none⟩)] (fun z:α=>#[iva (val z).1,iva (val z).2]) (KpB w.heap.size x y)
   (fun ys=>ys = zs) (fun pre=>pre <+: zs) zs.length W0:=fun l J Jx W hW hJ _ hY h0 =>
 pairs1_in n hn l x y va vb la lb w W hva hvb hlen (hB.trans (hW.mono hB.size)) ((hW.block _ hx.lt).trans hx) ((hW.block _ hy.lt).trans hy) val zs hzs J Jx hJ hY h0
theorem pairs_stops (n:Nat) (hn:1 ≤ n) (x y:Nat) (va vb:Value) (la lb:List (Int × Int)) (w W0:World) (hva:Bx w va la) (hvb:Bx w vb lb) (hlen:lb.length = la.length) (hB:Below w.heap.size w W0)
  (hx:Boxed W0 x 23 va) (hy:Boxed W0 y 23 vb) :
  SeqStopsK Fence.wide n Tryz.prog 129 #[.pointer (some ⟨x,0,none⟩),.pointer (some ⟨y,0,none⟩)] (fun z:(Int × Int) × (Int × Int)=>#[iva z.1,iva z.2]) (KpB w.heap.size x y)
   (fun ys=>ys = la.zip lb) (fun pre=>pre <+: la.zip lb) (la.zip lb).length W0:=pairs_stopsv n hn x y va vb la lb w W0 hva hvb hlen hB hx hy (fun z=>z) (la.zip lb) (by simp)

theorem pairs_in (n:Nat) (a b:Option Addr) (la ca lb cb:Nat) (w:World) :
  CallsIn Fence.wide n Tryz.prog 107 #[.slice a la ca,.slice b lb cb] w fun e w'=>e = .returned (.func (.func 129) #[] #[.pointer (some ⟨w.heap.size,0,none⟩),.pointer (some ⟨w.heap.size+1,0,none⟩)]) ∧
   w' = (w.alloc (.cells #[.slice a la ca] 23)).alloc (.cells #[.slice b lb cb] 23):=by
 refine callsIn_of_wp Tryz.func107 rfl trivial ?_ rfl
 simp only [Tryz.ntmps107,List.size_toArray,List.length_cons,List.length_nil,Nat.reduceAdd,Nat.reduceSub,Array.replicate_succ,Array.replicate_zero,List.push_toArray,List.append_toArray,List.nil_append,List.cons_append]
 gi_wp2
 go_ret
 exact ⟨rfl,rfl⟩
end Go.Proofs.YtdfdpghdjlgghaaGreat
namespace Go.Proofs.YtdfdpghdjlgghaaGreat
open Go.ChangeShapes Go.WideShapes Go.ChangeAt Go.RowKit Go.Shelf
set_option linter.unusedVariables false
set_option linter.unusedSimpArgs false
set_option maxRecDepth 100000
attribute [local go_sem] Oper.semAt_some
end Go.Proofs.YtdfdpghdjlgghaaGreat
