/-
 Hull Loop U9 UA UC
-/
import Derived.Test.YtdfdpghdjlgghaaGreatKdc
import Derived.Test.YtdfdpghdjlgghaaGreatKdf
import Derived.Test.YtdfdpghdjlgghaaGreatKdm
import Derived.Test.YtdfdpghdjlgghaaGreatKdo
import Derived.Test.YtdfdpghdjlgghaaGreatKdp
import Derived.Maps.AppendAt
import Derived.Laws.Bits128
import Derived.Deep.CutRange
import Derived.Laws.EntriesVeiled
import Derived.WalkKit
import Derived.ProofKit
import Derived.OpenShut
import Derived.Deep.Matrix
namespace Go.Proofs.YtdfdpghdjlgghaaGreat
open Go.ChangeShapes Go.WideShapes Go.ChangeAt Go.RowKit Go.Shelf
set_option linter.unusedVariables false
set_option linter.unusedSimpArgs false
set_option maxRecDepth 100000
attribute [local go_sem] Oper.semAt_some
def cz:List (Int × Int)→List Value
 | []=>[]
 | p :: l=>.int .i64 p.1 :: .int .i64 p.2 :: cz l
theorem cz_app:∀ (l m:List (Int × Int)),cz (l ++ m) = cz l ++ cz m
 | [],_=>rfl
 | p :: l,m=>by simp [cz,cz_app l m]
theorem cz_len:∀ (l:List (Int × Int)),(cz l).length = l.length * 2
 | []=>rfl
 | p :: l=>by simp [cz,cz_len l]; omega
theorem cz_get:∀ (l:List (Int × Int)) (k:Nat) (x:Int × Int),l[k]? = some x→(cz l)[k * 2]? = some (.int .i64 x.1)∧(cz l)[k * 2+1]? = some (.int .i64 x.2)
 | [],k,x,h=>by simp at h
 | p :: l,0,x,h=>by simp at h; subst h; simp [cz]
 | p :: l,k+1,x,h=>by
  have:=cz_get l k x (by simpa using h)
  rw [show (k+1) * 2 = k * 2+1+1 by omega]
  simpa [cz] using this
theorem Bx.own {W:World} {B:Nat} {v:Value} {l:List (Int × Int)} (h:W.ownsRow B 66 2 v l.length (cz l)) (hl:l.length ≤ maxLen):Bx W v l:=by
 rcases h.2 with ⟨rfl,h0⟩ | ⟨g,cap,cur,rfl,hb,hg,hrest⟩
 ·have:l = []:=List.length_eq_zero_iff.1 h0
  subst this
  exact Bx.nil
 ·refine ⟨hl,_,cap,rfl,fun k x hx=>⟨g,0,rfl,(Array.getElem?_eq_some_iff.1 hg).1,?_,?_⟩⟩
  ·have hk:=(List.getElem?_eq_some_iff.1 hx).1
   rw [Nat.zero_add,h.cellAt (k * 2) (by omega)]
   exact (cz_get l k x hx).1
  ·have hk:=(List.getElem?_eq_some_iff.1 hx).1
   rw [Nat.zero_add,h.cellAt (k * 2+1) (by omega)]
   exact (cz_get l k x hx).2
theorem info_iv:(Tryz.prog.info? 66).map (fun i=>(i.zero,i.size,i.bytes)) = some (some (.agg #[.int .i64 0,.int .i64 0]),2,16):=by kernel_rfl
theorem two_one (x y:Int):∀ u ∈ [Value.int .i64 x,Value.int .i64 y],u.oneCell' = true:=by
 intro u hu
 simp at hu
 rcases hu with rfl | rfl <;> rfl

theorem two_box {W:World} {b:Nat} {p:Int × Int} (h:IvBox W b p):∀ j u,[Value.int .i64 p.1,Value.int .i64 p.2][j]? = some u→W.cell? ((⟨b,0,none⟩:Addr).add j) = some u:=by
 intro j u hj
 match j,hj with
 | 0,hj=>simp at hj; subst hj; simpa [Addr.add] using h.cell0
 | 1,hj=>simp at hj; subst hj; simpa [Addr.add] using h.cell1
theorem appended {W w1:World} {n₀ B:Nat} {t e:TypeId} {size:Nat} {v v':Value} {k m:Nat} {xs ys:List Value}
  (hv:Boxed W B t v) (hte:t ≠ e) (hrow:W.ownsRow n₀ e size v k xs) (hn₀:n₀ ≤ W.heap.size) (hB:n₀ ≤ B)
  (hown':w1.ownsRow n₀ e size v' m ys) (hgrow:W.grownBy w1 v.ownBlock) :
  Boxed w1 B t v∧Boxed (w1.setCell ⟨B,0,none⟩ v') B t v'∧(w1.setCell ⟨B,0,none⟩ v').ownsRow n₀ e size v' m ys∧KeepsOthers W (w1.setCell ⟨B,0,none⟩ v')∧Below n₀ W (w1.setCell ⟨B,0,none⟩ v'):=by
 have hv1:Boxed w1 B t v:=hv.kept hgrow (hv.not_row hte hrow)
 refine ⟨hv1,hv1.set v',hown'.kept (grownBy_setCell' w1 B v') (.inr (hv1.not_row hte hown').symm),?_,?_⟩
 ·refine (KeepsOthers.of_grownBy hgrow fun j o ej hj=>?_).trans (KeepsOthers.setCell _ _ _)
  rcases hrow.2 with ⟨rfl,_⟩ | ⟨g,cap,cur,rfl,_,hgb,_⟩
  ·simp [Value.ownBlock] at ej
  ·obtain rfl:g = j:=by simpa [Value.ownBlock] using ej
   rw [hgb] at hj; cases hj; rfl
 ·refine ((Below.refl n₀ W).grown hgrow hn₀ fun j ej=>?_).setCell (p:=⟨B,0,none⟩) hB v'
  rcases hrow.2 with ⟨rfl,_⟩ | ⟨g,cap,cur,rfl,hb,_,_⟩
  ·simp [Value.ownBlock] at ej
  ·obtain rfl:g = j:=by simpa [Value.ownBlock] using ej
   exact hb

def hullI (z:(Int × Int) × (Int × Int)):Int × Int:=(min z.1.1 z.2.1,max z.1.2 z.2.2)

set_option maxHeartbeats 4000000 in
theorem hull_in (n:Nat) (hn:3 ≤ n) (va vb:Value) (la lb:List (Int × Int)) (w:World) (hva:Bx w va la) (hvb:Bx w vb lb) (hlen:lb.length = la.length) (hv:∀ z ∈ la.zip lb,VB z.1∧VB z.2) (hsm:la.length ≤ 1000) :
  CallsIn Fence.wide n Tryz.prog 72 #[va,vb] w fun e W'=>∃ v,e = .returned v∧Bx W' v ((la.zip lb).map hullI)∧Below w.heap.size w W':=by
 have h1:1 ≤ n:=by omega
 have HA:=Lib.hid hva
 have HB:=Lib.hid hvb
 obtain ⟨zs,hzs⟩:∃ zs:List VP,zs.map Subtype.val = la.zip lb:=⟨vps _ hv,vps_map _ hv⟩
 have hzl:zs.length ≤ 1000:=by rw [← List.length_map (f:=Subtype.val),hzs,List.length_zip]; omega
 obtain ⟨hl,p,c,rfl,hp⟩:=hva
 obtain ⟨hm,q,d,rfl,hq⟩:=hvb
 clear hp hq hl hm hv
 rw [hlen] at HB ⊢
 rw [← hzs]
 obtain ⟨i0,hi,hz0,hz1,hz2⟩:=info_parts info_iv
 obtain ⟨W1,hW1⟩:∃ W1,w.alloc (.cells (madeCells (Value.agg #[.int .i64 0,.int .i64 0]).cells (la.length * 2)) 66) = W1:=⟨_,rfl⟩
 have hmk:(Instr.makeSlice 23 (.int .i64 0) (.int .i64 (la.length:Int))).run Tryz.prog w = .ok (.slice (some ⟨w.heap.size,0,none⟩) 0 la.length) W1:=by
  have:=run_make (P:=Tryz.prog) w 23 66 i0 _ Tryz.underlying23 hi hz0 .i64 .i64 0 la.length (Int.le_refl _) (by omega) (by rw [hz2]; omega) (by omega)
  rw [hz1] at this
  simpa [hW1] using this
 have hrow0:W1.ownsRow w.heap.size 66 2 (.slice (some ⟨w.heap.size,0,none⟩) 0 la.length) 0 []:=by
  rw [← hW1]
  exact World.ownsRow_made w _ la.length (Nat.le_refl _) (by unfold maxLen; omega) (size_madeCells _ _)
 have hs1:W1.heap.size = w.heap.size+1:=by rw [← hW1]; simp
 have hB1:Below w.heap.size w W1:=by rw [← hW1]; exact (Below.refl _ w).alloc (Nat.le_refl _) _
 clear hW1
 refine callsIn_of_wp_marks Tryz.func72 rfl trivial ?_ rfl
 simp only [Tryz.ntmps72,List.size_toArray,List.length_cons,List.length_nil,Nat.reduceAdd,Nat.reduceSub,Array.replicate_succ,Array.replicate_zero,List.push_toArray,List.append_toArray,List.nil_append,List.cons_append]
 gi_wp2_with (refine ⟨trivial,?_⟩; gi_at_call 107; refine (pairs_in (n - 1) _ _ _ _ _ _ _).mono ?_; rintro e w' ⟨rfl,rfl⟩)
 have b1:=((Boxed.new W1 23 (.slice (some ⟨w.heap.size,0,none⟩) 0 la.length)).alloc (.cells #[.slice p la.length c] 23)).alloc (.cells #[.slice q la.length d] 23)
 have b2:=(Boxed.new (W1.alloc (.cells #[.slice (some ⟨w.heap.size,0,none⟩) 0 la.length] 23)) 23 (.slice p la.length c)).alloc (.cells #[.slice q la.length d] 23)
 have b3:=Boxed.new ((W1.alloc (.cells #[.slice (some ⟨w.heap.size,0,none⟩) 0 la.length] 23)).alloc (.cells #[.slice p la.length c] 23)) 23 (.slice q la.length d)
 have hrow1:=((hrow0.alloc (.cells #[.slice (some ⟨w.heap.size,0,none⟩) 0 la.length] 23)).alloc (.cells #[.slice p la.length c] 23)).alloc (.cells #[.slice q la.length d] 23)
 have hB0:Below w.heap.size w (((W1.alloc (.cells #[.slice (some ⟨w.heap.size,0,none⟩) 0 la.length] 23)).alloc (.cells #[.slice p la.length c] 23)).alloc (.cells #[.slice q la.length d] 23)):=((hB1.alloc hB1.size _).alloc (by simp; omega) _).alloc (by simp; omega) _
 have hsz:(((W1.alloc (.cells #[.slice (some ⟨w.heap.size,0,none⟩) 0 la.length] 23)).alloc (.cells #[.slice p la.length c] 23)).alloc (.cells #[.slice q la.length d] 23)).heap.size = w.heap.size+4:=by simp; omega
 simp only [World.size_alloc,hs1] at b1 b2 b3 ⊢
 obtain ⟨W0,hW0⟩:∃ W0,(((W1.alloc (.cells #[.slice (some ⟨w.heap.size,0,none⟩) 0 la.length] 23)).alloc (.cells #[.slice p la.length c] 23)).alloc (.cells #[.slice q la.length d] 23)) = W0:=⟨_,rfl⟩
 rw [hW0] at b1 b2 b3 hrow1 hB0 hsz ⊢
 clear hW0 hrow0 hmk hs1 hB1
 refine wpIn_rangeFunc_ownH rfl h1 (gf:=129) (lb:=#[.pointer (some ⟨w.heap.size+1+1,0,none⟩),.pointer (some ⟨w.heap.size+1+1+1,0,none⟩)]) rfl trivial (enters_of Tryz.func129 (by kernel_rfl) rfl)
  (pairs_stopsv (n - 1) (by omega) (w.heap.size+1+1) (w.heap.size+1+1+1) _ _ la lb w W0 HA.out (by have:=HB.out; exact this) hlen hB0 b2 b3 Subtype.val zs hzs) KpB.trans (fun W l o o' hl ho hoc _=>kpb_put (by omega) (by omega) (by omega)) (Below.refl _ _) (fun _=>rfl)
  (fun pre W=>((∃ v,Boxed W (w.heap.size+1) 23 v∧W.ownsRow w.heap.size 66 2 v pre.length (cz ((pre.map Subtype.val).map hullI))∧True)∧Boxed W (w.heap.size+1+1) 23 (.slice p la.length c)∧Boxed W (w.heap.size+1+1+1) 23 (.slice q la.length d))∧Below w.heap.size w W)
  (fun _ _ _=>False)
  (OwnFrom.and (OwnFrom.and (Own.from (holdsRow_own w.heap.size (w.heap.size+1) 23 66 2 (fun pre:List VP=>pre.length) (fun pre=>cz ((pre.map Subtype.val).map hullI)) (fun _ _=>True)) _) (fun s A B row hs hg hr=>⟨own_block hg hr hs.1,own_block hg hr hs.2⟩)) (ownFrom_below (Nat.le_refl _) (by omega)))
  (fun _ _ _ _ _ hs _ _=>hs)
  ⟨⟨⟨_,b1,hrow1,trivial⟩,b2,b3⟩,hB0⟩
  (fun z a' W=>∃ X Y,IvBox W X z.1.1∧IvBox W Y z.1.2∧a' = { tmps:=#[.slice p la.length c,.slice q la.length d,undef,undef,.slice none 0 0,.pointer (some ⟨w.heap.size+1,0,none⟩),.pointer (some ⟨X,0,none⟩),.pointer (some ⟨Y,0,none⟩),.slice p la.length c,.int .i64 la.length,.slice (some ⟨w.heap.size,0,none⟩) 0 la.length,.slice p la.length c,.slice q la.length d,.func (.func 129) #[] #[.pointer (some ⟨w.heap.size+1+1,0,none⟩),.pointer (some ⟨w.heap.size+1+1+1,0,none⟩)],.agg #[.int .i64 z.1.1.1,.int .i64 z.1.1.2],.agg #[.int .i64 z.1.2.1,.int .i64 z.1.2.2],undef,undef,undef,undef,undef,undef,undef],defers:=[] })
  (fun z a' _ A B row hs hg hr=>by obtain ⟨X,Y,h1,h2,h3⟩:=hs; exact ⟨X,Y,own_block hg hr h1,own_block hg hr h2,h3⟩) ?assign ?body ?done ?stop
 case assign =>
  rintro l pre ⟨⟨⟨x1,y1⟩,⟨x2,y2⟩⟩,hz⟩ W K hI hK
  simp only [iva]
  gi_wp2
  obtain ⟨⟨⟨v,i2,i3,_⟩,i4,i5⟩,i6⟩:=hI
  refine hK _ _ (((KeepsOthers.alloc _ _).trans (KeepsOthers.alloc _ _)).from _) ⟨((Below.refl _ W).alloc i6.size _).alloc (by have:=i6.size; simp; omega) _,((i4.alloc _).alloc _).trans i4.symm,((i5.alloc _).alloc _).trans i5.symm⟩
   ⟨⟨⟨v,(i2.alloc _).alloc _,(i3.alloc _).alloc _,trivial⟩,(i4.alloc _).alloc _,(i5.alloc _).alloc _⟩,(i6.alloc i6.size _).alloc (by have:=i6.size; simp; omega) _⟩ ⟨W.heap.size,W.heap.size+1,(IvBox.new W x1 y1).alloc _,?_,rfl⟩
  have:=IvBox.new (W.alloc (.cells #[.int .i64 x1,.int .i64 y1] 66)) x2 y2
  rw [World.size_alloc] at this
  exact this
 case body =>
  rintro l pre ⟨⟨⟨x1,y1⟩,⟨x2,y2⟩⟩,hz⟩ a' W hl ⟨r,hr⟩ ⟨⟨⟨v,c1,crow,_⟩,c2,c3⟩,hB⟩ ⟨X,Y,hX,hY,rfl⟩ hlt
  have hV1:VI x1 y1:=hz.1
  have hV2:VI x2 y2:=hz.2
  have k1:=fun w=>iv_hull x1 y1 x2 y2 w hV1 hV2
  have hsn:cz (((pre ++ [⟨((x1,y1),(x2,y2)),hz⟩]:List VP).map Subtype.val).map hullI) = cz ((pre.map Subtype.val).map hullI) ++ [.int .i64 (min x1 x2),.int .i64 (max y1 y2)]:=by
   rw [List.map_append,List.map_append,cz_app]
   rfl
  have HS:=Lib.hid hsn
  have hpl:pre.length ≤ 1000:=by omega
  clear hsn hzl
  have lX:=hX.lt
  have lY:=hY.lt
  have l1:=c1.lt
  have x0':=hX.cell0
  have x1':=hX.cell1
  have y0':=hY.cell0
  have y1':=hY.cell1
  have v0':=c1.cell
  dsimp only at x0' x1' y0' y1'
  gi_wp2
  refine region_pred_in (F:=Fence.wide.inRound l) 5 (lk [(16,fun u _=>u = v),(17,fun u _=>u = .agg #[.int .i64 x1,.int .i64 y1]),(18,fun u _=>u = .agg #[.int .i64 x2,.int .i64 y2]),(19,fun u _=>u = .agg #[.int .i64 (min x1 x2),.int .i64 (max y1 y2)]),
   (20,fun u w'=>∃ b,u = .slice (some ⟨b,0,none⟩) 1 1∧W.heap.size ≤ b∧IvBox w' b (min x1 x2,max y1 y2))]) (round_fn l) rfl (round_call l) (by kernel_rfl) (by kernel_rfl) ?_ ?_ ?_
  ·exact lk_steady _ ⟨steady_eq _,steady_eq _,steady_eq _,steady_eq _,fun u w1 w2 hb ⟨b,h1,h2,h3⟩=>⟨b,h1,h2,(hb.block b h3.lt).trans h3⟩,trivial⟩
  ·refine ⟨?_,?_,?_,?_,?_,trivial⟩
   ·refine ob_plain [5] rfl rfl fun a g h=>?_
    have e5:=getD_of (seen_out (v:=.pointer (some ⟨w.heap.size+1,0,none⟩)) rfl rfl h.1)
    simp [uponP,meets,lk,go_sem,e5,(g.cell (o:=0) l1).trans v0']
    exact Below.refl _ _
   ·refine ob_plain [6] rfl rfl fun a g h=>?_
    have e5:=getD_of (seen_out (v:=.pointer (some ⟨X,0,none⟩)) rfl rfl h.1)
    simp [uponP,meets,lk,go_sem,e5,(g.cell (o:=0) lX).trans x0',(g.cell (o:=1) lX).trans x1']
    exact Below.refl _ _
   ·refine ob_plain [7] rfl rfl fun a g h=>?_
    have e5:=getD_of (seen_out (v:=.pointer (some ⟨Y,0,none⟩)) rfl rfl h.1)
    simp [uponP,meets,lk,go_sem,e5,(g.cell (o:=0) lY).trans y0',(g.cell (o:=1) lY).trans y1']
    exact Below.refl _ _
   ·refine ob_plain [17,18] rfl rfl fun a g h=>?_
    obtain ⟨_,e5,rfl⟩:=seen_in rfl h.1
    obtain ⟨_,e6,rfl⟩:=seen_in rfl h.2.1
    have e5:=getD_of e5
    have e6:=getD_of e6
    simp [uponP,meets,lk,go_sem,e5,e6]
    exact k1 g.w
   ·refine ob_plain [19] rfl rfl fun a g h=>?_
    obtain ⟨_,r5,rfl⟩:=seen_in rfl h.1
    have e5:=getD_of r5
    simp [uponP,meets,lk,go_sem,e5,r5]
    exact ⟨(Below.refl _ _).alloc (Nat.le_refl _) _,g.h.size,IvBox.new _ _ _⟩
  ·intro w5 hB5
   rintro v rfl _ rfl _ rfl _ rfl _ ⟨b,rfl,hbW,hbx⟩
   simp only [Act.put,List.setIfInBounds_toArray,List.set_cons_succ,List.set_cons_zero,finP,List.drop_succ_cons,List.drop_zero]
   have d1:Boxed w5 (w.heap.size+1) 23 v:=(hB5.block _ c1.lt).trans c1
   have d2:Boxed w5 (w.heap.size+1+1) 23 _:=(hB5.block _ c2.lt).trans c2
   have d3:Boxed w5 (w.heap.size+1+1+1) 23 _:=(hB5.block _ c3.lt).trans c3
   have drow:w5.ownsRow w.heap.size 66 2 v pre.length _:=crow.kept (grown_below hB5) (by cases v.ownBlock with | none=>exact .inl rfl | some k=>exact .inr (by simp))
   have hK5:∀ B,KeepsFrom B W w5:=fun _=>⟨hB5.size,fun k o _ hk _=>(hB5.block k (Array.getElem?_eq_some_iff.1 hk).1).trans hk⟩
   have hB':Below w.heap.size w w5:=hB.trans (hB5.mono hB.size)
   have hle:w.heap.size ≤ w5.heap.size:=hB'.size
   have hb5:=hB5.mono hB.size
   clear hB5 crow v0'
   generalize cz ((pre.map Subtype.val).map hullI) = cs at *
   refine wpListIn_append_own _ rfl (.tmp 16) (.tmp 20) 23 rfl w.heap.size 66 i0 (.agg #[.int .i64 0,.int .i64 0]) 2 16 Tryz.underlying23 hi hz0 hz1 hz2 rfl (by decide) v pre.length cs rfl drow ⟨b,0,none⟩ 1 1 [.int .i64 (min x1 x2),.int .i64 (max y1 y2)] rfl rfl (two_box hbx) (two_one _ _) (by unfold maxLen; omega) (by omega) hle ?_
   intro v' w6 hown' hgrow _
   obtain ⟨g',cap',rfl⟩:=ownsRow_succ hown'
   obtain ⟨hv1,hv2,hr2,hk2,hb2⟩:=appended d1 (by decide) drow hle (Nat.le_succ _) hown' hgrow
   have hc1:=hv1.cell
   have hf1:=hv1.frozen
   have g2:Boxed w6 (w.heap.size+1+1) 23 _:=d2.kept hgrow (d2.not_row (by decide) drow)
   have g3:Boxed w6 (w.heap.size+1+1+1) 23 _:=d3.kept hgrow (d3.not_row (by decide) drow)
   simp only [Act.put,List.setIfInBounds_toArray,List.set_cons_succ,List.set_cons_zero]
   gi_wp2
   have g2':=g2.other (B':=w.heap.size+1) (by omega) (.slice (some ⟨g',0,none⟩) (pre.length+1) cap')
   have g3':=g3.other (B':=w.heap.size+1) (by omega) (.slice (some ⟨g',0,none⟩) (pre.length+1) cap')
   exact ⟨(hK5 _).trans (hk2.from _),⟨hb5.trans hb2,g2'.trans c2.symm,g3'.trans c3.symm⟩,⟨⟨_,hv2,by rw [HS.out]; simpa using hr2,trivial⟩,g2',g3'⟩,hB'.trans hb2⟩
 case done =>
  rintro D ys W hD rfl ⟨⟨⟨v,c1,crow,_⟩,c2,c3⟩,hB⟩ hK
  have hc:=c1.cell
  gi_wp2
  refine ⟨by simp,.inl ⟨_,_,rfl,run_takeDeferred hK,?_⟩⟩
  refine ⟨_,results_tmp rfl _ _ _,v,rfl,?_,hB.trans (belowK_b (w:=w) (Nat.le_refl _) W D _ _ (by omega) hK rfl rfl)⟩
  exact Bx.own (by simpa using ownsRow_putObj crow _ hK rfl) (by simp; unfold maxLen; omega)
 case stop =>
  rintro D k pre W hD hpre h _
  exact h.elim
end Go.Proofs.YtdfdpghdjlgghaaGreat
namespace Go.Proofs.YtdfdpghdjlgghaaGreat
open Go.ChangeShapes Go.WideShapes Go.ChangeAt Go.RowKit
set_option linter.unusedVariables false
set_option linter.unusedSimpArgs false
set_option maxRecDepth 100000
attribute [local irreducible] Calls
open Go.BigFrame
attribute [local go_sem ↓] run_max_two run_min_two run_max_three
set_option maxHeartbeats 1000000 in
theorem box_valid (v:Value) (l:List (Int × Int)) (w:World) (hv:Bx w v l) :
  Calls Tryz.prog 104 #[v] w fun e w'=>e = .returned (.bool (l.all (fun p=>decide (VI p.1 p.2)) && (decide (1 ≤ l.length) && decide (l.length ≤ 6))))∧Below w.heap.size w w':=by
 obtain ⟨hl,p,c,rfl,hp⟩:=hv
 unfold maxLen at hl
 go_enter Tryz.func104,Tryz.ntmps104
 go_wp2_with (fail)
 go_loopw [7] (fun i wr=>∃ k:Nat,i = .int .i64 k∧k ≤ l.length∧Hid (∀ p ∈ l.take k,VI p.1 p.2)∧Below w.heap.size w wr) (fun i _=>l.length - (intOf i).toNat)
 case atStart=>exact ⟨0,rfl,Nat.zero_le _,Lib.hid (by simp),Below.refl _ _⟩
 case round =>
  obtain ⟨k,rfl,hk,hz,hB⟩:=hrel
  by_cases hlt:k < l.length
  ·obtain ⟨b,o,x,y,rfl,hx,hb,c1,c2⟩:=Bx.at (c:=0) (n:=0) hp hlt hB
   have hlk:(k:Int) < l.length:=by omega
   have HX:=Lib.hid hx
   have hbw:b < wr.heap.size:=Nat.lt_of_lt_of_le hb hB.size
   have hsz:=hB.size
   clear hp hx
   by_cases hV:VI x y
   ·have cv:=fun w=>iv_valid x y true w (by simp [hV])
    have HV:=Lib.hid hV
    clear hV
    go_wp2_with (fail)
    refine (cv _).mono ?_
    rintro e w5 ⟨rfl,hB5⟩
    go_wp2_with (fail)
    go_roundw
    case rel =>
     refine ⟨k+1,by go_num,by omega,?_,(hB.alloc hB.size _).trans (hB5.mono (by simp; omega))⟩
     intro p hp
     rw [List.take_add_one,HX.out] at hp
     rcases List.mem_append.1 hp with h | h
     ·exact hz.out p h
     ·have:p = (x,y):=by simpa using h
      rw [this]
      exact HV.out
    case measure=>simp [intOf]; omega
   ·have cv:=fun w=>iv_valid x y false w (by simp [hV])
    have HV:=Lib.hid hV
    clear hV
    go_wp2_with (fail)
    refine (cv _).mono ?_
    rintro e w5 ⟨rfl,hB5⟩
    go_wp2_with (fail)
    go_ret
    refine ⟨ret_bool ?_,(hB.alloc hB.size _).trans (hB5.mono (by simp; omega))⟩
    have:l.all (fun p=>decide (VI p.1 p.2)) = false:=by
     rw [Bool.eq_false_iff]
     intro h
     have:=List.all_eq_true.1 h (x,y) (List.mem_of_getElem? HX.out)
     exact HV.out (by simpa using this)
    rw [this]
    rfl
  ·obtain rfl:k = l.length:=by omega
   have hall:l.all (fun p=>decide (VI p.1 p.2)) = true:=by
    rw [List.all_eq_true]
    intro p hp
    have:=hz.out p (by rw [List.take_of_length_le (Nat.le_refl _)]; exact hp)
    simpa using this
   have HALL:=Lib.hid hall
   clear hall
   by_cases g1:1 ≤ l.length
   ·by_cases g2:l.length ≤ 6
    ·have i1:(1:Int) ≤ l.length:=by omega
     have i2:(l.length:Int) ≤ 6:=by omega
     go_wp2_with (fail)
     go_ret
     exact ⟨ret_bool (by simp [HALL.out,g1,g2] <;> omega),hB⟩
    ·have i1:(1:Int) ≤ l.length:=by omega
     have i2:(6:Int) < l.length:=by omega
     go_wp2_with (fail)
     go_ret
     exact ⟨ret_bool (by simp [HALL.out,g1,g2] <;> omega),hB⟩
   ·have i1:(l.length:Int) < 1:=by omega
    go_wp2_with (fail)
    go_ret
    exact ⟨ret_bool (by simp [HALL.out,g1]),hB⟩

end Go.Proofs.YtdfdpghdjlgghaaGreat
namespace Go.Proofs.YtdfdpghdjlgghaaGreat
set_option linter.unusedVariables false
set_option linter.unusedSimpArgs false
set_option maxRecDepth 100000
def Rep:Ex→List Is→Nat→Prop
 | .e0 x,T,k=>T[k]? = some ⟨x.op,x.n,0,x.lo,x.hi⟩
 | .e1 x a,T,k=>∃ i,Rep a T i∧T[k]? = some ⟨x.op,i,0,x.lo,x.hi⟩
 | .e2 x a b,T,k=>∃ i j,Rep a T i∧Rep b T j∧T[k]? = some ⟨x.op,i,j,x.lo,x.hi⟩
theorem idxI_at {T:List Is} {x:Is} (h:x ∈ T):T[idxI T x]? = some x:=by
 have hl:=idxI_mem.2 h
 rw [List.getElem?_eq_getElem hl]
 have:=List.findIdx_getElem (xs:=T) (p:=fun y=>decide (y = x)) (w:=hl)
 simp only [decide_eq_true_eq] at this
 exact congrArg some this
theorem nodup_at {T:List Is} (h:T.Nodup) {i j:Nat} {x:Is} (hi:T[i]? = some x) (hj:T[j]? = some x):i = j:=by
 obtain ⟨h1,h2⟩:=List.getElem?_eq_some_iff.1 hi
 obtain ⟨h3,h4⟩:=List.getElem?_eq_some_iff.1 hj
 exact (List.getElem_inj (h₀:=h1) (h₁:=h3) h).1 (h2.trans h4.symm)
theorem idxI_is {T:List Is} (h:T.Nodup) {k:Nat} {x:Is} (hx:T[k]? = some x):idxI T x = k:=nodup_at h (idxI_at (List.mem_of_getElem? hx)) hx
theorem rep_emit:∀ {t:Ex} {T:List Is} {k:Nat},T.Nodup→Rep t T k→emitT t T = (T,k)
 | .e0 x,T,k,h,hr=>by
  have hr:T[k]? = some _:=hr
  have e:=emitI_in (List.mem_of_getElem? hr)
  unfold emitT
  rw [e,idxI_is h hr]
 | .e1 x a,T,k,h,⟨i,h1,h2⟩=>by
  have e:=emitI_in (List.mem_of_getElem? h2)
  unfold emitT
  rw [rep_emit h h1,e,idxI_is h h2]
 | .e2 x a b,T,k,h,⟨i,j,h1,h2,h3⟩=>by
  have e:=emitI_in (List.mem_of_getElem? h3)
  unfold emitT
  rw [rep_emit h h1,rep_emit h h2,e,idxI_is h h3]
theorem rep_inj {t:Ex} {T:List Is} {k j:Nat} (h:T.Nodup) (hk:Rep t T k) (hj:Rep t T j):k = j:=by
 have:=(rep_emit h hk).symm.trans (rep_emit h hj)
 exact (Prod.mk.inj this).2
def VL (N:Int) (T:List Is):Prop:=∀ (k:Nat) (x:Is),T[k]? = some x→vinB k N x = true
def trL (L:List Is):Nat→Int→Ex
 | 0,_=>.e0 ⟨3,0,0,0⟩
 | f+1,i=>match L[i.toNat]? with
  | none=>.e0 ⟨3,0,0,0⟩
  | some x=>match opsI x with
   | [a]=>.e1 (ndI x) (trL L f a)
   | [a,b]=>.e2 (ndI x) (trL L f a) (trL L f b)
   | _=>.e0 (ndI x)
structure KM (L T:List Is) (M:Int→Option Nat):Prop where
 nd:T.Nodup
 of:∀ k:Nat,k < T.length→∃ i:Nat,i < L.length∧Rep (trL L L.length i) T k
 memo:∀ (j:Int) (k:Nat),M j = some k→Rep (trL L L.length j) T k
theorem pigeon:∀ (n m:Nat) (P:Nat→Nat→Prop),(∀ k,k < m→∃ i,i < n∧P k i)→(∀ k j i,P k i→P j i→k = j)→m ≤ n:=by
 intro n
 induction n with
 | zero =>
  intro m P h _
  cases m with
  | zero=>exact Nat.le_refl _
  | succ m=>obtain ⟨i,hi,_⟩:=h 0 (by omega); omega
 | succ n ih =>
  intro m P h hi
  by_cases hx:∃ k,k < m∧P k n
  ·obtain ⟨k,hk,hP⟩:=hx
   have:=ih (m - 1) (fun a i=>P (if a < k then a else a+1) i) (fun a ha=>by
    obtain ⟨i,h1,h2⟩:=h (if a < k then a else a+1) (by split <;> omega)
    refine ⟨i,?_,h2⟩
    rcases Nat.lt_or_ge i n with h3 | h3
    ·exact h3
    ·obtain rfl:i = n:=by omega
     have:=hi _ _ _ h2 hP
     split at this <;> omega) (fun a b i h1 h2=>by
    have:=hi _ _ _ h1 h2
    split at this <;> split at this <;> omega)
   omega
  ·exact Nat.le_trans (ih m P (fun k hk=>by
    obtain ⟨i,h1,h2⟩:=h k hk
    refine ⟨i,?_,h2⟩
    rcases Nat.lt_or_ge i n with h3 | h3
    ·exact h3
    ·obtain rfl:i = n:=by omega
     exact absurd ⟨k,hk,h2⟩ hx) hi) (Nat.le_succ n)
theorem KM.le {L T:List Is} {M:Int→Option Nat} (h:KM L T M):T.length ≤ L.length :=
 pigeon L.length T.length (fun k i=>Rep (trL L L.length i) T k) h.of (fun k j i h1 h2=>rep_inj h.nd h1 h2)
end Go.Proofs.YtdfdpghdjlgghaaGreat
namespace Go.Proofs.YtdfdpghdjlgghaaGreat
open Go.ChangeShapes Go.WideShapes Go.ChangeAt Go.RowKit Go.Maps
set_option linter.unusedVariables false
set_option linter.unusedSimpArgs false
set_option maxRecDepth 100000
attribute [local irreducible] Calls
theorem and255 (n:Int):bits .and .i64 n 255 = n % 256:=by
 have h127:(BitVec.ofInt 64 255).toNat = 2 ^ 8 - 1:=by decide
 have key:(BitVec.ofInt 64 n &&& BitVec.ofInt 64 255).toNat = (n % ((2 ^ 64:Nat):Int)).toNat % 2 ^ 8:=by
  rw [BitVec.toNat_and,BitVec.toNat_ofInt,h127,Nat.and_two_pow_sub_one_eq_mod]
 show IntKind.i64.wrap ((BitVec.ofInt 64 n &&& BitVec.ofInt 64 255).toNat:Nat) = n % 256
 rw [key,IntKind.wrap_i64]
 omega
theorem and65535 (n:Int):bits .and .i64 n 65535 = n % 65536:=by
 have h127:(BitVec.ofInt 64 65535).toNat = 2 ^ 16 - 1:=by decide
 have key:(BitVec.ofInt 64 n &&& BitVec.ofInt 64 65535).toNat = (n % ((2 ^ 64:Nat):Int)).toNat % 2 ^ 16:=by
  rw [BitVec.toNat_and,BitVec.toNat_ofInt,h127,Nat.and_two_pow_sub_one_eq_mod]
 show IntKind.i64.wrap ((BitVec.ofInt 64 n &&& BitVec.ofInt 64 65535).toNat:Nat) = n % 65536
 rw [key,IntKind.wrap_i64]
 omega
structure MdI (w:World) (n0:Int) (vl vo:Value) (N:Nat) (v r:Value) (L:List Is) (out:List Int) (W:World):Prop where
 c0:W.heap[w.heap.size]? = some (.cells #[.int .i64 n0,vl,vo] 35 (0,0))
 c1:W.heap[w.heap.size+1]? = some (.cells #[.int .i64 0,.slice none 0 0,.slice none 0 0] 35 (0,0))
 c2:W.heap[w.heap.size+2]? = some (.cells #[.int .i64 N,v,r] 35 (0,0))
 row:W.ownsRow (w.heap.size+3) 75 5 v L.length (cr encI L)
 ints:W.ownsRow (w.heap.size+3) 3 1 r out.length (cr enc1 out)
 bel:Below w.heap.size w W
 sz:w.heap.size+3 ≤ W.heap.size
section
variable {w W W':World} {n0:Int} {vl vo v r:Value} {N:Nat} {L:List Is} {out:List Int}
theorem MdI.grow (h:MdI w n0 vl vo N v r L out W) (hB:Below W.heap.size W W'):MdI w n0 vl vo N v r L out W':=by
 have hs:=h.sz
 exact ⟨(hB.block _ (by omega)).trans h.c0,(hB.block _ (by omega)).trans h.c1,(hB.block _ (by omega)).trans h.c2,own_keptN h.row hB,own_keptN h.ints hB,h.bel.trans (hB.mono h.bel.size),by have:=hB.size; omega⟩
theorem MdI.set (h:MdI w n0 vl vo N v r L out W) {X:Nat} {cs:Array Value} {z:Nat × Nat} (hX:W.heap[X]? = some (.cells cs 75 z)) (hw:w.heap.size+3 ≤ X) (hne:∀ g,v.ownBlock = some g→g ≠ X) (o:Nat) (y:Value):MdI w n0 vl vo N v r L out (W.setCell ⟨X,o,none⟩ y):=by
 have hg:=grownBy_setN W ⟨X,o,none⟩ y
 have hs:=h.sz
 have key:∀ k,k < w.heap.size+3→(W.setCell ⟨X,o,none⟩ y).heap[k]? = W.heap[k]?:=fun k hk=>hg.block k (by omega) (fun e=>by have:=Option.some.inj e; dsimp only at this; omega)
 exact ⟨(key _ (by omega)).trans h.c0,(key _ (by omega)).trans h.c1,(key _ (by omega)).trans h.c2,h.row.kept hg (own_ne hne),own_setT h.ints hX (by decide) o y,h.bel.setCell (p:=⟨X,o,none⟩) (by dsimp only; omega) y,Nat.le_trans hs hg.size⟩
theorem MdI.push (h:MdI w n0 vl vo N v r L out W) {x:Is} {p':Option Addr} {c':Nat} (ho:W'.ownsRow (w.heap.size+3) 75 5 (.slice p' (L.length+1) c') (L.length+1) (cr encI L ++ encI x)) (hg:W.grownBy W' v.ownBlock):MdI w n0 vl vo N (.slice p' (L.length+1) c') r (L ++ [x]) out (W'.setCell ⟨w.heap.size+2,1,none⟩ (.slice p' (L.length+1) c')):=by
 have hs:=h.sz
 have hne:∀ k,k < w.heap.size+3→some k ≠ v.ownBlock:=fun k hk e=>by have:=(h.row.lt k e.symm).1; omega
 have key:∀ k,k < w.heap.size+3→W'.heap[k]? = W.heap[k]?:=fun k hk=>hg.block k (by omega) (hne k hk)
 have hset:=grownBy_setN W' ⟨w.heap.size+2,1,none⟩ (.slice p' (L.length+1) c')
 have hsz:=hg.size
 have key2:∀ k,k < w.heap.size+2→(W'.setCell ⟨w.heap.size+2,1,none⟩ (.slice p' (L.length+1) c')).heap[k]? = W'.heap[k]?:=fun k hk=>hset.block k (by omega) (fun e=>by have:=Option.some.inj e; dsimp only at this; omega)
 have hrow:∀ {t:TypeId} {sz n:Nat} {u:Value} {xs:List Value},W'.ownsRow (w.heap.size+3) t sz u n xs→(W'.setCell ⟨w.heap.size+2,1,none⟩ (.slice p' (L.length+1) c')).ownsRow (w.heap.size+3) t sz u n xs:=fun hr=>hr.kept hset (own_ne fun g hg' e=>by have:=(hr.lt g hg').1; dsimp only at e; omega)
 refine ⟨(key2 _ (by omega)).trans ((key _ (by omega)).trans h.c0),(key2 _ (by omega)).trans ((key _ (by omega)).trans h.c1),cellsT_setN (o:=1) (u:=.slice p' (L.length+1) c') ((key _ (by omega)).trans h.c2),?_,hrow ?_,?_,?_⟩
 ·rw [List.length_append,cr_snoc]
  exact hrow ho
 ·exact row_app (by decide) h.ints h.row hg
 ·exact (h.bel.trans ⟨hg.os,hg.tape,hg.output,hg.size,fun k hk=>hg.block k (by have:=h.bel.size; omega) (hne k (by omega))⟩).setCell (p:=⟨w.heap.size+2,1,none⟩) (by dsimp only; omega) _
 ·exact Nat.le_trans hs (Nat.le_trans hsz hset.size)
theorem MdI.push1 (h:MdI w n0 vl vo N v r L out W) {x:Int} {p':Option Addr} {c':Nat} (ho:W'.ownsRow (w.heap.size+3) 3 1 (.slice p' (out.length+1) c') (out.length+1) (cr enc1 out ++ [.int .i64 x])) (hg:W.grownBy W' r.ownBlock):MdI w n0 vl vo N v (.slice p' (out.length+1) c') L (out ++ [x]) (W'.setCell ⟨w.heap.size+2,2,none⟩ (.slice p' (out.length+1) c')):=by
 have hs:=h.sz
 have hne:∀ k,k < w.heap.size+3→some k ≠ r.ownBlock:=fun k hk e=>by have:=(h.ints.lt k e.symm).1; omega
 have key:∀ k,k < w.heap.size+3→W'.heap[k]? = W.heap[k]?:=fun k hk=>hg.block k (by omega) (hne k hk)
 have hset:=grownBy_setN W' ⟨w.heap.size+2,2,none⟩ (.slice p' (out.length+1) c')
 have hsz:=hg.size
 have key2:∀ k,k < w.heap.size+2→(W'.setCell ⟨w.heap.size+2,2,none⟩ (.slice p' (out.length+1) c')).heap[k]? = W'.heap[k]?:=fun k hk=>hset.block k (by omega) (fun e=>by have:=Option.some.inj e; dsimp only at this; omega)
 have hrow:∀ {t:TypeId} {sz n:Nat} {u:Value} {xs:List Value},W'.ownsRow (w.heap.size+3) t sz u n xs→(W'.setCell ⟨w.heap.size+2,2,none⟩ (.slice p' (out.length+1) c')).ownsRow (w.heap.size+3) t sz u n xs:=fun hr=>hr.kept hset (own_ne fun g hg' e=>by have:=(hr.lt g hg').1; dsimp only at e; omega)
 refine ⟨(key2 _ (by omega)).trans ((key _ (by omega)).trans h.c0),(key2 _ (by omega)).trans ((key _ (by omega)).trans h.c1),cellsT_setN (o:=2) (u:=.slice p' (out.length+1) c') ((key _ (by omega)).trans h.c2),hrow ?_,?_,?_,?_⟩
 ·exact row_app (by decide) h.row h.ints hg
 ·rw [List.length_append,cr_snoc]
  exact hrow ho
 ·exact (h.bel.trans ⟨hg.os,hg.tape,hg.output,hg.size,fun k hk=>hg.block k (by have:=h.bel.size; omega) (hne k (by omega))⟩).setCell (p:=⟨w.heap.size+2,2,none⟩) (by dsimp only; omega) _
 ·exact Nat.le_trans hs (Nat.le_trans hsz hset.size)
end
end Go.Proofs.YtdfdpghdjlgghaaGreat
namespace Go.Proofs.YtdfdpghdjlgghaaGreat
open Go.ChangeShapes Go.WideShapes Go.ChangeAt Go.RowKit Go.Maps
set_option linter.unusedVariables false
set_option linter.unusedSimpArgs false
set_option maxRecDepth 100000
attribute [local irreducible] Calls
structure ExtO (bl bm mb:Nat) (u u':Value) (W W':World):Prop where
 size:W.heap.size ≤ W'.heap.size
 blk:∀ k,k < W.heap.size→k ≠ bl→k ≠ bm→k ≠ mb→some k ≠ u.ownBlock→W'.heap[k]? = W.heap[k]?
 own:∀ g,u'.ownBlock = some g→u.ownBlock = some g ∨ W.heap.size ≤ g
theorem MpI.at {mb n:Nat} {M:Int→Option Nat} {W W':World} (h:MpI mb n M W) (e:W'.heap[mb]? = W.heap[mb]?):MpI mb n M W':=by
 obtain ⟨D,⟨es,cl,hb,r1,r2,r3⟩,h2⟩:=h
 exact ⟨D,⟨es,cl,e.trans hb,r1,r2,r3⟩,h2⟩
theorem MpI.blk {mb n:Nat} {M:Int→Option Nat} {W:World} (h:MpI mb n M W):∃ es cl,W.heap[mb]? = some (.map es cl):=by
 obtain ⟨D,⟨es,cl,hb,_⟩,_⟩:=h
 exact ⟨es,cl,hb⟩
theorem ExtO.of {bl bm mb:Nat} {u:Value} {W W':World} (h:Below W.heap.size W W'):ExtO bl bm mb u u W W' :=
 ⟨h.size,fun k hk _ _ _ _=>h.block k hk,fun _ h=>.inl h⟩
theorem ExtO.trans {bl bm mb:Nat} {u u' u'':Value} {W W' W'':World} (h:ExtO bl bm mb u u' W W') (k:ExtO bl bm mb u' u'' W' W''):ExtO bl bm mb u u'' W W'' :=
 ⟨Nat.le_trans h.size k.size,fun j hj h1 h2 h4 h3=>(k.blk j (Nat.lt_of_lt_of_le hj h.size) h1 h2 h4 (fun e=>by
  rcases h.own j e.symm with h5 | h5
  ·exact h3 h5.symm
  ·omega)).trans (h.blk j hj h1 h2 h4 h3),fun g hg=>by
  rcases k.own g hg with h5 | h5
  ·exact h.own g h5
  ·exact .inr (Nat.le_trans h.size h5)⟩
end Go.Proofs.YtdfdpghdjlgghaaGreat
namespace Go.Proofs.YtdfdpghdjlgghaaGreat
open Go.ChangeShapes Go.WideShapes Go.ChangeAt Go.RowKit Go.Maps
set_option linter.unusedVariables false
set_option linter.unusedSimpArgs false
set_option maxRecDepth 100000
attribute [local irreducible] Calls
end Go.Proofs.YtdfdpghdjlgghaaGreat
namespace Go.Proofs.YtdfdpghdjlgghaaGreat
open Go.ChangeShapes Go.WideShapes Go.ChangeAt Go.RowKit Go.Maps
set_option linter.unusedVariables false
set_option linter.unusedSimpArgs false
set_option maxRecDepth 100000
attribute [local irreducible] Calls
theorem allocs_below:∀ (L:List Obj) (w:World),Below w.heap.size w (L.foldl World.alloc w)
 | [],w=>Below.refl _ _
 | o :: L,w=>below_then ((Below.refl _ _).alloc (Nat.le_refl _) _) (allocs_below L (w.alloc o))
theorem allocs_at:∀ (L:List Obj) (w:World) (i:Nat) (o:Obj),L[i]? = some o→(L.foldl World.alloc w).heap[w.heap.size+i]? = some o
 | [],w,i,o,h=>by simp at h
 | x :: L,w,0,o,h=>by
  simp at h
  subst h
  have hb:=allocs_below L (w.alloc x)
  exact (hb.block w.heap.size (by rw [alloc_sz]; omega)).trans (World.alloc_heap_new w x)
 | x :: L,w,i+1,o,h=>by
  have:=allocs_at L (w.alloc x) i o (by simpa using h)
  rw [alloc_sz] at this
  rw [show w.heap.size+(i+1) = w.heap.size+1+i by omega]
  exact this
def Blk (W:World) (b:Nat) (o:Obj):Prop:=W.heap[b]? = some o
theorem Blk.grow {W W':World} {b:Nat} {o:Obj} (h:Blk W b o) (hB:Below W.heap.size W W'):Blk W' b o:=(hB.block b (Array.getElem?_eq_some_iff.1 h).1).trans h
theorem rx_blk {α:Type} {enc:α→List Value} {sz:Nat} (hsz:∀ x,(enc x).length = sz) {W:World} {b n:Nat} {cs:Array Value} {t:TypeId} {l:List α} (h:Blk W b (.cells cs t (0,0))) (hc:cs.toList = cr enc l) (hn:l.length = n) (hl:l.length ≤ maxLen):Rx enc sz W (.slice (some ⟨b,0,none⟩) n n) l:=by
 subst hn
 refine ⟨hl,_,_,rfl,fun i x hx=>⟨b,0,rfl,(Array.getElem?_eq_some_iff.1 h).1,fun j u hu=>?_⟩⟩
 have hcr:=cr_get hsz i x hx j u hu
 rw [← hc,Array.getElem?_toList] at hcr
 rw [Nat.zero_add]
 exact heapN_cell h hcr
theorem point_at (x:Int) (w:World) (h1:mkLo x x = x) (h2:mkHi x x = x):Calls Tryz.prog 30 #[.int .i64 x] w fun e w'=>e = .returned (.agg #[.int .i64 x,.int .i64 x])∧Below w.heap.size w w':=by
 have h:=r2point x w
 rwa [h1,h2] at h
theorem eval_at (n:Int) (vl vo vx:Value) (t1 t2:Int) (L:List Is) (out:List Int) (X R:List (Int × Int)) (w:World) (hl:Ix w vl L) (ho:Px w vo out) (hx:Vx w vx X) (hn:(X.length:Int) = n) (htv:tvB n L out = true) (hN1:NmL L) (hvx:∀ p ∈ X,VI p.1 p.2) (hvt:VI t1 t2) (hR:outV (evL X (t1,t2) L) out = R) :
  Calls Tryz.prog 162 #[.agg #[.int .i64 n,vl,vo],vx,.agg #[.int .i64 t1,.int .i64 t2]] w fun e w'=>∃ u,e = .returned u∧Vx w' u R∧Below w.heap.size w w':=by
 subst hn hR
 exact eval_ok vl vo vx t1 t2 L out X w hl ho hx htv hN1 hvx hvt
end Go.Proofs.YtdfdpghdjlgghaaGreat
namespace Go.Proofs.YtdfdpghdjlgghaaGreat
open Go.ChangeShapes Go.WideShapes Go.ChangeAt Go.RowKit Go.Maps
set_option linter.unusedVariables false
set_option linter.unusedSimpArgs false
set_option maxRecDepth 100000
attribute [local irreducible] Calls
end Go.Proofs.YtdfdpghdjlgghaaGreat
namespace Go.Proofs.YtdfdpghdjlgghaaGreat
open Go.ChangeShapes Go.WideShapes Go.ChangeAt Go.RowKit
set_option linter.unusedVariables false
set_option linter.unusedSimpArgs false
set_option maxRecDepth 100000
section
variable {H:Type} {enc:TypeId × Value→H} {w:World} {base:Nat} {spare:Nat→Bool} {held:Bool}
theorem wf64t {x:Int} (h:(Lit.int .i64 x).wf = true):-9223372036854775808 ≤ x∧x ≤ 9223372036854775807:=by
 have a:=bounds_i64 h
 exact ⟨a.1,by have:=a.2; omega⟩
end
end Go.Proofs.YtdfdpghdjlgghaaGreat
