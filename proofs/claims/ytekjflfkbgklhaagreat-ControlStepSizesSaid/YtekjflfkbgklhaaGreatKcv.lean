/-
 Hull Loop
-/
import Derived.Test.YtekjflfkbgklhaaGreatKcc
import Derived.Test.YtekjflfkbgklhaaGreatKcf
import Derived.Test.YtekjflfkbgklhaaGreatKct
import Derived.Test.YtekjflfkbgklhaaGreatKcu
import Derived.Maps.AppendAt
namespace Go.Proofs.YtekjflfkbgklhaaGreat
open Go.ChangeShapes Go.WideShapes Go.ChangeAt Go.RowKit Go.Shelf
set_option linter.unusedVariables false
set_option linter.unusedSimpArgs false
set_option maxRecDepth 100000
attribute [local go_sem] Oper.semAt_some
def cz:List (Int × Int)→List Value
 | []=>[]
 | p :: l=>.int .i64 p.1 :: .int .i64 p.2 :: cz l
theorem cz_app:∀ (l m:List (Int × Int)),cz (l ++ m) = cz l ++ cz m
 | [],_=>rfl
 | p :: l,m=>by simp [cz,cz_app l m]
theorem cz_len:∀ (l:List (Int × Int)),(cz l).length = l.length * 2
 | []=>rfl
 | p :: l=>by simp [cz,cz_len l]; omega
theorem cz_get:∀ (l:List (Int × Int)) (k:Nat) (x:Int × Int),l[k]? = some x→(cz l)[k * 2]? = some (.int .i64 x.1)∧(cz l)[k * 2+1]? = some (.int .i64 x.2)
 | [],k,x,h=>by simp at h
 | p :: l,0,x,h=>by simp at h; subst h; simp [cz]
 | p :: l,k+1,x,h=>by
  have:=cz_get l k x (by simpa using h)
  rw [show (k+1) * 2 = k * 2+1+1 by omega]
  simpa [cz] using this
theorem Bx.own {W:World} {B:Nat} {v:Value} {l:List (Int × Int)} (h:W.ownsRow B 59 2 v l.length (cz l)) (hl:l.length ≤ maxLen):Bx W v l:=by
 rcases h.2 with ⟨rfl,h0⟩ | ⟨g,cap,cur,rfl,hb,hg,hrest⟩
 ·have:l = []:=List.length_eq_zero_iff.1 h0
  subst this
  exact Bx.nil
 ·refine ⟨hl,_,cap,rfl,fun k x hx=>⟨g,0,rfl,(Array.getElem?_eq_some_iff.1 hg).1,?_,?_⟩⟩
  ·have hk:=(List.getElem?_eq_some_iff.1 hx).1
   rw [Nat.zero_add,h.cellAt (k * 2) (by omega)]
   exact (cz_get l k x hx).1
  ·have hk:=(List.getElem?_eq_some_iff.1 hx).1
   rw [Nat.zero_add,h.cellAt (k * 2+1) (by omega)]
   exact (cz_get l k x hx).2
theorem info_iv:(Tryz.prog.info? 59).map (fun i=>(i.zero,i.size,i.bytes)) = some (some (.agg #[.int .i64 0,.int .i64 0]),2,16):=by kernel_rfl
theorem two_one (x y:Int):∀ u ∈ [Value.int .i64 x,Value.int .i64 y],u.oneCell' = true:=by
 intro u hu
 simp at hu
 rcases hu with rfl | rfl <;> rfl

theorem two_box {W:World} {b:Nat} {p:Int × Int} (h:IvBox W b p):∀ j u,[Value.int .i64 p.1,Value.int .i64 p.2][j]? = some u→W.cell? ((⟨b,0,none⟩:Addr).add j) = some u:=by
 intro j u hj
 match j,hj with
 | 0,hj=>simp at hj; subst hj; simpa [Addr.add] using h.cell0
 | 1,hj=>simp at hj; subst hj; simpa [Addr.add] using h.cell1
theorem appended {W w1:World} {n₀ B:Nat} {t e:TypeId} {size:Nat} {v v':Value} {k m:Nat} {xs ys:List Value}
  (hv:Boxed W B t v) (hte:t ≠ e) (hrow:W.ownsRow n₀ e size v k xs) (hn₀:n₀ ≤ W.heap.size) (hB:n₀ ≤ B)
  (hown':w1.ownsRow n₀ e size v' m ys) (hgrow:W.grownBy w1 v.ownBlock) :
  Boxed w1 B t v∧Boxed (w1.setCell ⟨B,0,none⟩ v') B t v'∧(w1.setCell ⟨B,0,none⟩ v').ownsRow n₀ e size v' m ys∧KeepsOthers W (w1.setCell ⟨B,0,none⟩ v')∧Below n₀ W (w1.setCell ⟨B,0,none⟩ v'):=by
 have hv1:Boxed w1 B t v:=hv.kept hgrow (hv.not_row hte hrow)
 refine ⟨hv1,hv1.set v',hown'.kept (grownBy_setCell' w1 B v') (.inr (hv1.not_row hte hown').symm),?_,?_⟩
 ·refine (KeepsOthers.of_grownBy hgrow fun j o ej hj=>?_).trans (KeepsOthers.setCell _ _ _)
  rcases hrow.2 with ⟨rfl,_⟩ | ⟨g,cap,cur,rfl,_,hgb,_⟩
  ·simp [Value.ownBlock] at ej
  ·obtain rfl:g = j:=by simpa [Value.ownBlock] using ej
   rw [hgb] at hj; cases hj; rfl
 ·refine ((Below.refl n₀ W).grown hgrow hn₀ fun j ej=>?_).setCell (p:=⟨B,0,none⟩) hB v'
  rcases hrow.2 with ⟨rfl,_⟩ | ⟨g,cap,cur,rfl,hb,_,_⟩
  ·simp [Value.ownBlock] at ej
  ·obtain rfl:g = j:=by simpa [Value.ownBlock] using ej
   exact hb

def hullI (z:(Int × Int) × (Int × Int)):Int × Int:=(min z.1.1 z.2.1,max z.1.2 z.2.2)

set_option maxHeartbeats 4000000 in
theorem hull_in (n:Nat) (hn:3 ≤ n) (va vb:Value) (la lb:List (Int × Int)) (w:World) (hva:Bx w va la) (hvb:Bx w vb lb) (hlen:lb.length = la.length) (hv:∀ z ∈ la.zip lb,VB z.1∧VB z.2) (hsm:la.length ≤ 1000) :
  CallsIn Fence.wide n Tryz.prog 115 #[va,vb] w fun e W'=>∃ v,e = .returned v∧Bx W' v ((la.zip lb).map hullI)∧Below w.heap.size w W':=by
 have h1:1 ≤ n:=by omega
 have HA:=Lib.hid hva
 have HB:=Lib.hid hvb
 obtain ⟨zs,hzs⟩:∃ zs:List VP,zs.map Subtype.val = la.zip lb:=⟨vps _ hv,vps_map _ hv⟩
 have hzl:zs.length ≤ 1000:=by rw [← List.length_map (f:=Subtype.val),hzs,List.length_zip]; omega
 obtain ⟨hl,p,c,rfl,hp⟩:=hva
 obtain ⟨hm,q,d,rfl,hq⟩:=hvb
 clear hp hq hl hm hv
 rw [hlen] at HB ⊢
 rw [← hzs]
 obtain ⟨i0,hi,hz0,hz1,hz2⟩:=info_parts info_iv
 obtain ⟨W1,hW1⟩:∃ W1,w.alloc (.cells (madeCells (Value.agg #[.int .i64 0,.int .i64 0]).cells (la.length * 2)) 59) = W1:=⟨_,rfl⟩
 have hmk:(Instr.makeSlice 25 (.int .i64 0) (.int .i64 (la.length:Int))).run Tryz.prog w = .ok (.slice (some ⟨w.heap.size,0,none⟩) 0 la.length) W1:=by
  have:=run_make (P:=Tryz.prog) w 25 59 i0 _ Tryz.underlying25 hi hz0 .i64 .i64 0 la.length (Int.le_refl _) (by omega) (by rw [hz2]; omega) (by omega)
  rw [hz1] at this
  simpa [hW1] using this
 have hrow0:W1.ownsRow w.heap.size 59 2 (.slice (some ⟨w.heap.size,0,none⟩) 0 la.length) 0 []:=by
  rw [← hW1]
  exact World.ownsRow_made w _ la.length (Nat.le_refl _) (by unfold maxLen; omega) (size_madeCells _ _)
 have hs1:W1.heap.size = w.heap.size+1:=by rw [← hW1]; simp
 have hB1:Below w.heap.size w W1:=by rw [← hW1]; exact (Below.refl _ w).alloc (Nat.le_refl _) _
 clear hW1
 refine callsIn_of_wp_marks Tryz.func115 rfl trivial ?_ rfl
 simp only [Tryz.ntmps115,List.size_toArray,List.length_cons,List.length_nil,Nat.reduceAdd,Nat.reduceSub,Array.replicate_succ,Array.replicate_zero,List.push_toArray,List.append_toArray,List.nil_append,List.cons_append]
 gi_wp2_with (refine ⟨trivial,?_⟩; gi_at_call 138; refine (pairs_in (n - 1) _ _ _ _ _ _ _).mono ?_; rintro e w' ⟨rfl,rfl⟩)
 have b1:=((Boxed.new W1 25 (.slice (some ⟨w.heap.size,0,none⟩) 0 la.length)).alloc (.cells #[.slice p la.length c] 25)).alloc (.cells #[.slice q la.length d] 25)
 have b2:=(Boxed.new (W1.alloc (.cells #[.slice (some ⟨w.heap.size,0,none⟩) 0 la.length] 25)) 25 (.slice p la.length c)).alloc (.cells #[.slice q la.length d] 25)
 have b3:=Boxed.new ((W1.alloc (.cells #[.slice (some ⟨w.heap.size,0,none⟩) 0 la.length] 25)).alloc (.cells #[.slice p la.length c] 25)) 25 (.slice q la.length d)
 have hrow1:=((hrow0.alloc (.cells #[.slice (some ⟨w.heap.size,0,none⟩) 0 la.length] 25)).alloc (.cells #[.slice p la.length c] 25)).alloc (.cells #[.slice q la.length d] 25)
 have hB0:Below w.heap.size w (((W1.alloc (.cells #[.slice (some ⟨w.heap.size,0,none⟩) 0 la.length] 25)).alloc (.cells #[.slice p la.length c] 25)).alloc (.cells #[.slice q la.length d] 25)):=((hB1.alloc hB1.size _).alloc (by simp; omega) _).alloc (by simp; omega) _
 have hsz:(((W1.alloc (.cells #[.slice (some ⟨w.heap.size,0,none⟩) 0 la.length] 25)).alloc (.cells #[.slice p la.length c] 25)).alloc (.cells #[.slice q la.length d] 25)).heap.size = w.heap.size+4:=by simp; omega
 simp only [World.size_alloc,hs1] at b1 b2 b3 ⊢
 obtain ⟨W0,hW0⟩:∃ W0,(((W1.alloc (.cells #[.slice (some ⟨w.heap.size,0,none⟩) 0 la.length] 25)).alloc (.cells #[.slice p la.length c] 25)).alloc (.cells #[.slice q la.length d] 25)) = W0:=⟨_,rfl⟩
 rw [hW0] at b1 b2 b3 hrow1 hB0 hsz ⊢
 clear hW0 hrow0 hmk hs1 hB1
 refine wpIn_rangeFunc_ownH rfl h1 (gf:=156) (lb:=#[.pointer (some ⟨w.heap.size+1+1,0,none⟩),.pointer (some ⟨w.heap.size+1+1+1,0,none⟩)]) rfl trivial (enters_of Tryz.func156 (by kernel_rfl) rfl)
  (pairs_stopsv (n - 1) (by omega) (w.heap.size+1+1) (w.heap.size+1+1+1) _ _ la lb w W0 HA.out (by have:=HB.out; exact this) hlen hB0 b2 b3 Subtype.val zs hzs) KpB.trans (fun W l o o' hl ho hoc _=>kpb_put (by omega) (by omega) (by omega)) (Below.refl _ _) (fun _=>rfl)
  (fun pre W=>((∃ v,Boxed W (w.heap.size+1) 25 v∧W.ownsRow w.heap.size 59 2 v pre.length (cz ((pre.map Subtype.val).map hullI))∧True)∧Boxed W (w.heap.size+1+1) 25 (.slice p la.length c)∧Boxed W (w.heap.size+1+1+1) 25 (.slice q la.length d))∧Below w.heap.size w W)
  (fun _ _ _=>False)
  (OwnFrom.and (OwnFrom.and (Own.from (holdsRow_own w.heap.size (w.heap.size+1) 25 59 2 (fun pre:List VP=>pre.length) (fun pre=>cz ((pre.map Subtype.val).map hullI)) (fun _ _=>True)) _) (fun s A B row hs hg hr=>⟨own_block hg hr hs.1,own_block hg hr hs.2⟩)) (ownFrom_below (Nat.le_refl _) (by omega)))
  (fun _ _ _ _ _ hs _ _=>hs)
  ⟨⟨⟨_,b1,hrow1,trivial⟩,b2,b3⟩,hB0⟩
  (fun z a' W=>∃ X Y,IvBox W X z.1.1∧IvBox W Y z.1.2∧a' = { tmps:=#[.slice p la.length c,.slice q la.length d,undef,undef,.slice none 0 0,.pointer (some ⟨w.heap.size+1,0,none⟩),.pointer (some ⟨X,0,none⟩),.pointer (some ⟨Y,0,none⟩),.slice p la.length c,.int .i64 la.length,.slice (some ⟨w.heap.size,0,none⟩) 0 la.length,.slice p la.length c,.slice q la.length d,.func (.func 156) #[] #[.pointer (some ⟨w.heap.size+1+1,0,none⟩),.pointer (some ⟨w.heap.size+1+1+1,0,none⟩)],.agg #[.int .i64 z.1.1.1,.int .i64 z.1.1.2],.agg #[.int .i64 z.1.2.1,.int .i64 z.1.2.2],undef,undef,undef,undef,undef,undef,undef],defers:=[] })
  (fun z a' _ A B row hs hg hr=>by obtain ⟨X,Y,h1,h2,h3⟩:=hs; exact ⟨X,Y,own_block hg hr h1,own_block hg hr h2,h3⟩) ?assign ?body ?done ?stop
 case assign =>
  rintro l pre ⟨⟨⟨x1,y1⟩,⟨x2,y2⟩⟩,hz⟩ W K hI hK
  simp only [iva]
  gi_wp2
  obtain ⟨⟨⟨v,i2,i3,_⟩,i4,i5⟩,i6⟩:=hI
  refine hK _ _ (((KeepsOthers.alloc _ _).trans (KeepsOthers.alloc _ _)).from _) ⟨((Below.refl _ W).alloc i6.size _).alloc (by have:=i6.size; simp; omega) _,((i4.alloc _).alloc _).trans i4.symm,((i5.alloc _).alloc _).trans i5.symm⟩
   ⟨⟨⟨v,(i2.alloc _).alloc _,(i3.alloc _).alloc _,trivial⟩,(i4.alloc _).alloc _,(i5.alloc _).alloc _⟩,(i6.alloc i6.size _).alloc (by have:=i6.size; simp; omega) _⟩ ⟨W.heap.size,W.heap.size+1,(IvBox.new W x1 y1).alloc _,?_,rfl⟩
  have:=IvBox.new (W.alloc (.cells #[.int .i64 x1,.int .i64 y1] 59)) x2 y2
  rw [World.size_alloc] at this
  exact this
 case body =>
  rintro l pre ⟨⟨⟨x1,y1⟩,⟨x2,y2⟩⟩,hz⟩ a' W hl ⟨r,hr⟩ ⟨⟨⟨v,c1,crow,_⟩,c2,c3⟩,hB⟩ ⟨X,Y,hX,hY,rfl⟩ hlt
  have hV1:VI x1 y1:=hz.1
  have hV2:VI x2 y2:=hz.2
  have k1:=fun w=>iv_hull x1 y1 x2 y2 w hV1 hV2
  have hsn:cz (((pre ++ [⟨((x1,y1),(x2,y2)),hz⟩]:List VP).map Subtype.val).map hullI) = cz ((pre.map Subtype.val).map hullI) ++ [.int .i64 (min x1 x2),.int .i64 (max y1 y2)]:=by
   rw [List.map_append,List.map_append,cz_app]
   rfl
  have HS:=Lib.hid hsn
  have hpl:pre.length ≤ 1000:=by omega
  clear hsn hzl
  have lX:=hX.lt
  have lY:=hY.lt
  have l1:=c1.lt
  have x0':=hX.cell0
  have x1':=hX.cell1
  have y0':=hY.cell0
  have y1':=hY.cell1
  have v0':=c1.cell
  dsimp only at x0' x1' y0' y1'
  gi_wp2
  refine region_pred_in (F:=Fence.wide.inRound l) 5 (lk [(16,fun u _=>u = v),(17,fun u _=>u = .agg #[.int .i64 x1,.int .i64 y1]),(18,fun u _=>u = .agg #[.int .i64 x2,.int .i64 y2]),(19,fun u _=>u = .agg #[.int .i64 (min x1 x2),.int .i64 (max y1 y2)]),
   (20,fun u w'=>∃ b,u = .slice (some ⟨b,0,none⟩) 1 1∧W.heap.size ≤ b∧IvBox w' b (min x1 x2,max y1 y2))]) (round_fn l) rfl (round_call l) (by kernel_rfl) (by kernel_rfl) ?_ ?_ ?_
  ·exact lk_steady _ ⟨steady_eq _,steady_eq _,steady_eq _,steady_eq _,fun u w1 w2 hb ⟨b,h1,h2,h3⟩=>⟨b,h1,h2,(hb.block b h3.lt).trans h3⟩,trivial⟩
  ·refine ⟨?_,?_,?_,?_,?_,trivial⟩
   ·refine ob_plain [5] rfl rfl fun a g h=>?_
    have e5:=getD_of (seen_out (v:=.pointer (some ⟨w.heap.size+1,0,none⟩)) rfl rfl h.1)
    simp [uponP,meets,lk,go_sem,e5,(g.cell (o:=0) l1).trans v0']
    exact Below.refl _ _
   ·refine ob_plain [6] rfl rfl fun a g h=>?_
    have e5:=getD_of (seen_out (v:=.pointer (some ⟨X,0,none⟩)) rfl rfl h.1)
    simp [uponP,meets,lk,go_sem,e5,(g.cell (o:=0) lX).trans x0',(g.cell (o:=1) lX).trans x1']
    exact Below.refl _ _
   ·refine ob_plain [7] rfl rfl fun a g h=>?_
    have e5:=getD_of (seen_out (v:=.pointer (some ⟨Y,0,none⟩)) rfl rfl h.1)
    simp [uponP,meets,lk,go_sem,e5,(g.cell (o:=0) lY).trans y0',(g.cell (o:=1) lY).trans y1']
    exact Below.refl _ _
   ·refine ob_plain [17,18] rfl rfl fun a g h=>?_
    obtain ⟨_,e5,rfl⟩:=seen_in rfl h.1
    obtain ⟨_,e6,rfl⟩:=seen_in rfl h.2.1
    have e5:=getD_of e5
    have e6:=getD_of e6
    simp [uponP,meets,lk,go_sem,e5,e6]
    exact k1 g.w
   ·refine ob_plain [19] rfl rfl fun a g h=>?_
    obtain ⟨_,r5,rfl⟩:=seen_in rfl h.1
    have e5:=getD_of r5
    simp [uponP,meets,lk,go_sem,e5,r5]
    exact ⟨(Below.refl _ _).alloc (Nat.le_refl _) _,g.h.size,IvBox.new _ _ _⟩
  ·intro w5 hB5
   rintro v rfl _ rfl _ rfl _ rfl _ ⟨b,rfl,hbW,hbx⟩
   simp only [Act.put,List.setIfInBounds_toArray,List.set_cons_succ,List.set_cons_zero,finP,List.drop_succ_cons,List.drop_zero]
   have d1:Boxed w5 (w.heap.size+1) 25 v:=(hB5.block _ c1.lt).trans c1
   have d2:Boxed w5 (w.heap.size+1+1) 25 _:=(hB5.block _ c2.lt).trans c2
   have d3:Boxed w5 (w.heap.size+1+1+1) 25 _:=(hB5.block _ c3.lt).trans c3
   have drow:w5.ownsRow w.heap.size 59 2 v pre.length _:=crow.kept (grown_below hB5) (by cases v.ownBlock with | none=>exact .inl rfl | some k=>exact .inr (by simp))
   have hK5:∀ B,KeepsFrom B W w5:=fun _=>⟨hB5.size,fun k o _ hk _=>(hB5.block k (Array.getElem?_eq_some_iff.1 hk).1).trans hk⟩
   have hB':Below w.heap.size w w5:=hB.trans (hB5.mono hB.size)
   have hle:w.heap.size ≤ w5.heap.size:=hB'.size
   have hb5:=hB5.mono hB.size
   clear hB5 crow v0'
   generalize cz ((pre.map Subtype.val).map hullI) = cs at *
   refine wpListIn_append_own _ rfl (.tmp 16) (.tmp 20) 25 rfl w.heap.size 59 i0 (.agg #[.int .i64 0,.int .i64 0]) 2 16 Tryz.underlying25 hi hz0 hz1 hz2 rfl (by decide) v pre.length cs rfl drow ⟨b,0,none⟩ 1 1 [.int .i64 (min x1 x2),.int .i64 (max y1 y2)] rfl rfl (two_box hbx) (two_one _ _) (by unfold maxLen; omega) (by omega) hle ?_
   intro v' w6 hown' hgrow _
   obtain ⟨g',cap',rfl⟩:=ownsRow_succ hown'
   obtain ⟨hv1,hv2,hr2,hk2,hb2⟩:=appended d1 (by decide) drow hle (Nat.le_succ _) hown' hgrow
   have hc1:=hv1.cell
   have hf1:=hv1.frozen
   have g2:Boxed w6 (w.heap.size+1+1) 25 _:=d2.kept hgrow (d2.not_row (by decide) drow)
   have g3:Boxed w6 (w.heap.size+1+1+1) 25 _:=d3.kept hgrow (d3.not_row (by decide) drow)
   simp only [Act.put,List.setIfInBounds_toArray,List.set_cons_succ,List.set_cons_zero]
   gi_wp2
   have g2':=g2.other (B':=w.heap.size+1) (by omega) (.slice (some ⟨g',0,none⟩) (pre.length+1) cap')
   have g3':=g3.other (B':=w.heap.size+1) (by omega) (.slice (some ⟨g',0,none⟩) (pre.length+1) cap')
   exact ⟨(hK5 _).trans (hk2.from _),⟨hb5.trans hb2,g2'.trans c2.symm,g3'.trans c3.symm⟩,⟨⟨_,hv2,by rw [HS.out]; simpa using hr2,trivial⟩,g2',g3'⟩,hB'.trans hb2⟩
 case done =>
  rintro D ys W hD rfl ⟨⟨⟨v,c1,crow,_⟩,c2,c3⟩,hB⟩ hK
  have hc:=c1.cell
  gi_wp2
  refine ⟨by simp,.inl ⟨_,_,rfl,run_takeDeferred hK,?_⟩⟩
  refine ⟨_,results_tmp rfl _ _ _,v,rfl,?_,hB.trans (belowK_b (w:=w) (Nat.le_refl _) W D _ _ (by omega) hK rfl rfl)⟩
  exact Bx.own (by simpa using ownsRow_putObj crow _ hK rfl) (by simp; unfold maxLen; omega)
 case stop =>
  rintro D k pre W hD hpre h _
  exact h.elim
end Go.Proofs.YtekjflfkbgklhaaGreat
namespace Go.Proofs.YtekjflfkbgklhaaGreat
open Go.ChangeShapes Go.WideShapes Go.ChangeAt Go.RowKit
set_option linter.unusedVariables false
set_option linter.unusedSimpArgs false
set_option maxRecDepth 100000
attribute [local irreducible] Calls
open Go.BigFrame
attribute [local go_sem ↓] run_max_two run_min_two run_max_three
set_option maxHeartbeats 1000000 in
theorem box_valid (v:Value) (l:List (Int × Int)) (w:World) (hv:Bx w v l) :
  Calls Tryz.prog 118 #[v] w fun e w'=>e = .returned (.bool (l.all (fun p=>decide (VI p.1 p.2)) && (decide (1 ≤ l.length) && decide (l.length ≤ 6))))∧Below w.heap.size w w':=by
 obtain ⟨hl,p,c,rfl,hp⟩:=hv
 unfold maxLen at hl
 go_enter Tryz.func118,Tryz.ntmps118
 go_wp2_with (fail)
 go_loopw [7] (fun i wr=>∃ k:Nat,i = .int .i64 k∧k ≤ l.length∧Hid (∀ p ∈ l.take k,VI p.1 p.2)∧Below w.heap.size w wr) (fun i _=>l.length - (intOf i).toNat)
 case atStart=>exact ⟨0,rfl,Nat.zero_le _,Lib.hid (by simp),Below.refl _ _⟩
 case round =>
  obtain ⟨k,rfl,hk,hz,hB⟩:=hrel
  by_cases hlt:k < l.length
  ·obtain ⟨b,o,x,y,rfl,hx,hb,c1,c2⟩:=Bx.at (c:=0) (n:=0) hp hlt hB
   have hlk:(k:Int) < l.length:=by omega
   have HX:=Lib.hid hx
   have hbw:b < wr.heap.size:=Nat.lt_of_lt_of_le hb hB.size
   have hsz:=hB.size
   clear hp hx
   by_cases hV:VI x y
   ·have cv:=fun w=>iv_valid x y true w (by simp [hV])
    have HV:=Lib.hid hV
    clear hV
    go_wp2_with (fail)
    refine (cv _).mono ?_
    rintro e w5 ⟨rfl,hB5⟩
    go_wp2_with (fail)
    go_roundw
    case rel =>
     refine ⟨k+1,by go_num,by omega,?_,(hB.alloc hB.size _).trans (hB5.mono (by simp; omega))⟩
     intro p hp
     rw [List.take_add_one,HX.out] at hp
     rcases List.mem_append.1 hp with h | h
     ·exact hz.out p h
     ·have:p = (x,y):=by simpa using h
      rw [this]
      exact HV.out
    case measure=>simp [intOf]; omega
   ·have cv:=fun w=>iv_valid x y false w (by simp [hV])
    have HV:=Lib.hid hV
    clear hV
    go_wp2_with (fail)
    refine (cv _).mono ?_
    rintro e w5 ⟨rfl,hB5⟩
    go_wp2_with (fail)
    go_ret
    refine ⟨ret_bool ?_,(hB.alloc hB.size _).trans (hB5.mono (by simp; omega))⟩
    have:l.all (fun p=>decide (VI p.1 p.2)) = false:=by
     rw [Bool.eq_false_iff]
     intro h
     have:=List.all_eq_true.1 h (x,y) (List.mem_of_getElem? HX.out)
     exact HV.out (by simpa using this)
    rw [this]
    rfl
  ·obtain rfl:k = l.length:=by omega
   have hall:l.all (fun p=>decide (VI p.1 p.2)) = true:=by
    rw [List.all_eq_true]
    intro p hp
    have:=hz.out p (by rw [List.take_of_length_le (Nat.le_refl _)]; exact hp)
    simpa using this
   have HALL:=Lib.hid hall
   clear hall
   by_cases g1:1 ≤ l.length
   ·by_cases g2:l.length ≤ 6
    ·have i1:(1:Int) ≤ l.length:=by omega
     have i2:(l.length:Int) ≤ 6:=by omega
     go_wp2_with (fail)
     go_ret
     exact ⟨ret_bool (by simp [HALL.out,g1,g2] <;> omega),hB⟩
    ·have i1:(1:Int) ≤ l.length:=by omega
     have i2:(6:Int) < l.length:=by omega
     go_wp2_with (fail)
     go_ret
     exact ⟨ret_bool (by simp [HALL.out,g1,g2] <;> omega),hB⟩
   ·have i1:(l.length:Int) < 1:=by omega
    go_wp2_with (fail)
    go_ret
    exact ⟨ret_bool (by simp [HALL.out,g1]),hB⟩

end Go.Proofs.YtekjflfkbgklhaaGreat
