/-
 Every Sqd
-/
import Derived.Test.YtdfdpghdjlgghaaGreatKdh
import Derived.Test.YtdfdpghdjlgghaaGreatKdk
import Derived.Test.YtdfdpghdjlgghaaGreatKdn
namespace Go.Proofs.YtdfdpghdjlgghaaGreat
open Go.ChangeShapes Go.WideShapes Go.ChangeAt Go.RowKit Go.Shelf
set_option linter.unusedVariables false
set_option linter.unusedSimpArgs false
set_option maxRecDepth 100000
attribute [local go_sem] Oper.semAt_some
def IvBox (W:World) (b:Nat) (p:Int × Int):Prop:=W.heap[b]? = some (.cells #[.int .i64 p.1,.int .i64 p.2] 66 (0,0))
theorem IvBox.lt {W:World} {b:Nat} {p:Int × Int} (h:IvBox W b p):b < W.heap.size:=(Array.getElem?_eq_some_iff.1 h).1
theorem IvBox.new (W:World) (x y:Int):IvBox (W.alloc (.cells #[.int .i64 x,.int .i64 y] 66)) W.heap.size (x,y):=World.alloc_heap_new W _
theorem IvBox.alloc {W:World} {b:Nat} {p:Int × Int} (h:IvBox W b p) (o:Obj):IvBox (W.alloc o) b p:=(Below.heap_alloc W o b h.lt).trans h
theorem IvBox.cell0 {W:World} {b:Nat} {p:Int × Int} (h:IvBox W b p):W.cell? ⟨b,0,none⟩ = some (.int .i64 p.1):=by simp [World.cell?,show W.heap[b]? = _ from h]
theorem IvBox.cell1 {W:World} {b:Nat} {p:Int × Int} (h:IvBox W b p):W.cell? ⟨b,1,none⟩ = some (.int .i64 p.2):=by simp [World.cell?,show W.heap[b]? = _ from h]
theorem own_block {B:Nat} {W W':World} {row:Option Nat} (hg:W.grownBy W' row) (hr:∀ r,row = some r→B ≤ r∧∃ o:Obj,W.heap[r]? = some o∧o.isCells = false) {b:Nat} {cs:Array Value} {t:TypeId} {z:Nat × Nat} (h:W.heap[b]? = some (.cells cs t z)):W'.heap[b]? = some (.cells cs t z) :=
 (hg.block b (Array.getElem?_eq_some_iff.1 h).1 (fun e=>by
  obtain ⟨_,o,ho,hc⟩:=hr b e.symm
  rw [h] at ho
  rw [← Option.some.inj ho] at hc
  cases hc)).trans h

theorem kpb_put {n₀ x y:Nat} {W:World} {l:Nat} {o':Obj} (h:n₀ ≤ l) (hx:x < l) (hy:y < l):KpB n₀ x y W (W.putObj l o') :=
 have hg:=grownBy_putObj' W l o'
 ⟨⟨hg.os,hg.tape,hg.output,hg.size,fun k hk=>World.putObj_heap_other (by omega)⟩,World.putObj_heap_other (by omega),World.putObj_heap_other (by omega)⟩

def sub1 (z:(Int × Int) × (Int × Int)):Bool:=decide (z.2.1 ≤ z.1.1) && decide (z.1.2 ≤ z.2.2)

set_option maxHeartbeats 4000000 in
theorem every_sub_in (n:Nat) (hn:3 ≤ n) (va vb:Value) (la lb:List (Int × Int)) (w:World) (hva:Bx w va la) (hvb:Bx w vb lb) (hlen:lb.length = la.length) :
  CallsIn Fence.wide n Tryz.prog 139 #[va,vb,.func (.func 140) #[] #[]] w fun e W'=>e = .returned (.bool ((la.zip lb).all sub1))∧Below w.heap.size w W':=by
 have h1:1 ≤ n:=by omega
 have HA:=Lib.hid hva
 have HB:=Lib.hid hvb
 obtain ⟨hl,p,c,rfl,hp⟩:=hva
 obtain ⟨hm,q,d,rfl,hq⟩:=hvb
 clear hp hq hl hm
 rw [hlen] at HB ⊢
 refine callsIn_of_wp_marks Tryz.func139 rfl trivial ?_ rfl
 simp only [Tryz.ntmps139,List.size_toArray,List.length_cons,List.length_nil,Nat.reduceAdd,Nat.reduceSub,Array.replicate_succ,Array.replicate_zero,List.push_toArray,List.append_toArray,List.nil_append,List.cons_append]
 gi_wp2_with (refine ⟨trivial,?_⟩; gi_at_call 107; refine (pairs_in (n - 1) _ _ _ _ _ _ _).mono ?_; rintro e w' ⟨rfl,rfl⟩)
 have b0:=(((Boxed.new w 120 (.func (.func 140) #[] #[])).alloc (.cells #[.bool false] 4)).alloc (.cells #[.slice p la.length c] 23)).alloc (.cells #[.slice q la.length d] 23)
 have b1:=((Boxed.new (w.alloc (.cells #[.func (.func 140) #[] #[]] 120)) 4 (.bool false)).alloc (.cells #[.slice p la.length c] 23)).alloc (.cells #[.slice q la.length d] 23)
 have b2:=(Boxed.new ((w.alloc (.cells #[.func (.func 140) #[] #[]] 120)).alloc (.cells #[.bool false] 4)) 23 (.slice p la.length c)).alloc (.cells #[.slice q la.length d] 23)
 have b3:=Boxed.new (((w.alloc (.cells #[.func (.func 140) #[] #[]] 120)).alloc (.cells #[.bool false] 4)).alloc (.cells #[.slice p la.length c] 23)) 23 (.slice q la.length d)
 have hB0:Below w.heap.size w ((((w.alloc (.cells #[.func (.func 140) #[] #[]] 120)).alloc (.cells #[.bool false] 4)).alloc (.cells #[.slice p la.length c] 23)).alloc (.cells #[.slice q la.length d] 23)):=((((Below.refl _ w).alloc (Nat.le_refl _) _).alloc (by simp) _).alloc (by simp; omega) _).alloc (by simp; omega) _
 have hsz:((((w.alloc (.cells #[.func (.func 140) #[] #[]] 120)).alloc (.cells #[.bool false] 4)).alloc (.cells #[.slice p la.length c] 23)).alloc (.cells #[.slice q la.length d] 23)).heap.size = w.heap.size+4:=by simp
 simp only [World.size_alloc] at b0 b1 b2 b3 ⊢
 obtain ⟨W0,hW0⟩:∃ W0,((((w.alloc (.cells #[.func (.func 140) #[] #[]] 120)).alloc (.cells #[.bool false] 4)).alloc (.cells #[.slice p la.length c] 23)).alloc (.cells #[.slice q la.length d] 23)) = W0:=⟨_,rfl⟩
 rw [hW0] at b0 b1 b2 b3 hB0 hsz ⊢
 clear hW0
 refine wpIn_rangeFunc_ownH rfl h1 (gf:=129) (lb:=#[.pointer (some ⟨w.heap.size+1+1,0,none⟩),.pointer (some ⟨w.heap.size+1+1+1,0,none⟩)]) rfl trivial (enters_of Tryz.func129 (by kernel_rfl) rfl)
  (pairs_stops (n - 1) (by omega) (w.heap.size+1+1) (w.heap.size+1+1+1) _ _ la lb w W0 HA.out (by have:=HB.out; exact this) hlen hB0 b2 b3) KpB.trans (fun W l o o' hl ho hoc _=>kpb_put (by omega) (by omega) (by omega)) (Below.refl _ _) (fun _=>rfl)
  (fun pre W=>((∀ z ∈ pre,sub1 z = true)∧Boxed W w.heap.size 120 (.func (.func 140) #[] #[])∧Boxed W (w.heap.size+1) 4 (.bool false)∧Boxed W (w.heap.size+1+1) 23 (.slice p la.length c)∧Boxed W (w.heap.size+1+1+1) 23 (.slice q la.length d))∧Below w.heap.size w W)
  (fun k pre W=>(k = .ret∧(∃ z ∈ pre,sub1 z = false)∧Boxed W (w.heap.size+1) 4 (.bool false))∧Below w.heap.size w W)
  (OwnFrom.and (fun s A B row hs hg hr=>⟨hs.1,own_block hg hr hs.2.1,own_block hg hr hs.2.2.1,own_block hg hr hs.2.2.2.1,own_block hg hr hs.2.2.2.2⟩) (ownFrom_below (Nat.le_refl _) (by omega)))
  (fun k=>OwnFrom.and (fun s A B row hs hg hr=>⟨hs.1,hs.2.1,own_block hg hr hs.2.2⟩) (ownFrom_below (Nat.le_refl _) (by omega)))
  ⟨⟨by simp,b0,b1,b2,b3⟩,hB0⟩
  (fun z a' W=>∃ X Y,IvBox W X z.1∧IvBox W Y z.2∧a' = { tmps:=#[.slice p la.length c,.slice q la.length d,.func (.func 140) #[] #[],undef,undef,.pointer (some ⟨w.heap.size,0,none⟩),.pointer (some ⟨w.heap.size+1,0,none⟩),.pointer (some ⟨X,0,none⟩),.pointer (some ⟨Y,0,none⟩),.slice p la.length c,.slice q la.length d,.func (.func 129) #[] #[.pointer (some ⟨w.heap.size+1+1,0,none⟩),.pointer (some ⟨w.heap.size+1+1+1,0,none⟩)],.agg #[.int .i64 z.1.1,.int .i64 z.1.2],.agg #[.int .i64 z.2.1,.int .i64 z.2.2],undef,undef,undef,undef,undef,undef,undef,undef,undef,undef],defers:=[] })
  (fun z a' _ A B row hs hg hr=>by obtain ⟨X,Y,h1,h2,h3⟩:=hs; exact ⟨X,Y,own_block hg hr h1,own_block hg hr h2,h3⟩) ?assign ?body ?done ?stop
 case assign =>
  rintro l pre ⟨⟨x1,y1⟩,⟨x2,y2⟩⟩ W K hI hK
  simp only [iva]
  gi_wp2
  obtain ⟨⟨i1,i2,i3,i4,i5⟩,i6⟩:=hI
  refine hK _ _ (((KeepsOthers.alloc _ _).trans (KeepsOthers.alloc _ _)).from _) ⟨((Below.refl _ W).alloc i6.size _).alloc (by have:=i6.size; simp; omega) _,((i4.alloc _).alloc _).trans i4.symm,((i5.alloc _).alloc _).trans i5.symm⟩
   ⟨⟨i1,(i2.alloc _).alloc _,(i3.alloc _).alloc _,(i4.alloc _).alloc _,(i5.alloc _).alloc _⟩,(i6.alloc i6.size _).alloc (by have:=i6.size; simp; omega) _⟩ ⟨W.heap.size,W.heap.size+1,(IvBox.new W x1 y1).alloc _,?_,rfl⟩
  have:=IvBox.new (W.alloc (.cells #[.int .i64 x1,.int .i64 y1] 66)) x2 y2
  rw [World.size_alloc] at this
  exact this
 case body =>
  rintro l pre ⟨⟨x1,y1⟩,⟨x2,y2⟩⟩ a' W hl ⟨r,hr⟩ ⟨⟨hz,c0,c1,c2,c3⟩,hB⟩ ⟨X,Y,hX,hY,rfl⟩ hlt
  have c0':=c0.cell
  have x0':=hX.cell0
  have x1':=hX.cell1
  have y0':=hY.cell0
  have y1':=hY.cell1
  dsimp only at x0' x1' y0' y1'
  obtain ⟨s,hs⟩:∃ s,(decide (x2 ≤ x1) && decide (y1 ≤ y2)) = s:=⟨_,rfl⟩
  have hs1:sub1 ((x1,y1),(x2,y2)) = s:=hs
  have hsz':=hB.size
  have l1:=c1.lt
  gi_wp2_with (fail)
  refine ⟨trivial,fun h=>(by cases h),?_⟩
  refine (CallsIn.inRound l (callsIn_wide.2 (iv_subset x1 y1 x2 y2 s _ hs))).mono ?_
  rintro e w5 ⟨rfl,hB5⟩
  have d0:Boxed w5 w.heap.size _ _:=(hB5.block _ c0.lt).trans c0
  have d1:Boxed w5 (w.heap.size+1) _ _:=(hB5.block _ c1.lt).trans c1
  have d2:Boxed w5 (w.heap.size+1+1) _ _:=(hB5.block _ c2.lt).trans c2
  have d3:Boxed w5 (w.heap.size+1+1+1) _ _:=(hB5.block _ c3.lt).trans c3
  have hK5:KeepsFrom W0.heap.size W w5:=⟨hB5.size,fun k o _ hk _=>(hB5.block k (Array.getElem?_eq_some_iff.1 hk).1).trans hk⟩
  have hB':Below w.heap.size w w5:=hB.trans (hB5.mono hB.size)
  have d1c:=d1.cell
  have d1f:=d1.frozen
  cases s
  ·gi_wp2
   exact ⟨hK5.trans ((KeepsOthers.setCell _ _ _).from _),⟨rfl,⟨_,List.mem_append_right _ List.mem_cons_self,hs1⟩,d1.set _⟩,hB'.setCell (p:=⟨w.heap.size+1,0,none⟩) (by simp) _⟩
  ·gi_wp2
   refine ⟨hK5,⟨hB5.mono hB.size,d2.trans c2.symm,d3.trans c3.symm⟩,⟨fun z hzm=>?_,d0,d1,d2,d3⟩,hB'⟩
   rcases List.mem_append.1 hzm with h | h
   ·exact hz z h
   ·rw [List.mem_singleton.1 h]
    exact hs1
 case done =>
  rintro D ys W hD rfl ⟨⟨hz,c0,c1,c2,c3⟩,hB⟩ hK
  have d1c:=c1.cell
  have d1f:=c1.frozen
  gi_wp2
  have hK':=(KeepsOthers.setCell W ⟨w.heap.size+1,0,none⟩ (.bool true)).same D _ hK rfl
  refine ⟨by simp,.inl ⟨_,_,rfl,run_takeDeferred hK',?_⟩⟩
  have hc5:=cell_kept (c1.set (.bool true)).cell (grownBy_putObj' _ D (.deferred none)) (fun r e=>by cases e; exact ⟨_,hK',rfl⟩)
  refine ⟨.bool true,?_,ret_bool ?_,(hB.setCell (p:=⟨w.heap.size+1,0,none⟩) (by simp) _).trans (belowK_b (w:=w) (Nat.le_refl _) _ D _ _ (by omega) hK' rfl rfl)⟩
  ·simp [results,Tryz.f139,go_sem,hc5]
  ·rw [eq_comm,List.all_eq_true]
   exact hz
 case stop =>
  rintro D k pre W hD hpre ⟨⟨rfl,⟨z,hzm,hz⟩,c1⟩,hB⟩ hK
  gi_wp2
  refine ⟨by simp,.inl ⟨_,_,rfl,run_takeDeferred hK,?_⟩⟩
  have hc5:=cell_kept c1.cell (grownBy_putObj' _ D (.deferred none)) (fun r e=>by cases e; exact ⟨_,hK,rfl⟩)
  refine ⟨.bool false,?_,ret_bool ?_,hB.trans (belowK_b (w:=w) (Nat.le_refl _) W D _ _ (by omega) hK rfl rfl)⟩
  ·simp [results,Tryz.f139,go_sem,hc5]
  ·rw [eq_comm,Bool.eq_false_iff]
   intro h
   have:=List.all_eq_true.1 h z (hpre.subset hzm)
   rw [hz] at this
   cases this
set_option maxHeartbeats 1000000 in
theorem box_subset (va vb:Value) (la lb:List (Int × Int)) (w:World) (hva:Bx w va la) (hvb:Bx w vb lb) (hlen:lb.length = la.length) :
  Calls Tryz.prog 117 #[va,vb] w fun e W'=>e = .returned (.bool ((la.zip lb).all sub1))∧Below w.heap.size w W':=by
 have c1:=(callsIn_wide (n:=5)).1 (every_sub_in 5 (by decide) va vb la lb w hva hvb hlen)
 obtain ⟨hl,p,c,rfl,hp⟩:=hva
 obtain ⟨hm,q,d,rfl,hq⟩:=hvb
 clear hp hq hl hm hlen
 generalize (la.zip lb).all sub1 = r at *
 go_enter Tryz.func117,Tryz.ntmps117
 go_wp2_with (go_at_call 139; refine c1.mono ?_; rintro e w1 ⟨rfl,hB⟩)
 go_ret
 exact ⟨rfl,hB⟩
end Go.Proofs.YtdfdpghdjlgghaaGreat
namespace Go.Proofs.YtdfdpghdjlgghaaGreat
open Go.ChangeShapes Go.WideShapes Go.ChangeAt Go.RowKit Go.Shelf
set_option linter.unusedVariables false
set_option linter.unusedSimpArgs false
set_option maxRecDepth 100000
attribute [local go_sem] Oper.semAt_some
end Go.Proofs.YtdfdpghdjlgghaaGreat
namespace Go.Proofs.YtdfdpghdjlgghaaGreat
open Go.ChangeShapes Go.WideShapes Go.ChangeAt Go.RowKit Go.Shelf
set_option linter.unusedVariables false
set_option linter.unusedSimpArgs false
set_option maxRecDepth 100000
attribute [local go_sem] Oper.semAt_some
theorem heap_set {W:World} {a:Addr} {u:Value} {k:Nat} (h:k ≠ a.block):(W.setCell a u).heap[k]? = W.heap[k]?:=Below.heap_setCell _ _ _ k h
theorem cells_set {W:World} {b o:Nat} {cs:Array Value} {t:TypeId} {z:Nat × Nat} {u:Value} (h:W.heap[b]? = some (.cells cs t z)):(W.setCell ⟨b,o,none⟩ u).heap[b]? = some (.cells (cs.setIfInBounds o u) t z):=by
 obtain ⟨hlt,hk⟩:=Array.getElem?_eq_some_iff.1 h
 show (W.heap.modify b _)[b]? = _
 rw [Array.getElem?_eq_getElem (by rw [Array.size_modify]; exact hlt),Array.getElem_modify_self,hk]
 rfl
theorem IvBox.set {W:World} {b:Nat} {p:Int × Int} (h:IvBox W b p) (x y:Int):IvBox ((W.setCell ⟨b,0,none⟩ (.int .i64 x)).setCell ⟨b,1,none⟩ (.int .i64 y)) b (x,y):=by
 have h1:=cells_set (o:=1) (u:=.int .i64 y) (cells_set (o:=0) (u:=.int .i64 x) h)
 exact h1
theorem IvBox.frozen {W:World} {b:Nat} {p:Int × Int} (h:IvBox W b p) (o:Nat):W.frozen? ⟨b,o,none⟩ = false:=by simp [World.frozen?,show W.heap[b]? = _ from h]

def VB (p:Int × Int):Prop:=VI p.1 p.2
theorem VB.le {p:Int × Int} (h:VB p):p.1 ≤ p.2:=(VI.bd h).2.2.2.2
abbrev VP:={ z:(Int × Int) × (Int × Int) // VB z.1∧VB z.2 }
def vps (l:List ((Int × Int) × (Int × Int))) (h:∀ z ∈ l,VB z.1∧VB z.2):List VP:=l.attachWith _ h
theorem vps_map (l:List ((Int × Int) × (Int × Int))) (h:∀ z ∈ l,VB z.1∧VB z.2):(vps l h).map Subtype.val = l:=by
 have:=List.attachWith_map_val (f:=fun z=>z) h
 simpa [vps] using this

end Go.Proofs.YtdfdpghdjlgghaaGreat
