/-
 Rcp
-/
import Derived.Test.YtekjflfkbgklhaaGreatKcp
import Derived.Test.YtekjflfkbgklhaaGreatKcr
import Derived.Test.YtekjflfkbgklhaaGreatKczo
import Derived.Maps.AppendAt
namespace Go.Proofs.YtekjflfkbgklhaaGreat
open Go.ChangeShapes Go.WideShapes Go.ChangeAt Go.RowKit Go.Maps
set_option linter.unusedVariables false
set_option linter.unusedSimpArgs false
set_option maxRecDepth 100000
attribute [local irreducible] Calls
def RC (c:Ex):Prop:=∀ (L:List Is) (R:List Nd) (ve vl:Value) (w0 w:World),Below w0.heap.size w0 w→NxC w0 ve (pre c ++ R)→IxN w vl L→L.length+(pre c).length ≤ 100000 →
  Calls Tryz.prog 57 #[ve,vl] w fun e w'=>∃ u v,e = .returned (.tuple #[u,.int .i64 ((emitT c L).2:Int),v])∧IxN w' u (emitT c L).1∧NxC w0 v R∧(u = vl ∨ ∀ b,u.ownBlock = some b→w.heap.size ≤ b)∧Below w.heap.size w w'
theorem comp_bound:∀ (ts:List Ex) (L:List Is),(compT ts L).1.length ≤ L.length+(ts.flatMap pre).length
 | [],L=>by simp [compT]
 | t :: ts,L=>by
  have h:=comp_bound ts (emitT t L).1
  have h1:=(emitT_len t L).2.1
  show (compT ts (emitT t L).1).1.length ≤ _
  rw [List.flatMap_cons,List.length_append]
  omega
theorem flat_at {cs:List Ex} {j:Nat} {c:Ex} (h:cs[j]? = some c):cs.flatMap pre = (cs.take j).flatMap pre ++ (pre c ++ (cs.drop (j+1)).flatMap pre):=by
 have e:cs = cs.take j ++ c :: cs.drop (j+1):=by
  have:=List.take_append_drop j cs
  rw [drop_cons h] at this
  exact this.symm
 conv=>lhs; rw [e]
 rw [List.flatMap_append,List.flatMap_cons]
theorem comp_snoc {cs:List Ex} {j:Nat} {c:Ex} (L:List Is) (h:cs[j]? = some c):compT (cs.take (j+1)) L = ((emitT c (compT (cs.take j) L).1).1,(compT (cs.take j) L).2 ++ [((emitT c (compT (cs.take j) L).1).2:Int)]):=by
 rw [List.take_add_one,h]
 show compT (cs.take j ++ [c]) L = _
 rw [compT_app]
 rfl
def atA (L:List Is) (cs:List Ex) (j:Nat):Int:=(compT (cs.take j) L).2.getD 0 0
def atB (L:List Is) (cs:List Ex) (j:Nat):Int:=(compT (cs.take j) L).2.getD 1 0
theorem at_zero (L:List Is) (cs:List Ex):atA L cs 0 = 0∧atB L cs 0 = 0:=⟨rfl,rfl⟩
theorem at_one {L:List Is} {cs:List Ex} {c:Ex} (h:cs[0]? = some c):atA L cs 1 = ((emitT c (compT (cs.take 0) L).1).2:Int)∧atB L cs 1 = 0:=by
 unfold atA atB
 rw [show (1:Nat) = 0+1 from rfl,comp_snoc L h]
 exact ⟨rfl,rfl⟩
theorem at_two {L:List Is} {cs:List Ex} {c:Ex} (h:cs[1]? = some c):atA L cs 2 = atA L cs 1∧atB L cs 2 = ((emitT c (compT (cs.take 1) L).1).2:Int):=by
 have hl:(compT (cs.take 1) L).2.length = 1:=by
  rw [comp_len,List.length_take]
  have:=(List.getElem?_eq_some_iff.1 h).1
  omega
 obtain ⟨a,ha⟩:∃ a,(compT (cs.take 1) L).2 = [a]:=by
  match e:(compT (cs.take 1) L).2,hl with
  | [a],_=>exact ⟨a,rfl⟩
 unfold atA atB
 rw [show (2:Nat) = 1+1 from rfl,comp_snoc L h]
 simp only [ha]
 exact ⟨rfl,rfl⟩
theorem nxc_cut {w:World} {v:Value} {x:Nd} {l:List Nd} (h:NxC w v (x :: l)):∃ b o c,v = .slice (some ⟨b,o,none⟩) (l.length+1) c∧b < w.heap.size∧l.length+1 ≤ c:=by
 obtain ⟨hn,p,c,rfl,hc,_⟩:=h
 obtain ⟨b,o,rfl,hb,_⟩:=hn.rd (i:=0) rfl
 exact ⟨b,o,c,rfl,hb,hc⟩
theorem nxc_tail {w:World} {b o c:Nat} {x:Nd} {l:List Nd} (h:NxC w (.slice (some ⟨b,o,none⟩) (l.length+1) c) (x :: l)) (hc:l.length+1 ≤ c):NxC w (if c = 1 then (Value.slice (some ⟨b,o,none⟩) l.length 0) else Value.slice (some ⟨b,o+4,none⟩) l.length (c - 1)) l:=by
 by_cases hc1:c = 1
 ·rw [if_pos hc1]
  have hd:=h.1.drop (k:=1) (c':=0) (q:=some ⟨b,o,none⟩) (by omega) (fun h=>by omega)
  simp only [Nat.add_sub_cancel,List.drop_succ_cons,List.drop_zero] at hd
  exact ⟨hd,_,_,rfl,by omega,fun h=>by cases h⟩
 ·rw [if_neg hc1]
  have hd:=h.1.drop (k:=1) (c':=c - 1) (q:=some ⟨b,o+1 * 4,none⟩) (by omega) (fun h=>rfl)
  simp only [Nat.add_sub_cancel,List.drop_succ_cons,List.drop_zero,Nat.one_mul] at hd
  exact ⟨hd,_,_,rfl,by omega,fun h=>by cases h⟩
theorem ixn_keptN {W W':World} {v:Value} {L:List Is} {row:Option Nat} (h:IxN W v L) (hg:W.grownBy W' row) (hne:L = [] ∨ v.ownBlock ≠ row):IxN W' v L:=by
 refine ⟨?_,h.2⟩
 obtain ⟨h1,p,c,rfl,h2⟩:=h.1
 refine ⟨h1,p,c,rfl,fun i x hx=>?_⟩
 obtain ⟨b,o,rfl,h3,h4⟩:=h2 i x hx
 have hb:=hg.block b h3 (by
  rcases hne with rfl | hne
  ·simp at hx
  ·exact hne)
 exact ⟨b,o,rfl,Nat.lt_of_lt_of_le h3 hg.size,fun j u hu=>by
  have:=h4 j u hu
  simp only [World.cell?,hb] at this ⊢
  exact this⟩
theorem heap_ne9 {W:World} {X Y o:Nat} {v:Value} {ob:Obj} (h:W.heap[Y]? = some ob) (hne:Y ≠ X):(W.setCell ⟨X,o,none⟩ v).heap[Y]? = some ob :=
 ((grownBy_setN W ⟨X,o,none⟩ v).block Y (Array.getElem?_eq_some_iff.1 h).1 (fun e=>hne (Option.some.inj e))).trans h
theorem gb_trans9 {A B C:World} {row:Option Nat} (h:A.grownBy B row) (k:B.grownBy C row):A.grownBy C row :=
 ⟨k.os.trans h.os,k.tape.trans h.tape,k.output.trans h.output,Nat.le_trans h.size k.size,fun j hj hn=>(k.block j (Nat.lt_of_lt_of_le hj h.size) hn).trans (h.block j hj hn)⟩
structure RcI (w:World) (X8 X9:Nat) (vl l:Value) (T:List Is) (W:World):Prop where
 ix:IxN W l T
 d:T = [] ∨ (l.ownBlock ≠ some X8∧l.ownBlock ≠ some X9)
 f:l = vl ∨ ∀ b,l.ownBlock = some b→w.heap.size ≤ b
theorem RcI.grow {w W W':World} {X8 X9:Nat} {vl l:Value} {T:List Is} (h:RcI w X8 X9 vl l T W) (hB:Below W.heap.size W W'):RcI w X8 X9 vl l T W':=⟨h.ix.grow hB,h.d,h.f⟩
theorem RcI.set8 {w W W':World} {X8 X9:Nat} {vl l:Value} {T:List Is} (h:RcI w X8 X9 vl l T W) (hg:W.grownBy W' (some X8)):RcI w X8 X9 vl l T W':=⟨ixn_keptN h.ix hg (h.d.imp id And.left),h.d,h.f⟩
theorem RcI.set9 {w W W':World} {X8 X9:Nat} {vl l:Value} {T:List Is} (h:RcI w X8 X9 vl l T W) (hg:W.grownBy W' (some X9)):RcI w X8 X9 vl l T W':=⟨ixn_keptN h.ix hg (h.d.imp id And.right),h.d,h.f⟩
theorem RcI.next {w W W':World} {X8 X9:Nat} {vl l u:Value} {T T':List Is} (h:RcI w X8 X9 vl l T W) (hu:IxN W' u T') (hf:u = l ∨ ∀ b,u.ownBlock = some b→W.heap.size ≤ b) (h8:X8 < W.heap.size) (h9:X9 < W.heap.size) (hw:w.heap.size ≤ W.heap.size):RcI w X8 X9 vl u T' W':=by
 refine ⟨hu,?_,?_⟩
 ·rcases hf with rfl | hf
  ·rcases h.d with e | e
   ·obtain ⟨_,p,c,hp,_⟩:=h.ix
    obtain ⟨_,p',c',hp',_⟩:=hu
    rw [hp'] at hp
    simp only [Value.slice.injEq] at hp
    rw [e] at hp
    exact .inl (List.eq_nil_of_length_eq_zero hp.2.1)
   ·exact .inr e
  ·exact .inr ⟨fun e=>by have:=hf _ e; omega,fun e=>by have:=hf _ e; omega⟩
 ·rcases hf with rfl | hf
  ·exact h.f
  ·exact .inr fun b hb=>Nat.le_trans hw (hf b hb)
theorem RcI.start {w W:World} {X8 X9:Nat} {vl:Value} {T:List Is} (h:IxN w vl T) (hB:Below w.heap.size w W) (h8:w.heap.size ≤ X8) (h9:w.heap.size ≤ X9):RcI w X8 X9 vl vl T W:=by
 refine ⟨h.grow hB,?_,.inl rfl⟩
 cases T with
 | nil=>exact .inl rfl
 | cons x T =>
  obtain ⟨_,p,c,rfl,h2⟩:=h.1
  obtain ⟨b,o,rfl,h3,_⟩:=h2 0 x rfl
  simp only [Value.ownBlock,ne_eq,Option.some.injEq]
  exact .inr ⟨by omega,by omega⟩
set_option maxHeartbeats 64000000 in
theorem rc_step (op nn lo hi:Int) (cs:List Ex) (I:Is) (hop:1 ≤ op∧op ≤ 10) (hr:raI op = cs.length) (h2:cs.length ≤ 2) (ih:∀ c ∈ cs,RC c) (L:List Is) (R:List Nd) (ve vl:Value) (w0 w:World) (hw0:Below w0.heap.size w0 w) (he:NxC w0 ve (⟨op,nn,lo,hi⟩ :: (cs.flatMap pre ++ R))) (hl:IxN w vl L) (hle:L.length+(cs.flatMap pre).length+1 ≤ 100000)
  (hI:I = ⟨op,if op = 2 then nn else atA L cs cs.length,atB L cs cs.length,if op = 1 then lo else 0,if op = 1 then hi else 0⟩) :
  Calls Tryz.prog 57 #[ve,vl] w fun e w'=>∃ u v,e = .returned (.tuple #[u,.int .i64 (idxI (emitI (compT cs L).1 I) I:Int),v])∧IxN w' u (emitI (compT cs L).1 I)∧NxC w0 v R∧(u = vl ∨ ∀ b,u.ownBlock = some b→w.heap.size ≤ b)∧Below w.heap.size w w':=by
 obtain ⟨b,o,c,rfl,hb,hc⟩:=nxc_cut he
 have ht:=nxc_tail he hc
 obtain ⟨b',o',rfl',hb',rdn⟩:=nd_rd (i:=0) he.1 rfl
 simp only [Option.some.injEq,Addr.mk.injEq,and_true] at rfl'
 obtain ⟨rfl,rfl⟩:=rfl'
 obtain ⟨T0,hT0⟩:∃ T,cs.flatMap pre ++ R = T:=⟨_,rfl⟩
 rw [hT0] at ht hc ⊢
 obtain ⟨pl,cl,rfl⟩:=hl.1.cut
 simp only [Nat.zero_mul,Nat.add_zero] at rdn
 have i0:(0:Int) < (T0.length:Int)+1:=by omega
 have hcI:((T0.length:Int)+1) ≤ c:=by omega
 have d0:=fun g:Grown w=>(rdn ⟨g.w,hw0.trans (g.h.mono hw0.size)⟩).1
 have d1:=fun g:Grown w=>(rdn ⟨g.w,hw0.trans (g.h.mono hw0.size)⟩).2.1
 have d2:=fun g:Grown w=>(rdn ⟨g.w,hw0.trans (g.h.mono hw0.size)⟩).2.2.1
 have d3:=fun g:Grown w=>(rdn ⟨g.w,hw0.trans (g.h.mono hw0.size)⟩).2.2.2
 dsimp only at d0 d1 d2 d3
 have HE:=Lib.hid ht
 have HW0:=Lib.hid hw0
 have HL:=Lib.hid hl
 have IH:=Lib.hid ih
 have HT:=Lib.hid hT0
 have HI:=Lib.hid hI
 have HLE:=Lib.hid hle
 have KA:=Lib.hid (fun w=>rarity_ok op w)
 rw [hr] at KA
 clear hw0 he hl ih hT0 ht hle rdn hI hr hb'
 go_enter Tryz.func57,Tryz.ntmps57
 go_wp2_with (fail)
 refine region_pred_g (fun σ_=>lk [(13,fun z_ _=>z_ = .slice (some ⟨b,o,none⟩) (T0.length+1) c),(14,fun z_ _=>z_ = .pointer (some ⟨b,o,none⟩)),(15,fun z_ _=>z_ = .agg #[.int .i64 op,.int .i64 nn,.int .i64 lo,.int .i64 hi]),(16,fun z_ _=>z_ = .slice (some ⟨b,o,none⟩) (T0.length+1) c),(17,fun z_ _=>z_ = .pointer (some ⟨b,o,none⟩)),(18,fun z_ _=>z_ = .pointer (some ⟨b,o,none⟩)),(19,fun z_ _=>z_ = .int .i64 op),(20,fun z_ _=>z_ = .agg #[.int .i64 op,.int .i64 0,.int .i64 0,.int .i64 0,.int .i64 0]),(21,fun z_ _=>z_ = .agg #[.int .i64 0,.int .i64 0]),(7,fun z_ w'=>∃ X_,z_ = .pointer (some ⟨X_,0,none⟩)∧w.heap.size ≤ X_∧w'.heap[X_]? = some (.cells (if σ_ 12 = true then #[(.int .i64 op),(.int .i64 nn),(.int .i64 lo),(.int .i64 hi)] else #[(.int .i64 0),(.int .i64 0),(.int .i64 0),(.int .i64 0)]) 93 (0,0))),(8,fun z_ w'=>∃ X_,z_ = .pointer (some ⟨X_,0,none⟩)∧w.heap.size ≤ X_∧w'.heap[X_]? = some (.cells (if σ_ 13 = true then #[(.int .i64 op),(.int .i64 0),(.int .i64 0),(.int .i64 0),(.int .i64 0)] else #[(.int .i64 0),(.int .i64 0),(.int .i64 0),(.int .i64 0),(.int .i64 0)]) 112 (0,0))),(9,fun z_ w'=>∃ X_,z_ = .pointer (some ⟨X_,0,none⟩)∧w.heap.size ≤ X_∧w'.heap[X_]? = some (.cells (if σ_ 14 = true then #[(.int .i64 0),(.int .i64 0)] else #[(.int .i64 0),(.int .i64 0)]) 113 (0,0)))]) (kk [(7,ptrK),(8,ptrK),(9,ptrK)]) [(12,7),(13,8),(14,9)] [] (by kernel_rfl) (by kernel_rfl) ?_ (fun σ_=>lk_steady _ ⟨steady_eq _,steady_eq _,steady_eq _,steady_eq _,steady_eq _,steady_eq _,steady_eq _,steady_eq _,steady_eq _,fun u w1 w2 hb ⟨X,e,h1,h2⟩=>⟨X,e,h1,(hb.block X (Array.getElem?_eq_some_iff.1 h2).1).trans h2⟩,fun u w1 w2 hb ⟨X,e,h1,h2⟩=>⟨X,e,h1,(hb.block X (Array.getElem?_eq_some_iff.1 h2).1).trans h2⟩,fun u w1 w2 hb ⟨X,e,h1,h2⟩=>⟨X,e,h1,(hb.block X (Array.getElem?_eq_some_iff.1 h2).1).trans h2⟩,trivial⟩) ?_ ?_ ?_ ?_
 ·intro x hx
  cases hx
 ·intro σ_ t v w b h hb
  refine kk_lt (fun x hx e hl hb=>?_) h hb
  simp only [List.mem_cons,List.not_mem_nil,or_false] at hx
  rcases hx with rfl | rfl | rfl
  ·subst e
   obtain ⟨X,rfl,hX,hI⟩:=hl
   obtain rfl:X = b:=Option.some.inj hb
   exact (Array.getElem?_eq_some_iff.1 hI).1
  ·subst e
   obtain ⟨X,rfl,hX,hI⟩:=hl
   obtain rfl:X = b:=Option.some.inj hb
   exact (Array.getElem?_eq_some_iff.1 hI).1
  ·subst e
   obtain ⟨X,rfl,hX,hI⟩:=hl
   obtain rfl:X = b:=Option.some.inj hb
   exact (Array.getElem?_eq_some_iff.1 hI).1
 ·refine ⟨?_,?_,?_,?_,?_,?_,?_,?_,?_,?_,?_,?_,?_,?_,?_,trivial⟩
  ·intro _ σ_ hσ
   refine oblg_of (ob_plain [0] rfl rfl fun aa g h=>?_) (fun d v hd=>by cases hd; rfl)
   have yy0:=seen_out (v:=.slice (some ⟨b,o,none⟩) (T0.length+1) c) rfl rfl h.1
   exact tvS (by simp [go_sem,yy0]) rfl
  ·intro _ σ_ hσ
   refine oblg_of (ob_plain [13] rfl rfl fun aa g h=>?_) (fun d v hd=>by cases hd; rfl)
   obtain ⟨_,yy0,rfl⟩:=seen_in rfl h.1
   exact tvS (by simp [go_sem,yy0,i0]) rfl
  ·intro _ σ_ hσ
   refine oblg_of (ob_plain [14] rfl rfl fun aa g h=>?_) (fun d v hd=>by cases hd; rfl)
   obtain ⟨_,yy0,rfl⟩:=seen_in rfl h.1
   exact tvS (by simp [go_sem,yy0,d0 g,d1 g,d2 g,d3 g]) rfl
  ·intro _ σ_ hσ
   refine oblg_of (ob_plain [0] rfl rfl fun aa g h=>?_) (fun d v hd=>by cases hd; rfl)
   have yy0:=seen_out (v:=.slice (some ⟨b,o,none⟩) (T0.length+1) c) rfl rfl h.1
   exact tvS (by simp [go_sem,yy0]) rfl
  ·intro _ σ_ hσ
   refine oblg_of (ob_plain [16] rfl rfl fun aa g h=>?_) (fun d v hd=>by cases hd; rfl)
   obtain ⟨_,yy0,rfl⟩:=seen_in rfl h.1
   exact tvS (by simp [go_sem,yy0,i0]) rfl
  ·intro _ σ_ hσ
   refine oblg_of (ob_plain [17] rfl rfl fun aa g h=>?_) (fun d v hd=>by cases hd; rfl)
   obtain ⟨_,yy0,rfl⟩:=seen_in rfl h.1
   exact tvS (by simp [go_sem,yy0]) rfl
  ·intro _ σ_ hσ
   refine oblg_of (ob_plain [18] rfl rfl fun aa g h=>?_) (fun d v hd=>by cases hd; rfl)
   obtain ⟨_,yy0,rfl⟩:=seen_in rfl h.1
   exact tvS (by simp [go_sem,yy0,d0 g]) rfl
  ·intro _ σ_ hσ
   refine oblg_of (ob_plain [19] rfl rfl fun aa g h=>?_) (fun d v hd=>by cases hd; rfl)
   obtain ⟨_,yy0,rfl⟩:=seen_in rfl h.1
   exact tvS (by simp [go_sem,yy0]) rfl
  ·intro _ σ_ hσ
   refine oblg_of (ob_plain [] rfl rfl fun aa g h=>?_) (fun d v hd=>by cases hd; rfl)
   exact tvS (by simp [go_sem]) rfl
  ·intro _ σ_ hσ
   have hsx:σ_ 12 = false:=by
    cases e:σ_ 12 with
    | false=>rfl
    | true=>exact absurd (hσ 12 _ e rfl) (by first | decide | decide +kernel)
   refine oblg_plain [] rfl rfl fun aa g h=>?_
   exact tupon_value (v:=.pointer (some ⟨g.w.heap.size,0,none⟩)) (w1:=g.w.alloc (.cells #[(.int .i64 0),(.int .i64 0),(.int .i64 0),(.int .i64 0)] 93)) (by simp [go_sem]) ((Below.refl _ _).alloc (Nat.le_refl _) _) ⟨⟨_,rfl,g.h.size,by rw [if_neg (by rw [hsx]; exact Bool.false_ne_true)]; exact World.alloc_heap_new _ _⟩,fun d b hd hb=>by cases hd; obtain rfl:=Option.some.inj hb; exact Nat.le_refl _⟩
  ·intro _ σ_ hσ
   have hsx:σ_ 13 = false:=by
    cases e:σ_ 13 with
    | false=>rfl
    | true=>exact absurd (hσ 13 _ e rfl) (by first | decide | decide +kernel)
   refine oblg_plain [] rfl rfl fun aa g h=>?_
   exact tupon_value (v:=.pointer (some ⟨g.w.heap.size,0,none⟩)) (w1:=g.w.alloc (.cells #[(.int .i64 0),(.int .i64 0),(.int .i64 0),(.int .i64 0),(.int .i64 0)] 112)) (by simp [go_sem]) ((Below.refl _ _).alloc (Nat.le_refl _) _) ⟨⟨_,rfl,g.h.size,by rw [if_neg (by rw [hsx]; exact Bool.false_ne_true)]; exact World.alloc_heap_new _ _⟩,fun d b hd hb=>by cases hd; obtain rfl:=Option.some.inj hb; exact Nat.le_refl _⟩
  ·intro _ σ_ hσ
   have hsx:σ_ 14 = false:=by
    cases e:σ_ 14 with
    | false=>rfl
    | true=>exact absurd (hσ 14 _ e rfl) (by first | decide | decide +kernel)
   refine oblg_plain [] rfl rfl fun aa g h=>?_
   exact tupon_value (v:=.pointer (some ⟨g.w.heap.size,0,none⟩)) (w1:=g.w.alloc (.cells #[(.int .i64 0),(.int .i64 0)] 113)) (by simp [go_sem]) ((Below.refl _ _).alloc (Nat.le_refl _) _) ⟨⟨_,rfl,g.h.size,by rw [if_neg (by rw [hsx]; exact Bool.false_ne_true)]; exact World.alloc_heap_new _ _⟩,fun d b hd hb=>by cases hd; obtain rfl:=Option.some.inj hb; exact Nat.le_refl _⟩
  ·exact fun h=>absurd h (by decide)
  ·exact fun h=>absurd h (by decide)
  ·exact fun h=>absurd h (by decide)
 ·intro i p os hm hos
  simp only [List.mem_cons,List.not_mem_nil,or_false,Prod.mk.injEq] at hm
  rcases hm with ⟨rfl,rfl⟩ | ⟨rfl,rfl⟩ | ⟨rfl,rfl⟩
  ·obtain rfl:=Option.some.inj hos
   intro σ_ aa gg hσ h
   obtain ⟨_,r0,X,rfl,hX,hI⟩:=seen_in rfl h.1
   have e0:=getD_of r0
   obtain ⟨_,r1,rfl⟩:=seen_in rfl h.2.1
   have e1:=getD_of r1
   rw [if_neg (by rw [hσ]; exact Bool.false_ne_true)] at hI
   have q0:=heapN_cellj hI (k:=0) rfl
   have z0:gg.w.frozen? ⟨X,0,none⟩ = false:=by simp [World.frozen?,hI]
   have q1:=heapN_cellj hI (k:=1) rfl
   have z1:gg.w.frozen? ⟨X,1,none⟩ = false:=by simp [World.frozen?,hI]
   have q2:=heapN_cellj hI (k:=2) rfl
   have z2:gg.w.frozen? ⟨X,2,none⟩ = false:=by simp [World.frozen?,hI]
   have q3:=heapN_cellj hI (k:=3) rfl
   have z3:gg.w.frozen? ⟨X,3,none⟩ = false:=by simp [World.frozen?,hI]
   refine ⟨((((gg.w.setCell ⟨X,0,none⟩ ((.int .i64 op))).setCell ⟨X,1,none⟩ ((.int .i64 nn))).setCell ⟨X,2,none⟩ ((.int .i64 lo))).setCell ⟨X,3,none⟩ ((.int .i64 hi))),by simp [go_sem,e0,r0,e1,r1,q0,z0,q1,z1,q2,z2,q3,z3],((((gg.h.setCell (p:=⟨X,0,none⟩) hX _).setCell (p:=⟨X,1,none⟩) hX _).setCell (p:=⟨X,2,none⟩) hX _).setCell (p:=⟨X,3,none⟩) hX _),fun t v hv hne hΦ=>lk_pair ?_ hΦ⟩
   refine ⟨rfl,fun _ h=>h,rfl,fun _ h=>h,rfl,fun _ h=>h,rfl,fun _ h=>h,rfl,fun _ h=>h,rfl,fun _ h=>h,rfl,fun _ h=>h,rfl,fun _ h=>h,rfl,fun _ h=>h,rfl,?_,rfl,?_,rfl,?_,trivial⟩
   ·intro e hx
    subst e
    obtain ⟨X',rfl,hX',hI'⟩:=hx
    rw [r0] at hv
    have e:=Option.some.inj hv
    simp only [Value.pointer.injEq,Option.some.injEq,Addr.mk.injEq,and_true] at e
    subst e
    exact ⟨X,rfl,hX,by rw [if_pos (updS_self _ _)]; exact cellsT_setN (o:=3) (u:=(.int .i64 hi)) (cellsT_setN (o:=2) (u:=(.int .i64 lo)) (cellsT_setN (o:=1) (u:=(.int .i64 nn)) (cellsT_setN (o:=0) (u:=(.int .i64 op)) (hI))))⟩
   ·intro e hx
    subst e
    obtain ⟨X',rfl,hX',hI'⟩:=hx
    have hn:=hne (by decide) _ X r0 rfl
    have hn2:X' ≠ X:=fun e=>hn (by rw [e]; rfl)
    exact ⟨X',rfl,hX',by rw [updS_ne _ (by decide)]; exact ((heap_setN_ne _ hn2 3 _).trans ((heap_setN_ne _ hn2 2 _).trans ((heap_setN_ne _ hn2 1 _).trans ((heap_setN_ne _ hn2 0 _).trans hI'))))⟩
   ·intro e hx
    subst e
    obtain ⟨X',rfl,hX',hI'⟩:=hx
    have hn:=hne (by decide) _ X r0 rfl
    have hn2:X' ≠ X:=fun e=>hn (by rw [e]; rfl)
    exact ⟨X',rfl,hX',by rw [updS_ne _ (by decide)]; exact ((heap_setN_ne _ hn2 3 _).trans ((heap_setN_ne _ hn2 2 _).trans ((heap_setN_ne _ hn2 1 _).trans ((heap_setN_ne _ hn2 0 _).trans hI'))))⟩
  ·obtain rfl:=Option.some.inj hos
   intro σ_ aa gg hσ h
   obtain ⟨_,r0,X,rfl,hX,hI⟩:=seen_in rfl h.1
   have e0:=getD_of r0
   obtain ⟨_,r1,rfl⟩:=seen_in rfl h.2.1
   have e1:=getD_of r1
   rw [if_neg (by rw [hσ]; exact Bool.false_ne_true)] at hI
   have q0:=heapN_cellj hI (k:=0) rfl
   have z0:gg.w.frozen? ⟨X,0,none⟩ = false:=by simp [World.frozen?,hI]
   have q1:=heapN_cellj hI (k:=1) rfl
   have z1:gg.w.frozen? ⟨X,1,none⟩ = false:=by simp [World.frozen?,hI]
   have q2:=heapN_cellj hI (k:=2) rfl
   have z2:gg.w.frozen? ⟨X,2,none⟩ = false:=by simp [World.frozen?,hI]
   have q3:=heapN_cellj hI (k:=3) rfl
   have z3:gg.w.frozen? ⟨X,3,none⟩ = false:=by simp [World.frozen?,hI]
   have q4:=heapN_cellj hI (k:=4) rfl
   have z4:gg.w.frozen? ⟨X,4,none⟩ = false:=by simp [World.frozen?,hI]
   refine ⟨(((((gg.w.setCell ⟨X,0,none⟩ ((.int .i64 op))).setCell ⟨X,1,none⟩ ((.int .i64 0))).setCell ⟨X,2,none⟩ ((.int .i64 0))).setCell ⟨X,3,none⟩ ((.int .i64 0))).setCell ⟨X,4,none⟩ ((.int .i64 0))),by simp [go_sem,e0,r0,e1,r1,q0,z0,q1,z1,q2,z2,q3,z3,q4,z4],(((((gg.h.setCell (p:=⟨X,0,none⟩) hX _).setCell (p:=⟨X,1,none⟩) hX _).setCell (p:=⟨X,2,none⟩) hX _).setCell (p:=⟨X,3,none⟩) hX _).setCell (p:=⟨X,4,none⟩) hX _),fun t v hv hne hΦ=>lk_pair ?_ hΦ⟩
   refine ⟨rfl,fun _ h=>h,rfl,fun _ h=>h,rfl,fun _ h=>h,rfl,fun _ h=>h,rfl,fun _ h=>h,rfl,fun _ h=>h,rfl,fun _ h=>h,rfl,fun _ h=>h,rfl,fun _ h=>h,rfl,?_,rfl,?_,rfl,?_,trivial⟩
   ·intro e hx
    subst e
    obtain ⟨X',rfl,hX',hI'⟩:=hx
    have hn:=hne (by decide) _ X r0 rfl
    have hn2:X' ≠ X:=fun e=>hn (by rw [e]; rfl)
    exact ⟨X',rfl,hX',by rw [updS_ne _ (by decide)]; exact ((heap_setN_ne _ hn2 4 _).trans ((heap_setN_ne _ hn2 3 _).trans ((heap_setN_ne _ hn2 2 _).trans ((heap_setN_ne _ hn2 1 _).trans ((heap_setN_ne _ hn2 0 _).trans hI')))))⟩
   ·intro e hx
    subst e
    obtain ⟨X',rfl,hX',hI'⟩:=hx
    rw [r0] at hv
    have e:=Option.some.inj hv
    simp only [Value.pointer.injEq,Option.some.injEq,Addr.mk.injEq,and_true] at e
    subst e
    exact ⟨X,rfl,hX,by rw [if_pos (updS_self _ _)]; exact cellsT_setN (o:=4) (u:=(.int .i64 0)) (cellsT_setN (o:=3) (u:=(.int .i64 0)) (cellsT_setN (o:=2) (u:=(.int .i64 0)) (cellsT_setN (o:=1) (u:=(.int .i64 0)) (cellsT_setN (o:=0) (u:=(.int .i64 op)) (hI)))))⟩
   ·intro e hx
    subst e
    obtain ⟨X',rfl,hX',hI'⟩:=hx
    have hn:=hne (by decide) _ X r0 rfl
    have hn2:X' ≠ X:=fun e=>hn (by rw [e]; rfl)
    exact ⟨X',rfl,hX',by rw [updS_ne _ (by decide)]; exact ((heap_setN_ne _ hn2 4 _).trans ((heap_setN_ne _ hn2 3 _).trans ((heap_setN_ne _ hn2 2 _).trans ((heap_setN_ne _ hn2 1 _).trans ((heap_setN_ne _ hn2 0 _).trans hI')))))⟩
  ·obtain rfl:=Option.some.inj hos
   intro σ_ aa gg hσ h
   obtain ⟨_,r0,X,rfl,hX,hI⟩:=seen_in rfl h.1
   have e0:=getD_of r0
   obtain ⟨_,r1,rfl⟩:=seen_in rfl h.2.1
   have e1:=getD_of r1
   rw [if_neg (by rw [hσ]; exact Bool.false_ne_true)] at hI
   have q0:=heapN_cellj hI (k:=0) rfl
   have z0:gg.w.frozen? ⟨X,0,none⟩ = false:=by simp [World.frozen?,hI]
   have q1:=heapN_cellj hI (k:=1) rfl
   have z1:gg.w.frozen? ⟨X,1,none⟩ = false:=by simp [World.frozen?,hI]
   refine ⟨((gg.w.setCell ⟨X,0,none⟩ ((.int .i64 0))).setCell ⟨X,1,none⟩ ((.int .i64 0))),by simp [go_sem,e0,r0,e1,r1,q0,z0,q1,z1],((gg.h.setCell (p:=⟨X,0,none⟩) hX _).setCell (p:=⟨X,1,none⟩) hX _),fun t v hv hne hΦ=>lk_pair ?_ hΦ⟩
   refine ⟨rfl,fun _ h=>h,rfl,fun _ h=>h,rfl,fun _ h=>h,rfl,fun _ h=>h,rfl,fun _ h=>h,rfl,fun _ h=>h,rfl,fun _ h=>h,rfl,fun _ h=>h,rfl,fun _ h=>h,rfl,?_,rfl,?_,rfl,?_,trivial⟩
   ·intro e hx
    subst e
    obtain ⟨X',rfl,hX',hI'⟩:=hx
    have hn:=hne (by decide) _ X r0 rfl
    have hn2:X' ≠ X:=fun e=>hn (by rw [e]; rfl)
    exact ⟨X',rfl,hX',by rw [updS_ne _ (by decide)]; exact ((heap_setN_ne _ hn2 1 _).trans ((heap_setN_ne _ hn2 0 _).trans hI'))⟩
   ·intro e hx
    subst e
    obtain ⟨X',rfl,hX',hI'⟩:=hx
    have hn:=hne (by decide) _ X r0 rfl
    have hn2:X' ≠ X:=fun e=>hn (by rw [e]; rfl)
    exact ⟨X',rfl,hX',by rw [updS_ne _ (by decide)]; exact ((heap_setN_ne _ hn2 1 _).trans ((heap_setN_ne _ hn2 0 _).trans hI'))⟩
   ·intro e hx
    subst e
    obtain ⟨X',rfl,hX',hI'⟩:=hx
    rw [r0] at hv
    have e:=Option.some.inj hv
    simp only [Value.pointer.injEq,Option.some.injEq,Addr.mk.injEq,and_true] at e
    subst e
    exact ⟨X,rfl,hX,by rw [if_pos (updS_self _ _)]; exact cellsT_setN (o:=1) (u:=(.int .i64 0)) (cellsT_setN (o:=0) (u:=(.int .i64 0)) (hI))⟩
 rintro w6 hB _ rfl _ rfl _ rfl _ rfl _ rfl _ rfl _ rfl _ rfl _ rfl _ ⟨X7,rfl,hX7,hI7⟩ _ ⟨X8,rfl,hX8,hI8⟩ _ ⟨X9,rfl,hX9,hI9⟩
 simp only [Act.put,List.setIfInBounds_toArray,List.set_cons_succ,List.set_cons_zero,List.filterMap_nil,finP]
 intro _ _
 have HN:=Lib.hid (show w6.heap[X7]? = some (.cells #[.int .i64 op,.int .i64 nn,.int .i64 lo,.int .i64 hi] 93 (0,0)) from hI7)
 have HX:=Lib.hid (show w6.heap[X8]? = some (.cells #[.int .i64 op,.int .i64 0,.int .i64 0,.int .i64 0,.int .i64 0] 112 (0,0)) from hI8)
 have HA:=Lib.hid (show w6.heap[X9]? = some (.cells #[.int .i64 (atA L cs 0),.int .i64 (atB L cs 0)] 113 (0,0)) from hI9)
 have n78:X7 ≠ X8:=fun e=>by have h:=HN.out; rw [e,HX.out] at h; simp at h
 have n79:X7 ≠ X9:=fun e=>by have h:=HN.out; rw [e,HA.out] at h; simp at h
 have n89:X8 ≠ X9:=fun e=>by have h:=HX.out; rw [e,HA.out] at h; simp at h
 have HB:=Lib.hid hB
 have HL0:=Lib.hid (show RcI w X8 X9 (.slice pl L.length cl) (.slice pl L.length cl) (compT (cs.take 0) L).1 w6 from RcI.start HL.out hB hX8 hX9)
 have HE0:=Lib.hid (show NxC w0 _ ((cs.drop 0).flatMap pre ++ R) from by rw [List.drop_zero,HT.out]; exact HE.out)
 clear hI7 hI8 hI9 d0 d1 d2 d3 hB HL HE
 by_cases hc1:c = 1
 ·have hq:=HE0.out
  rw [if_pos hc1] at hq
  have HE0:=Lib.hid hq
  clear hq
  go_wp2_with (fail)
  go_loopw [0,1,10] (fun ev_ l_ i wr=>∃ (j:Nat) (ev l:Value),ev = ev_∧l = l_∧i = .int .i64 j∧j ≤ cs.length∧Hid (NxC w0 ev ((cs.drop j).flatMap pre ++ R))∧Hid (RcI w X8 X9 (.slice pl L.length cl) l (compT (cs.take j) L).1 wr)∧Hid (wr.heap[X9]? = some (.cells #[.int .i64 (atA L cs j),.int .i64 (atB L cs j)] 113 (0,0)))∧Hid (wr.heap[X7]? = some (.cells #[.int .i64 op,.int .i64 nn,.int .i64 lo,.int .i64 hi] 93 (0,0)))∧Hid (wr.heap[X8]? = some (.cells #[.int .i64 op,.int .i64 0,.int .i64 0,.int .i64 0,.int .i64 0] 112 (0,0)))∧Hid (Below w.heap.size w wr)) (fun ev_ l_ i _=>cs.length - (intOf i).toNat)
  case atStart=>exact ⟨0,_,_,rfl,rfl,rfl,Nat.zero_le _,HE0,HL0,HA,HN,HX,HB⟩
  case round =>
   clear HE0 HL0 HA HN HX HB
   obtain ⟨j,ev,l,rfl,rfl,rfl,hj,HE,HL,HA,HN,HX,HB⟩:=hrel
   have c7:=heapN_cellj HN.out (k:=0) rfl
   have q8:=(Array.getElem?_eq_some_iff.1 HX.out).1
   have q9:=(Array.getElem?_eq_some_iff.1 HA.out).1
   go_wp2_with (fail)
   refine (KA.out _).mono ?_
   rintro e1 w1 ⟨rfl,hB⟩
   have HL:=Lib.hid (HL.out.grow hB)
   have HA:=Lib.hid (show w1.heap[X9]? = some (.cells #[.int .i64 (atA L cs j),.int .i64 (atB L cs j)] 113 (0,0)) from (hB.block _ q9).trans HA.out)
   have HN:=Lib.hid (show w1.heap[X7]? = some (.cells #[.int .i64 op,.int .i64 nn,.int .i64 lo,.int .i64 hi] 93 (0,0)) from (hB.block _ (Array.getElem?_eq_some_iff.1 HN.out).1).trans HN.out)
   have HX:=Lib.hid (show w1.heap[X8]? = some (.cells #[.int .i64 op,.int .i64 0,.int .i64 0,.int .i64 0,.int .i64 0] 112 (0,0)) from (hB.block _ q8).trans HX.out)
   have HB:=Lib.hid (below_then HB.out hB)
   clear hB c7 q8 q9
   by_cases hlt:j < cs.length
   ·have i2:(j:Int) < cs.length:=by omega
    obtain ⟨c',hc'⟩:∃ c,cs[j]? = some c:=⟨_,List.getElem?_eq_getElem hlt⟩
    have hfl:=flat_at hc'
    have hdr:(cs.drop j).flatMap pre ++ R = pre c' ++ ((cs.drop (j+1)).flatMap pre ++ R):=by rw [drop_cons hc',List.flatMap_cons,List.append_assoc]
    have hcb:=comp_bound (cs.take j) L
    have hle2:(compT (cs.take j) L).1.length+(pre c').length ≤ 100000:=by
     have:=HLE.out
     rw [hfl,List.length_append,List.length_append] at this
     omega
    have hne:=HE.out
    rw [hdr] at hne
    have HCS:=Lib.hid (comp_snoc L hc')
    have HCC:=Lib.hid hc'
    have KI:=Lib.hid (IH.out c' (List.mem_of_getElem? hc') _ _ _ _ w0 w1 (HW0.out.trans (HB.out.mono HW0.out.size)) hne HL.out.ix hle2)
    have i9:(j:Int) < 2:=by omega
    clear hfl hdr hcb hle2 hne hc'
    go_wp2_with (fail)
    refine KI.out.mono ?_
    rintro e2 w2 ⟨u,v,rfl,hu,hv,hf,hB⟩
    have h8:=(Array.getElem?_eq_some_iff.1 HX.out).1
    have h9:=(Array.getElem?_eq_some_iff.1 HA.out).1
    have hu2:IxN w2 u (compT (cs.take (j+1)) L).1:=by rw [HCS.out]; exact hu
    have HL:=Lib.hid (HL.out.next hu2 hf h8 h9 HB.out.size)
    have ha:=(hB.block _ h9).trans HA.out
    have HN:=Lib.hid (show w2.heap[X7]? = some (.cells #[.int .i64 op,.int .i64 nn,.int .i64 lo,.int .i64 hi] 93 (0,0)) from (hB.block _ (Array.getElem?_eq_some_iff.1 HN.out).1).trans HN.out)
    have HX:=Lib.hid (show w2.heap[X8]? = some (.cells #[.int .i64 op,.int .i64 0,.int .i64 0,.int .i64 0,.int .i64 0] 112 (0,0)) from (hB.block _ h8).trans HX.out)
    have HB:=Lib.hid (below_then HB.out hB)
    have HV:=Lib.hid hv
    obtain ⟨K,hK⟩:∃ K:Nat,(emitT c' (compT (cs.take j) L).1).2 = K:=⟨_,rfl⟩
    have hX9:w.heap.size ≤ X9:=hX9
    rw [hK]
    have y0:=heapN_cellj ha (k:=0) rfl
    have y1:=heapN_cellj ha (k:=1) rfl
    have z0:w2.frozen? ⟨X9,0,none⟩ = false:=by simp [World.frozen?,ha]
    have z1:w2.frozen? ⟨X9,1,none⟩ = false:=by simp [World.frozen?,ha]
    clear hu hu2 hf hB h8 h9 KI
    have hj2:j = 0 ∨ j = 1:=by omega
    rcases hj2 with rfl | rfl
    ·have hnew:(w2.setCell ⟨X9,0,none⟩ (.int .i64 (K:Int))).heap[X9]? = some (.cells #[.int .i64 (atA L cs 1),.int .i64 (atB L cs 1)] 113 (0,0)):=by
      have h:=cellsT_setN (o:=0) (u:=.int .i64 (K:Int)) ha
      obtain ⟨e1,e2⟩:=at_one HCC.out
      rw [e1,e2,hK]
      rw [(at_zero L cs).1,(at_zero L cs).2] at h
      exact h
     have HA2:=Lib.hid hnew
     clear hnew ha hK
     go_wp2_with (fail)
     go_roundw
     case rel=>exact ⟨1,_,_,rfl,rfl,by go_num,by omega,HV,Lib.hid (HL.out.set9 (grownBy_setN _ _ _)),HA2,Lib.hid (heap_ne9 HN.out n79),Lib.hid (heap_ne9 HX.out n89),Lib.hid (HB.out.setCell (p:=⟨X9,0,none⟩) hX9 _)⟩
     case measure=>simp [intOf]; omega
    ·have hnew:(w2.setCell ⟨X9,1,none⟩ (.int .i64 (K:Int))).heap[X9]? = some (.cells #[.int .i64 (atA L cs 2),.int .i64 (atB L cs 2)] 113 (0,0)):=by
      have h:=cellsT_setN (o:=1) (u:=.int .i64 (K:Int)) ha
      obtain ⟨e1,e2⟩:=at_two HCC.out
      rw [e1,e2,hK]
      exact h
     have HA2:=Lib.hid hnew
     clear hnew ha hK
     go_wp2_with (fail)
     go_roundw
     case rel=>exact ⟨2,_,_,rfl,rfl,by go_num,by omega,HV,Lib.hid (HL.out.set9 (grownBy_setN _ _ _)),HA2,Lib.hid (heap_ne9 HN.out n79),Lib.hid (heap_ne9 HX.out n89),Lib.hid (HB.out.setCell (p:=⟨X9,1,none⟩) hX9 _)⟩
     case measure=>simp [intOf]; omega
   ·obtain rfl:j = cs.length:=by omega
    have i2:¬ (cs.length:Int) < cs.length:=by omega
    have hE:=HE.out
    rw [List.drop_length] at hE
    have HEE:=Lib.hid (show NxC w0 ev R from hE)
    have hcb:=comp_bound cs L
    have hlT:=HL.out
    rw [List.take_length] at hlT
    have HLT:=Lib.hid hlT
    have hlen:(compT cs L).1.length ≤ 100000:=by have:=HLE.out; omega
    have hI:=HI.out
    obtain ⟨A,hA⟩:∃ A,atA L cs cs.length = A:=⟨_,rfl⟩
    obtain ⟨B,hB'⟩:∃ A,atB L cs cs.length = A:=⟨_,rfl⟩
    rw [hA,hB'] at hI HA
    have hN:=HN.out
    have hX:=HX.out
    have hX8:w.heap.size ≤ X8:=hX8
    have q8:=(Array.getElem?_eq_some_iff.1 HX.out).1
    have q9:=(Array.getElem?_eq_some_iff.1 HA.out).1
    have c0:=heapN_cellj hN (k:=0) rfl
    have c1:=heapN_cellj hN (k:=1) rfl
    have c2:=heapN_cellj hN (k:=2) rfl
    have c3:=heapN_cellj hN (k:=3) rfl
    have y0:=heapN_cellj HA.out (k:=0) rfl
    have y1:=heapN_cellj HA.out (k:=1) rfl
    have x0:=heapN_cellj hX (k:=0) rfl
    have x1:=heapN_cellj hX (k:=1) rfl
    have x2:=heapN_cellj hX (k:=2) rfl
    have x3:=heapN_cellj hX (k:=3) rfl
    have x4:=heapN_cellj hX (k:=4) rfl
    have z1:w1.frozen? ⟨X8,1,none⟩ = false:=by simp [World.frozen?,hX]
    have z2:w1.frozen? ⟨X8,2,none⟩ = false:=by simp [World.frozen?,hX]
    have z3:w1.frozen? ⟨X8,3,none⟩ = false:=by simp [World.frozen?,hX]
    have z4:w1.frozen? ⟨X8,4,none⟩ = false:=by simp [World.frozen?,hX]
    clear hE hlT hcb hA hB' HE HL HN HX KA
    by_cases o1:op = 1
    ·subst o1
     have hIe:I = ⟨1,A,B,lo,hi⟩:=by rw [hI]; simp
     have HL2:=Lib.hid (HLT.out.set8 (gb_trans9 (gb_trans9 (gb_trans9 (grownBy_setN w1 ⟨X8,1,none⟩ (.int .i64 A)) (grownBy_setN (w1.setCell ⟨X8,1,none⟩ (.int .i64 A)) ⟨X8,2,none⟩ (.int .i64 B))) (grownBy_setN ((w1.setCell ⟨X8,1,none⟩ (.int .i64 A)).setCell ⟨X8,2,none⟩ (.int .i64 B)) ⟨X8,3,none⟩ (.int .i64 lo))) (grownBy_setN (((w1.setCell ⟨X8,1,none⟩ (.int .i64 A)).setCell ⟨X8,2,none⟩ (.int .i64 B)).setCell ⟨X8,3,none⟩ (.int .i64 lo)) ⟨X8,4,none⟩ (.int .i64 hi))))
     have HB2:=Lib.hid ((((HB.out.setCell (p:=⟨X8,1,none⟩) hX8 (.int .i64 A)).setCell (p:=⟨X8,2,none⟩) hX8 (.int .i64 B)).setCell (p:=⟨X8,3,none⟩) hX8 (.int .i64 lo)).setCell (p:=⟨X8,4,none⟩) hX8 (.int .i64 hi))
     have q8b:X8 < ((((w1.setCell ⟨X8,1,none⟩ (.int .i64 A)).setCell ⟨X8,2,none⟩ (.int .i64 B)).setCell ⟨X8,3,none⟩ (.int .i64 lo)).setCell ⟨X8,4,none⟩ (.int .i64 hi)).heap.size:=by simp only [World.size_setCell]; exact q8
     have q9b:X9 < ((((w1.setCell ⟨X8,1,none⟩ (.int .i64 A)).setCell ⟨X8,2,none⟩ (.int .i64 B)).setCell ⟨X8,3,none⟩ (.int .i64 lo)).setCell ⟨X8,4,none⟩ (.int .i64 hi)).heap.size:=by simp only [World.size_setCell]; exact q9
     have KE:=Lib.hid (emitR_ok l (compT cs L).1 ⟨1,A,B,lo,hi⟩ ((((w1.setCell ⟨X8,1,none⟩ (.int .i64 A)).setCell ⟨X8,2,none⟩ (.int .i64 B)).setCell ⟨X8,3,none⟩ (.int .i64 lo)).setCell ⟨X8,4,none⟩ (.int .i64 hi)) HL2.out.ix hlen)
     unfold valI' at KE
     dsimp only at KE
     clear HLT hI
     go_wp2_with (fail)
     refine KE.out.mono ?_
     rintro e3 w3 ⟨u,rfl,hu,hf,hB⟩
     have HF:=Lib.hid (HL2.out.next hu hf q8b q9b HB2.out.size)
     have HB3:=Lib.hid (below_then HB2.out hB)
     have HU:=Lib.hid hu
     clear hB hu hf KE HL2 q8b q9b HB2
     go_wp2_with (fail)
     exact bodyPost_ret (v:=.tuple #[u,.int .i64 (idxI (emitI (compT cs L).1 ⟨1,A,B,lo,hi⟩) ⟨1,A,B,lo,hi⟩:Int),ev]) (by simp [results,Tryz.results57,go_sem]) rfl (by rw [hIe]; exact ⟨_,_,rfl,HU.out,HEE.out,HF.out.f,HB3.out⟩)
    ·by_cases o2:op = 2
     ·subst o2
      have hIe:I = ⟨2,nn,B,0,0⟩:=by rw [hI]; simp
      have HL2:=Lib.hid (HLT.out.set8 (gb_trans9 (gb_trans9 (grownBy_setN w1 ⟨X8,1,none⟩ (.int .i64 A)) (grownBy_setN (w1.setCell ⟨X8,1,none⟩ (.int .i64 A)) ⟨X8,2,none⟩ (.int .i64 B))) (grownBy_setN ((w1.setCell ⟨X8,1,none⟩ (.int .i64 A)).setCell ⟨X8,2,none⟩ (.int .i64 B)) ⟨X8,1,none⟩ (.int .i64 nn))))
      have HB2:=Lib.hid (((HB.out.setCell (p:=⟨X8,1,none⟩) hX8 (.int .i64 A)).setCell (p:=⟨X8,2,none⟩) hX8 (.int .i64 B)).setCell (p:=⟨X8,1,none⟩) hX8 (.int .i64 nn))
      have q8b:X8 < (((w1.setCell ⟨X8,1,none⟩ (.int .i64 A)).setCell ⟨X8,2,none⟩ (.int .i64 B)).setCell ⟨X8,1,none⟩ (.int .i64 nn)).heap.size:=by simp only [World.size_setCell]; exact q8
      have q9b:X9 < (((w1.setCell ⟨X8,1,none⟩ (.int .i64 A)).setCell ⟨X8,2,none⟩ (.int .i64 B)).setCell ⟨X8,1,none⟩ (.int .i64 nn)).heap.size:=by simp only [World.size_setCell]; exact q9
      have KE:=Lib.hid (emitR_ok l (compT cs L).1 ⟨2,nn,B,0,0⟩ (((w1.setCell ⟨X8,1,none⟩ (.int .i64 A)).setCell ⟨X8,2,none⟩ (.int .i64 B)).setCell ⟨X8,1,none⟩ (.int .i64 nn)) HL2.out.ix hlen)
      unfold valI' at KE
      dsimp only at KE
      clear HLT hI
      go_wp2_with (fail)
      refine KE.out.mono ?_
      rintro e3 w3 ⟨u,rfl,hu,hf,hB⟩
      have HF:=Lib.hid (HL2.out.next hu hf q8b q9b HB2.out.size)
      have HB3:=Lib.hid (below_then HB2.out hB)
      have HU:=Lib.hid hu
      clear hB hu hf KE HL2 q8b q9b HB2
      go_wp2_with (fail)
      exact bodyPost_ret (v:=.tuple #[u,.int .i64 (idxI (emitI (compT cs L).1 ⟨2,nn,B,0,0⟩) ⟨2,nn,B,0,0⟩:Int),ev]) (by simp [results,Tryz.results57,go_sem]) rfl (by rw [hIe]; exact ⟨_,_,rfl,HU.out,HEE.out,HF.out.f,HB3.out⟩)
     ·have n1:(op == 1) = false:=by simpa using o1
      have n2:(op == 2) = false:=by simpa using o2
      have hIe:I = ⟨op,A,B,0,0⟩:=by rw [hI]; simp [o1,o2]
      have HL2:=Lib.hid (HLT.out.set8 (gb_trans9 (grownBy_setN w1 ⟨X8,1,none⟩ (.int .i64 A)) (grownBy_setN (w1.setCell ⟨X8,1,none⟩ (.int .i64 A)) ⟨X8,2,none⟩ (.int .i64 B))))
      have HB2:=Lib.hid ((HB.out.setCell (p:=⟨X8,1,none⟩) hX8 (.int .i64 A)).setCell (p:=⟨X8,2,none⟩) hX8 (.int .i64 B))
      have q8b:X8 < ((w1.setCell ⟨X8,1,none⟩ (.int .i64 A)).setCell ⟨X8,2,none⟩ (.int .i64 B)).heap.size:=by simp only [World.size_setCell]; exact q8
      have q9b:X9 < ((w1.setCell ⟨X8,1,none⟩ (.int .i64 A)).setCell ⟨X8,2,none⟩ (.int .i64 B)).heap.size:=by simp only [World.size_setCell]; exact q9
      have KE:=Lib.hid (emitR_ok l (compT cs L).1 ⟨op,A,B,0,0⟩ ((w1.setCell ⟨X8,1,none⟩ (.int .i64 A)).setCell ⟨X8,2,none⟩ (.int .i64 B)) HL2.out.ix hlen)
      unfold valI' at KE
      dsimp only at KE
      clear HLT hI
      go_wp2_with (fail)
      refine KE.out.mono ?_
      rintro e3 w3 ⟨u,rfl,hu,hf,hB⟩
      have HF:=Lib.hid (HL2.out.next hu hf q8b q9b HB2.out.size)
      have HB3:=Lib.hid (below_then HB2.out hB)
      have HU:=Lib.hid hu
      clear hB hu hf KE HL2 q8b q9b HB2
      go_wp2_with (fail)
      exact bodyPost_ret (v:=.tuple #[u,.int .i64 (idxI (emitI (compT cs L).1 ⟨op,A,B,0,0⟩) ⟨op,A,B,0,0⟩:Int),ev]) (by simp [results,Tryz.results57,go_sem]) rfl (by rw [hIe]; exact ⟨_,_,rfl,HU.out,HEE.out,HF.out.f,HB3.out⟩)
 ·have hq:=HE0.out
  rw [if_neg hc1] at hq
  have HE0:=Lib.hid hq
  clear hq
  go_wp2_with (fail)
  go_loopw [0,1,10] (fun ev_ l_ i wr=>∃ (j:Nat) (ev l:Value),ev = ev_∧l = l_∧i = .int .i64 j∧j ≤ cs.length∧Hid (NxC w0 ev ((cs.drop j).flatMap pre ++ R))∧Hid (RcI w X8 X9 (.slice pl L.length cl) l (compT (cs.take j) L).1 wr)∧Hid (wr.heap[X9]? = some (.cells #[.int .i64 (atA L cs j),.int .i64 (atB L cs j)] 113 (0,0)))∧Hid (wr.heap[X7]? = some (.cells #[.int .i64 op,.int .i64 nn,.int .i64 lo,.int .i64 hi] 93 (0,0)))∧Hid (wr.heap[X8]? = some (.cells #[.int .i64 op,.int .i64 0,.int .i64 0,.int .i64 0,.int .i64 0] 112 (0,0)))∧Hid (Below w.heap.size w wr)) (fun ev_ l_ i _=>cs.length - (intOf i).toNat)
  case atStart=>exact ⟨0,_,_,rfl,rfl,rfl,Nat.zero_le _,HE0,HL0,HA,HN,HX,HB⟩
  case round =>
   clear HE0 HL0 HA HN HX HB
   obtain ⟨j,ev,l,rfl,rfl,rfl,hj,HE,HL,HA,HN,HX,HB⟩:=hrel
   have c7:=heapN_cellj HN.out (k:=0) rfl
   have q8:=(Array.getElem?_eq_some_iff.1 HX.out).1
   have q9:=(Array.getElem?_eq_some_iff.1 HA.out).1
   go_wp2_with (fail)
   refine (KA.out _).mono ?_
   rintro e1 w1 ⟨rfl,hB⟩
   have HL:=Lib.hid (HL.out.grow hB)
   have HA:=Lib.hid (show w1.heap[X9]? = some (.cells #[.int .i64 (atA L cs j),.int .i64 (atB L cs j)] 113 (0,0)) from (hB.block _ q9).trans HA.out)
   have HN:=Lib.hid (show w1.heap[X7]? = some (.cells #[.int .i64 op,.int .i64 nn,.int .i64 lo,.int .i64 hi] 93 (0,0)) from (hB.block _ (Array.getElem?_eq_some_iff.1 HN.out).1).trans HN.out)
   have HX:=Lib.hid (show w1.heap[X8]? = some (.cells #[.int .i64 op,.int .i64 0,.int .i64 0,.int .i64 0,.int .i64 0] 112 (0,0)) from (hB.block _ q8).trans HX.out)
   have HB:=Lib.hid (below_then HB.out hB)
   clear hB c7 q8 q9
   by_cases hlt:j < cs.length
   ·have i2:(j:Int) < cs.length:=by omega
    obtain ⟨c',hc'⟩:∃ c,cs[j]? = some c:=⟨_,List.getElem?_eq_getElem hlt⟩
    have hfl:=flat_at hc'
    have hdr:(cs.drop j).flatMap pre ++ R = pre c' ++ ((cs.drop (j+1)).flatMap pre ++ R):=by rw [drop_cons hc',List.flatMap_cons,List.append_assoc]
    have hcb:=comp_bound (cs.take j) L
    have hle2:(compT (cs.take j) L).1.length+(pre c').length ≤ 100000:=by
     have:=HLE.out
     rw [hfl,List.length_append,List.length_append] at this
     omega
    have hne:=HE.out
    rw [hdr] at hne
    have HCS:=Lib.hid (comp_snoc L hc')
    have HCC:=Lib.hid hc'
    have KI:=Lib.hid (IH.out c' (List.mem_of_getElem? hc') _ _ _ _ w0 w1 (HW0.out.trans (HB.out.mono HW0.out.size)) hne HL.out.ix hle2)
    have i9:(j:Int) < 2:=by omega
    clear hfl hdr hcb hle2 hne hc'
    go_wp2_with (fail)
    refine KI.out.mono ?_
    rintro e2 w2 ⟨u,v,rfl,hu,hv,hf,hB⟩
    have h8:=(Array.getElem?_eq_some_iff.1 HX.out).1
    have h9:=(Array.getElem?_eq_some_iff.1 HA.out).1
    have hu2:IxN w2 u (compT (cs.take (j+1)) L).1:=by rw [HCS.out]; exact hu
    have HL:=Lib.hid (HL.out.next hu2 hf h8 h9 HB.out.size)
    have ha:=(hB.block _ h9).trans HA.out
    have HN:=Lib.hid (show w2.heap[X7]? = some (.cells #[.int .i64 op,.int .i64 nn,.int .i64 lo,.int .i64 hi] 93 (0,0)) from (hB.block _ (Array.getElem?_eq_some_iff.1 HN.out).1).trans HN.out)
    have HX:=Lib.hid (show w2.heap[X8]? = some (.cells #[.int .i64 op,.int .i64 0,.int .i64 0,.int .i64 0,.int .i64 0] 112 (0,0)) from (hB.block _ h8).trans HX.out)
    have HB:=Lib.hid (below_then HB.out hB)
    have HV:=Lib.hid hv
    obtain ⟨K,hK⟩:∃ K:Nat,(emitT c' (compT (cs.take j) L).1).2 = K:=⟨_,rfl⟩
    have hX9:w.heap.size ≤ X9:=hX9
    rw [hK]
    have y0:=heapN_cellj ha (k:=0) rfl
    have y1:=heapN_cellj ha (k:=1) rfl
    have z0:w2.frozen? ⟨X9,0,none⟩ = false:=by simp [World.frozen?,ha]
    have z1:w2.frozen? ⟨X9,1,none⟩ = false:=by simp [World.frozen?,ha]
    clear hu hu2 hf hB h8 h9 KI
    have hj2:j = 0 ∨ j = 1:=by omega
    rcases hj2 with rfl | rfl
    ·have hnew:(w2.setCell ⟨X9,0,none⟩ (.int .i64 (K:Int))).heap[X9]? = some (.cells #[.int .i64 (atA L cs 1),.int .i64 (atB L cs 1)] 113 (0,0)):=by
      have h:=cellsT_setN (o:=0) (u:=.int .i64 (K:Int)) ha
      obtain ⟨e1,e2⟩:=at_one HCC.out
      rw [e1,e2,hK]
      rw [(at_zero L cs).1,(at_zero L cs).2] at h
      exact h
     have HA2:=Lib.hid hnew
     clear hnew ha hK
     go_wp2_with (fail)
     go_roundw
     case rel=>exact ⟨1,_,_,rfl,rfl,by go_num,by omega,HV,Lib.hid (HL.out.set9 (grownBy_setN _ _ _)),HA2,Lib.hid (heap_ne9 HN.out n79),Lib.hid (heap_ne9 HX.out n89),Lib.hid (HB.out.setCell (p:=⟨X9,0,none⟩) hX9 _)⟩
     case measure=>simp [intOf]; omega
    ·have hnew:(w2.setCell ⟨X9,1,none⟩ (.int .i64 (K:Int))).heap[X9]? = some (.cells #[.int .i64 (atA L cs 2),.int .i64 (atB L cs 2)] 113 (0,0)):=by
      have h:=cellsT_setN (o:=1) (u:=.int .i64 (K:Int)) ha
      obtain ⟨e1,e2⟩:=at_two HCC.out
      rw [e1,e2,hK]
      exact h
     have HA2:=Lib.hid hnew
     clear hnew ha hK
     go_wp2_with (fail)
     go_roundw
     case rel=>exact ⟨2,_,_,rfl,rfl,by go_num,by omega,HV,Lib.hid (HL.out.set9 (grownBy_setN _ _ _)),HA2,Lib.hid (heap_ne9 HN.out n79),Lib.hid (heap_ne9 HX.out n89),Lib.hid (HB.out.setCell (p:=⟨X9,1,none⟩) hX9 _)⟩
     case measure=>simp [intOf]; omega
   ·obtain rfl:j = cs.length:=by omega
    have i2:¬ (cs.length:Int) < cs.length:=by omega
    have hE:=HE.out
    rw [List.drop_length] at hE
    have HEE:=Lib.hid (show NxC w0 ev R from hE)
    have hcb:=comp_bound cs L
    have hlT:=HL.out
    rw [List.take_length] at hlT
    have HLT:=Lib.hid hlT
    have hlen:(compT cs L).1.length ≤ 100000:=by have:=HLE.out; omega
    have hI:=HI.out
    obtain ⟨A,hA⟩:∃ A,atA L cs cs.length = A:=⟨_,rfl⟩
    obtain ⟨B,hB'⟩:∃ A,atB L cs cs.length = A:=⟨_,rfl⟩
    rw [hA,hB'] at hI HA
    have hN:=HN.out
    have hX:=HX.out
    have hX8:w.heap.size ≤ X8:=hX8
    have q8:=(Array.getElem?_eq_some_iff.1 HX.out).1
    have q9:=(Array.getElem?_eq_some_iff.1 HA.out).1
    have c0:=heapN_cellj hN (k:=0) rfl
    have c1:=heapN_cellj hN (k:=1) rfl
    have c2:=heapN_cellj hN (k:=2) rfl
    have c3:=heapN_cellj hN (k:=3) rfl
    have y0:=heapN_cellj HA.out (k:=0) rfl
    have y1:=heapN_cellj HA.out (k:=1) rfl
    have x0:=heapN_cellj hX (k:=0) rfl
    have x1:=heapN_cellj hX (k:=1) rfl
    have x2:=heapN_cellj hX (k:=2) rfl
    have x3:=heapN_cellj hX (k:=3) rfl
    have x4:=heapN_cellj hX (k:=4) rfl
    have z1:w1.frozen? ⟨X8,1,none⟩ = false:=by simp [World.frozen?,hX]
    have z2:w1.frozen? ⟨X8,2,none⟩ = false:=by simp [World.frozen?,hX]
    have z3:w1.frozen? ⟨X8,3,none⟩ = false:=by simp [World.frozen?,hX]
    have z4:w1.frozen? ⟨X8,4,none⟩ = false:=by simp [World.frozen?,hX]
    clear hE hlT hcb hA hB' HE HL HN HX KA
    by_cases o1:op = 1
    ·subst o1
     have hIe:I = ⟨1,A,B,lo,hi⟩:=by rw [hI]; simp
     have HL2:=Lib.hid (HLT.out.set8 (gb_trans9 (gb_trans9 (gb_trans9 (grownBy_setN w1 ⟨X8,1,none⟩ (.int .i64 A)) (grownBy_setN (w1.setCell ⟨X8,1,none⟩ (.int .i64 A)) ⟨X8,2,none⟩ (.int .i64 B))) (grownBy_setN ((w1.setCell ⟨X8,1,none⟩ (.int .i64 A)).setCell ⟨X8,2,none⟩ (.int .i64 B)) ⟨X8,3,none⟩ (.int .i64 lo))) (grownBy_setN (((w1.setCell ⟨X8,1,none⟩ (.int .i64 A)).setCell ⟨X8,2,none⟩ (.int .i64 B)).setCell ⟨X8,3,none⟩ (.int .i64 lo)) ⟨X8,4,none⟩ (.int .i64 hi))))
     have HB2:=Lib.hid ((((HB.out.setCell (p:=⟨X8,1,none⟩) hX8 (.int .i64 A)).setCell (p:=⟨X8,2,none⟩) hX8 (.int .i64 B)).setCell (p:=⟨X8,3,none⟩) hX8 (.int .i64 lo)).setCell (p:=⟨X8,4,none⟩) hX8 (.int .i64 hi))
     have q8b:X8 < ((((w1.setCell ⟨X8,1,none⟩ (.int .i64 A)).setCell ⟨X8,2,none⟩ (.int .i64 B)).setCell ⟨X8,3,none⟩ (.int .i64 lo)).setCell ⟨X8,4,none⟩ (.int .i64 hi)).heap.size:=by simp only [World.size_setCell]; exact q8
     have q9b:X9 < ((((w1.setCell ⟨X8,1,none⟩ (.int .i64 A)).setCell ⟨X8,2,none⟩ (.int .i64 B)).setCell ⟨X8,3,none⟩ (.int .i64 lo)).setCell ⟨X8,4,none⟩ (.int .i64 hi)).heap.size:=by simp only [World.size_setCell]; exact q9
     have KE:=Lib.hid (emitR_ok l (compT cs L).1 ⟨1,A,B,lo,hi⟩ ((((w1.setCell ⟨X8,1,none⟩ (.int .i64 A)).setCell ⟨X8,2,none⟩ (.int .i64 B)).setCell ⟨X8,3,none⟩ (.int .i64 lo)).setCell ⟨X8,4,none⟩ (.int .i64 hi)) HL2.out.ix hlen)
     unfold valI' at KE
     dsimp only at KE
     clear HLT hI
     go_wp2_with (fail)
     refine KE.out.mono ?_
     rintro e3 w3 ⟨u,rfl,hu,hf,hB⟩
     have HF:=Lib.hid (HL2.out.next hu hf q8b q9b HB2.out.size)
     have HB3:=Lib.hid (below_then HB2.out hB)
     have HU:=Lib.hid hu
     clear hB hu hf KE HL2 q8b q9b HB2
     go_wp2_with (fail)
     exact bodyPost_ret (v:=.tuple #[u,.int .i64 (idxI (emitI (compT cs L).1 ⟨1,A,B,lo,hi⟩) ⟨1,A,B,lo,hi⟩:Int),ev]) (by simp [results,Tryz.results57,go_sem]) rfl (by rw [hIe]; exact ⟨_,_,rfl,HU.out,HEE.out,HF.out.f,HB3.out⟩)
    ·by_cases o2:op = 2
     ·subst o2
      have hIe:I = ⟨2,nn,B,0,0⟩:=by rw [hI]; simp
      have HL2:=Lib.hid (HLT.out.set8 (gb_trans9 (gb_trans9 (grownBy_setN w1 ⟨X8,1,none⟩ (.int .i64 A)) (grownBy_setN (w1.setCell ⟨X8,1,none⟩ (.int .i64 A)) ⟨X8,2,none⟩ (.int .i64 B))) (grownBy_setN ((w1.setCell ⟨X8,1,none⟩ (.int .i64 A)).setCell ⟨X8,2,none⟩ (.int .i64 B)) ⟨X8,1,none⟩ (.int .i64 nn))))
      have HB2:=Lib.hid (((HB.out.setCell (p:=⟨X8,1,none⟩) hX8 (.int .i64 A)).setCell (p:=⟨X8,2,none⟩) hX8 (.int .i64 B)).setCell (p:=⟨X8,1,none⟩) hX8 (.int .i64 nn))
      have q8b:X8 < (((w1.setCell ⟨X8,1,none⟩ (.int .i64 A)).setCell ⟨X8,2,none⟩ (.int .i64 B)).setCell ⟨X8,1,none⟩ (.int .i64 nn)).heap.size:=by simp only [World.size_setCell]; exact q8
      have q9b:X9 < (((w1.setCell ⟨X8,1,none⟩ (.int .i64 A)).setCell ⟨X8,2,none⟩ (.int .i64 B)).setCell ⟨X8,1,none⟩ (.int .i64 nn)).heap.size:=by simp only [World.size_setCell]; exact q9
      have KE:=Lib.hid (emitR_ok l (compT cs L).1 ⟨2,nn,B,0,0⟩ (((w1.setCell ⟨X8,1,none⟩ (.int .i64 A)).setCell ⟨X8,2,none⟩ (.int .i64 B)).setCell ⟨X8,1,none⟩ (.int .i64 nn)) HL2.out.ix hlen)
      unfold valI' at KE
      dsimp only at KE
      clear HLT hI
      go_wp2_with (fail)
      refine KE.out.mono ?_
      rintro e3 w3 ⟨u,rfl,hu,hf,hB⟩
      have HF:=Lib.hid (HL2.out.next hu hf q8b q9b HB2.out.size)
      have HB3:=Lib.hid (below_then HB2.out hB)
      have HU:=Lib.hid hu
      clear hB hu hf KE HL2 q8b q9b HB2
      go_wp2_with (fail)
      exact bodyPost_ret (v:=.tuple #[u,.int .i64 (idxI (emitI (compT cs L).1 ⟨2,nn,B,0,0⟩) ⟨2,nn,B,0,0⟩:Int),ev]) (by simp [results,Tryz.results57,go_sem]) rfl (by rw [hIe]; exact ⟨_,_,rfl,HU.out,HEE.out,HF.out.f,HB3.out⟩)
     ·have n1:(op == 1) = false:=by simpa using o1
      have n2:(op == 2) = false:=by simpa using o2
      have hIe:I = ⟨op,A,B,0,0⟩:=by rw [hI]; simp [o1,o2]
      have HL2:=Lib.hid (HLT.out.set8 (gb_trans9 (grownBy_setN w1 ⟨X8,1,none⟩ (.int .i64 A)) (grownBy_setN (w1.setCell ⟨X8,1,none⟩ (.int .i64 A)) ⟨X8,2,none⟩ (.int .i64 B))))
      have HB2:=Lib.hid ((HB.out.setCell (p:=⟨X8,1,none⟩) hX8 (.int .i64 A)).setCell (p:=⟨X8,2,none⟩) hX8 (.int .i64 B))
      have q8b:X8 < ((w1.setCell ⟨X8,1,none⟩ (.int .i64 A)).setCell ⟨X8,2,none⟩ (.int .i64 B)).heap.size:=by simp only [World.size_setCell]; exact q8
      have q9b:X9 < ((w1.setCell ⟨X8,1,none⟩ (.int .i64 A)).setCell ⟨X8,2,none⟩ (.int .i64 B)).heap.size:=by simp only [World.size_setCell]; exact q9
      have KE:=Lib.hid (emitR_ok l (compT cs L).1 ⟨op,A,B,0,0⟩ ((w1.setCell ⟨X8,1,none⟩ (.int .i64 A)).setCell ⟨X8,2,none⟩ (.int .i64 B)) HL2.out.ix hlen)
      unfold valI' at KE
      dsimp only at KE
      clear HLT hI
      go_wp2_with (fail)
      refine KE.out.mono ?_
      rintro e3 w3 ⟨u,rfl,hu,hf,hB⟩
      have HF:=Lib.hid (HL2.out.next hu hf q8b q9b HB2.out.size)
      have HB3:=Lib.hid (below_then HB2.out hB)
      have HU:=Lib.hid hu
      clear hB hu hf KE HL2 q8b q9b HB2
      go_wp2_with (fail)
      exact bodyPost_ret (v:=.tuple #[u,.int .i64 (idxI (emitI (compT cs L).1 ⟨op,A,B,0,0⟩) ⟨op,A,B,0,0⟩:Int),ev]) (by simp [results,Tryz.results57,go_sem]) rfl (by rw [hIe]; exact ⟨_,_,rfl,HU.out,HEE.out,HF.out.f,HB3.out⟩)
theorem vn_opR {N:Int} {x:Nd} (h:vnB N x = true):1 ≤ x.op∧x.op ≤ 10∧(x.op = 1→x.n = 0)∧(x.op = 2→x.lo = 0∧x.hi = 0)∧(x.op ≠ 1→x.op ≠ 2→x.n = 0∧x.lo = 0∧x.hi = 0):=by
 unfold vnB at h
 split at h
 ·next e =>
  simp only [Bool.and_eq_true,decide_eq_true_eq] at h
  exact ⟨by omega,by omega,fun _=>h.1,fun e2=>by omega,fun e2=>absurd e e2⟩
 split at h
 ·next e1 e =>
  simp only [Bool.and_eq_true,decide_eq_true_eq] at h
  exact ⟨by omega,by omega,fun e2=>by omega,fun _=>h.1,fun _ e2=>absurd e e2⟩
 split at h
 ·next e1 e2 e =>
  simp only [Bool.and_eq_true,decide_eq_true_eq] at h
  exact ⟨by omega,by omega,fun h=>absurd h e1,fun h=>absurd h e2,fun _ _=>⟨h.1.1,h.1.2,h.2⟩⟩
 ·cases h
theorem raI_ar9 {op:Int} (h1:1 ≤ op) (h2:op ≤ 10):raI op = arI op:=by
 unfold raI arI
 (repeat' split) <;> omega
theorem arI_no {op:Int} (h:0 < arI op):op ≠ 1∧op ≠ 2:=by
 unfold arI at h
 constructor
 ·rintro rfl; simp at h
 ·rintro rfl; simp at h
theorem rc_ok {N:Int} (t:Ex):EV N t→RC t:=by
 induction t with
 | e0 x =>
  intro h L R ve vl w0 w hw he hl hle
  obtain ⟨o1,o2,o3,o4,o5⟩:=vn_opR h.2
  have hr:raI x.op = (([]:List Ex).length:Int):=(raI_ar9 o1 o2).trans h.1
  have hle2:L.length+(([]:List Ex).flatMap pre).length+1 ≤ 100000:=hle
  refine rc_step x.op x.n x.lo x.hi [] ⟨x.op,x.n,0,x.lo,x.hi⟩ ⟨o1,o2⟩ hr (by simp) (fun c hc=>by cases hc) L R ve vl w0 w hw he hl hle2 ?_
  by_cases e1:x.op = 1
  ·simp [e1,o3 e1,atA,atB,compT]
  ·by_cases e2:x.op = 2
   ·simp [e2,o4 e2,atB,compT]
   ·simp [e1,e2,o5 e1 e2,atA,atB,compT]
 | e1 x a iha =>
  intro h L R ve vl w0 w hw he hl hle
  obtain ⟨o1,o2,o3,o4,o5⟩:=vn_opR h.1.2
  have hr:raI x.op = (([a]:List Ex).length:Int):=(raI_ar9 o1 o2).trans h.1.1
  have hle2:L.length+(([a]:List Ex).flatMap pre).length+1 ≤ 100000:=by
   have e:(pre (.e1 x a)).length = (pre a).length+1:=by simp [pre]
   rw [e] at hle
   simp only [List.flatMap_cons,List.flatMap_nil,List.append_nil]
   omega
  have he2:NxC w0 ve (⟨x.op,x.n,x.lo,x.hi⟩ :: (([a]:List Ex).flatMap pre ++ R)):=by
   simp only [List.flatMap_cons,List.flatMap_nil,List.append_nil]
   exact he
  obtain ⟨n1,n2⟩:=arI_no (op:=x.op) (by rw [h.1.1]; decide)
  obtain ⟨z1,z2,z3⟩:=o5 n1 n2
  refine rc_step x.op x.n x.lo x.hi [a] ⟨x.op,(emitT a L).2,0,x.lo,x.hi⟩ ⟨o1,o2⟩ hr (by simp) (fun c hc=>by rw [List.mem_singleton] at hc; subst hc; exact iha h.2) L R ve vl w0 w hw he2 hl hle2 ?_
  simp [n1,n2,z2,z3,atA,atB,compT]
 | e2 x a b iha ihb =>
  intro h L R ve vl w0 w hw he hl hle
  obtain ⟨o1,o2,o3,o4,o5⟩:=vn_opR h.1.2
  have hr:raI x.op = (([a,b]:List Ex).length:Int):=(raI_ar9 o1 o2).trans h.1.1
  have hle2:L.length+(([a,b]:List Ex).flatMap pre).length+1 ≤ 100000:=by
   have e:(pre (.e2 x a b)).length = (pre a).length+(pre b).length+1:=by simp [pre]
   rw [e] at hle
   simp only [List.flatMap_cons,List.flatMap_nil,List.append_nil,List.length_append]
   omega
  have he2:NxC w0 ve (⟨x.op,x.n,x.lo,x.hi⟩ :: (([a,b]:List Ex).flatMap pre ++ R)):=by
   simp only [List.flatMap_cons,List.flatMap_nil,List.append_nil]
   exact he
  obtain ⟨n1,n2⟩:=arI_no (op:=x.op) (by rw [h.1.1]; decide)
  obtain ⟨z1,z2,z3⟩:=o5 n1 n2
  refine rc_step x.op x.n x.lo x.hi [a,b] ⟨x.op,(emitT a L).2,(emitT b (emitT a L).1).2,x.lo,x.hi⟩ ⟨o1,o2⟩ hr (by simp) (fun c hc=>by
   rw [List.mem_cons,List.mem_singleton] at hc
   rcases hc with rfl | rfl
   ·exact iha h.2.1
   ·exact ihb h.2.2) L R ve vl w0 w hw he2 hl hle2 ?_
  simp [n1,n2,z2,z3,atA,atB,compT]
theorem ixn_lt {W:World} {v:Value} {T:List Is} (h:IxN W v T):T = [] ∨ ∃ b,v.ownBlock = some b∧b < W.heap.size:=by
 cases T with
 | nil=>exact .inl rfl
 | cons x T =>
  obtain ⟨_,p,c,rfl,h2⟩:=h.1
  obtain ⟨b,o,rfl,h3,_⟩:=h2 0 x rfl
  exact .inr ⟨b,rfl,h3⟩
theorem ixn_same {W W':World} {v:Value} {T T':List Is} (h:IxN W v T) (h':IxN W' v T') (e:T = []):T' = []:=by
 obtain ⟨_,p,c,hp,_⟩:=h
 obtain ⟨_,p',c',hp',_⟩:=h'
 rw [hp'] at hp
 simp only [Value.slice.injEq] at hp
 rw [e] at hp
 exact List.eq_nil_of_length_eq_zero hp.2.1
structure RkI (w0:World) (C:Nat) (m:Int) (l r:Value) (T:List Is) (O:List Int) (W:World):Prop where
 bx:W.heap[C]? = some (.cells #[.int .i64 m,l,r] 39 (0,0))
 ix:IxN W l T
 row:W.ownsRow (C+1) 3 1 r O.length (cr enc1 O)
 d:T = [] ∨ ((∀ b,l.ownBlock = some b→C < b)∧l.ownBlock ≠ r.ownBlock)
 bel:Below C w0 W
theorem ne_of_lt9 {l:Value} {C X:Nat} (h:∀ b,l.ownBlock = some b→C < b) (hX:X ≤ C):l.ownBlock ≠ some X:=fun e=>by have:=h _ e; omega
theorem RkI.grow {w0 W W':World} {C:Nat} {m:Int} {l r:Value} {T:List Is} {O:List Int} (h:RkI w0 C m l r T O W) (hB:Below W.heap.size W W'):RkI w0 C m l r T O W' :=
 ⟨(hB.block _ (Array.getElem?_eq_some_iff.1 h.bx).1).trans h.bx,h.ix.grow hB,own_keptN h.row hB,h.d,h.bel.trans (hB.mono (Nat.le_of_lt (Array.getElem?_eq_some_iff.1 h.bx).1))⟩
theorem RkI.put1 {w0 W W1:World} {C:Nat} {m:Int} {l r u:Value} {T T':List Is} {O:List Int} (h:RkI w0 C m l r T O W) (hB:Below W.heap.size W W1) (hu:IxN W1 u T') (hf:u = l ∨ ∀ b,u.ownBlock = some b→W.heap.size ≤ b):RkI w0 C m u r T' O (W1.setCell ⟨C,1,none⟩ u):=by
 have hC:=(Array.getElem?_eq_some_iff.1 h.bx).1
 have h1:=h.grow hB
 have hd:T' = [] ∨ ((∀ b,u.ownBlock = some b→C < b)∧u.ownBlock ≠ r.ownBlock):=by
  rcases ixn_lt hu with e | ⟨b,hb,hlt⟩
  ·exact .inl e
  ·rcases hf with rfl | hf
   ·rcases h.d with e | e
    ·exact .inl (ixn_same h.ix hu e)
    ·exact .inr e
   ·have:=hf b hb
    refine .inr ⟨fun b' e=>by rw [hb] at e; have:=Option.some.inj e; omega,fun e=>?_⟩
    rw [hb] at e
    have:=(h.row.lt b e.symm).2
    omega
 exact ⟨cellsT_setN (o:=1) (u:=u) h1.bx,ixn_keptN hu (grownBy_setN _ ⟨C,1,none⟩ _) (hd.imp id fun q=>ne_of_lt9 q.1 (Nat.le_refl _)),h1.row.kept (grownBy_setN _ ⟨C,1,none⟩ _) (by
  cases e:r.ownBlock with
  | none=>exact .inl rfl
  | some b=>exact .inr (fun e2=>by have:=(h.row.lt b e).1; have e3:b = C:=Option.some.inj e2; omega)),hd,h1.bel.setCell (p:=⟨C,1,none⟩) (Nat.le_refl _) _⟩
theorem RkI.put2 {w0 W W':World} {C:Nat} {m:Int} {l r r':Value} {T:List Is} {O:List Int} {x:Int} (h:RkI w0 C m l r T O W) (ho:W'.ownsRow (C+1) 3 1 r' (O.length+1) (cr enc1 O ++ enc1 x)) (hg:W.grownBy W' r.ownBlock) (hat:r'.ownBlock = r.ownBlock ∨ r'.ownBlock = some W.heap.size) :
  W'.heap[C]? = some (.cells #[.int .i64 m,l,r] 39 (0,0))∧RkI w0 C m l r' T (O ++ [x]) (W'.setCell ⟨C,2,none⟩ r'):=by
 have hC:=(Array.getElem?_eq_some_iff.1 h.bx).1
 have hb:=(hg.block _ hC (fun e=>by have:=(h.row.lt _ e.symm).1; omega)).trans h.bx
 have hd:T = [] ∨ ((∀ b,l.ownBlock = some b→C < b)∧l.ownBlock ≠ r'.ownBlock):=by
  rcases h.d with e | ⟨e1,e2⟩
  ·exact .inl e
  ·rcases ixn_lt h.ix with e | ⟨b,hb,hlt⟩
   ·exact .inl e
   ·refine .inr ⟨e1,?_⟩
    rcases hat with e | e
    ·rw [e]; exact e2
    ·rw [e,hb]
     intro e3
     have:=Option.some.inj e3
     omega
 have hix:=ixn_keptN h.ix hg (h.d.imp id And.right)
 have hbel:Below C w0 W':=Below.grown h.bel hg (Nat.le_of_lt hC) (fun i e=>Nat.le_of_succ_le (h.row.lt i e).1)
 refine ⟨hb,cellsT_setN (o:=2) (u:=r') hb,ixn_keptN hix (grownBy_setN _ ⟨C,2,none⟩ _) (hd.imp id fun q=>ne_of_lt9 q.1 (Nat.le_refl _)),?_,hd,hbel.setCell (p:=⟨C,2,none⟩) (Nat.le_refl _) _⟩
 rw [List.length_append,List.length_singleton,cr_snoc]
 exact ho.kept (grownBy_setN _ ⟨C,2,none⟩ _) (by
  cases e:r'.ownBlock with
  | none=>exact .inl rfl
  | some b=>exact .inr (fun e2=>by have:=(ho.lt b e).1; have e3:b = C:=Option.some.inj e2; omega))
theorem emp_own (W:World) (B:Nat) (t:TypeId) (sz:Nat):W.ownsRow B t sz (.slice none 0 0) 0 []:=⟨by simp,.inl ⟨rfl,by simp⟩⟩
set_option maxHeartbeats 64000000 in
theorem rcomp_ok {N:Int} (vn vf:Value) (ts:List Ex) (w:World) (hf:Lx NxO w vf (ts.map pre)) (hev:∀ t ∈ ts,EV N t) (h6:ts.length ≤ 6) (hlen:(compT ts []).1.length ≤ 400) (hpl:∀ t ∈ ts,(pre t).length ≤ 1000) :
  Calls Tryz.prog 37 #[.agg #[vn,vf]] w fun e w'=>∃ u r,e = .returned (.agg #[.int .i64 ts.length,u,r])∧Ix w' u (compT ts []).1∧Px w' r (compT ts []).2∧Below w.heap.size w w':=by
 obtain ⟨i1,hi1,hy0,hy1,hy2⟩:=info_parts info_int
 obtain ⟨pf,cf,rfl⟩:=hf.cut
 rw [List.length_map] at hf ⊢
 have hE:Below w.heap.size w (((w.alloc (.cells #[vn,.slice pf ts.length cf] 73)).alloc (.cells #[.int .i64 0,.slice none 0 0,.slice none 0 0] 39)).alloc (.cells #[.int .i64 ts.length,.slice none 0 0,.slice none 0 0] 39)):=(((Below.refl _ _).alloc (Nat.le_refl _) _).alloc (by rw [alloc_sz]; omega) _).alloc (by rw [alloc_sz,alloc_sz]; omega) _
 have hs0:(((w.alloc (.cells #[vn,.slice pf ts.length cf] 73)).alloc (.cells #[.int .i64 0,.slice none 0 0,.slice none 0 0] 39)).alloc (.cells #[.int .i64 ts.length,.slice none 0 0,.slice none 0 0] 39)).heap[w.heap.size]? = some (.cells #[vn,.slice pf ts.length cf] 73 (0,0)):=(heap_alloc_old _ _ (by rw [alloc_sz,alloc_sz]; omega)).trans ((heap_alloc_old _ _ (by rw [alloc_sz]; omega)).trans (World.alloc_heap_new w _))
 have hs1:(((w.alloc (.cells #[vn,.slice pf ts.length cf] 73)).alloc (.cells #[.int .i64 0,.slice none 0 0,.slice none 0 0] 39)).alloc (.cells #[.int .i64 ts.length,.slice none 0 0,.slice none 0 0] 39)).heap[w.heap.size+1]? = some (.cells #[.int .i64 0,.slice none 0 0,.slice none 0 0] 39 (0,0)):=(heap_alloc_old _ _ (by rw [alloc_sz,alloc_sz]; omega)).trans (by have h:=World.alloc_heap_new (w.alloc (.cells #[vn,.slice pf ts.length cf] 73)) (.cells #[.int .i64 0,.slice none 0 0,.slice none 0 0] 39); rwa [alloc_sz] at h)
 have hs2:(((w.alloc (.cells #[vn,.slice pf ts.length cf] 73)).alloc (.cells #[.int .i64 0,.slice none 0 0,.slice none 0 0] 39)).alloc (.cells #[.int .i64 ts.length,.slice none 0 0,.slice none 0 0] 39)).heap[w.heap.size+1+1]? = some (.cells #[.int .i64 ts.length,.slice none 0 0,.slice none 0 0] 39 (0,0)):=by have h:=World.alloc_heap_new ((w.alloc (.cells #[vn,.slice pf ts.length cf] 73)).alloc (.cells #[.int .i64 0,.slice none 0 0,.slice none 0 0] 39)) (.cells #[.int .i64 ts.length,.slice none 0 0,.slice none 0 0] 39); rwa [alloc_sz,alloc_sz] at h
 have HS:=Lib.hid hs0
 have HZ:=Lib.hid hs1
 have HI0:=Lib.hid (show RkI (((w.alloc (.cells #[vn,.slice pf ts.length cf] 73)).alloc (.cells #[.int .i64 0,.slice none 0 0,.slice none 0 0] 39)).alloc (.cells #[.int .i64 ts.length,.slice none 0 0,.slice none 0 0] 39)) (w.heap.size+1+1) ts.length (.slice none 0 0) (.slice none 0 0) (compT (ts.take 0) []).1 (compT (ts.take 0) []).2 (((w.alloc (.cells #[vn,.slice pf ts.length cf] 73)).alloc (.cells #[.int .i64 0,.slice none 0 0,.slice none 0 0] 39)).alloc (.cells #[.int .i64 ts.length,.slice none 0 0,.slice none 0 0] 39)) from ⟨hs2,IxN.nil _,emp_own _ _ _ _,.inl rfl,Below.refl _ _⟩)
 have HF:=Lib.hid hf
 have HEV:=Lib.hid hev
 have HLN:=Lib.hid hlen
 have HPL:=Lib.hid hpl
 have HW:=Lib.hid hE
 have c1:=heapN_cellj hs0 (k:=1) rfl
 clear hf hev hlen hpl hE hs0 hs1 hs2
 go_enter Tryz.func37,Tryz.ntmps37
 go_wp2_with (fail)
 generalize hWc:World.alloc (World.alloc (World.alloc w _) _) _ = W5 at *
 clear hWc
 clear c1
 have c1:=heapN_cellj HS.out (k:=1) rfl
 go_loopw [4,5,6,7] (fun i a b c wr=>∃ (k:Nat) (l r:Value),i = .int .i64 k∧k ≤ ts.length∧Hid (RkI W5 (w.heap.size+1+1) ts.length l r (compT (ts.take k) []).1 (compT (ts.take k) []).2 wr)) (fun i a b c _=>ts.length - (intOf i).toNat)
 case atStart=>exact ⟨0,_,_,rfl,Nat.zero_le _,HI0⟩
 case round =>
  clear HI0 c1
  obtain ⟨k,l,r,rfl,hk,HI⟩:=hrel
  have HT:=Lib.hid (HW.out.trans (HI.out.bel.mono (by omega)))
  have c1:=heapN_cellj ((HI.out.bel.block _ (by omega)).trans HS.out) (k:=1) rfl
  by_cases hlt:k < ts.length
  ·have i2:(k:Int) < ts.length:=by omega
   obtain ⟨t,ht⟩:∃ t,ts[k]? = some t:=⟨_,List.getElem?_eq_getElem hlt⟩
   have htm:=List.mem_of_getElem? ht
   have hpt:(ts.map pre)[k]? = some (pre t):=by rw [List.getElem?_map,ht]; rfl
   obtain ⟨bf,of,ue,hpf,hbf,rdf⟩:=HF.out.rd grows_nxo hpt
   obtain ⟨_,q0,hnx⟩:=rdf ⟨w,Below.refl _ _⟩
   have hne:NxC w ue (pre t ++ []):=by rw [List.append_nil]; exact hnx.1
   have hsn:=compT_snoc ht
   have hlk:(compT (ts.take k) []).1.length+(pre t).length ≤ 100000:=by
    have h1:=compT_take ts k
    have h2:=HLN.out
    have h3:=HPL.out t htm
    omega
   have KC:=Lib.hid (fun (g:Grown wr)=>rc_ok t (HEV.out t htm) (compT (ts.take k) []).1 [] ue l w g.w (HT.out.trans (g.h.mono HT.out.size)) hne (HI.out.ix.grow g.h) hlk)
   obtain ⟨⟨T',K⟩,hTK⟩:∃ p,emitT t (compT (ts.take k) []).1 = p:=⟨_,rfl⟩
   rw [hTK] at KC hsn
   dsimp only at KC hsn
   have HSN:=Lib.hid hsn
   have f0:=fun g:Grown wr=>(rdf ⟨g.w,HT.out.trans (g.h.mono HT.out.size)⟩).2.1
   have b1:=fun g:Grown wr=>heapN_cellj ((HI.out.grow g.h).bx) (k:=1) rfl
   have s1:=fun g:Grown wr=>heapN_cellj ((g.h.block _ (Array.getElem?_eq_some_iff.1 ((HI.out.bel.block _ (by omega)).trans HS.out)).1).trans ((HI.out.bel.block _ (by omega)).trans HS.out)) (k:=1) rfl
   subst hpf
   clear rdf q0 hnx hne hsn hTK hlk ht htm hpt hbf
   go_wp2_with (fail)
   refine region_pred (lk [(20,fun z_ _=>z_ = .pointer (some ⟨w.heap.size,1,none⟩)),(21,fun z_ _=>z_ = .slice (some ⟨bf,of,none⟩) ts.length cf),(22,fun z_ _=>z_ = .int .i64 (k:Int)),(23,fun z_ _=>z_ = .pointer (some ⟨bf,of+k,none⟩)),(24,fun z_ _=>ue = z_),(25,fun z_ _=>z_ = .pointer (some ⟨w.heap.size+1+1,1,none⟩)),(26,fun z_ _=>l = z_),(27,fun z_ w'=>∃ u_ v_,z_ = .tuple #[u_,.int .i64 (K:Int),v_]∧IxN w' u_ T'∧(u_ = l ∨ ∀ b_,u_.ownBlock = some b_→wr.heap.size ≤ b_)),(19,fun z_ w'=>∃ u_ v_,z_ = .tuple #[u_,.int .i64 (K:Int),v_]∧IxN w' u_ T'∧(u_ = l ∨ ∀ b_,u_.ownBlock = some b_→wr.heap.size ≤ b_)),(28,fun z_ w'=>IxN w' z_ T'∧(z_ = l ∨ ∀ b_,z_.ownBlock = some b_→wr.heap.size ≤ b_)),(29,fun z_ _=>z_ = .int .i64 (K:Int)),(30,fun _ _=>True),(5,fun z_ w'=>IxN w' z_ T'∧(z_ = l ∨ ∀ b_,z_.ownBlock = some b_→wr.heap.size ≤ b_)),(6,fun z_ _=>z_ = .int .i64 (K:Int)),(7,fun _ _=>True)]) (by kernel_rfl) (by kernel_rfl) (lk_steady _ ⟨steady_eq _,steady_eq _,steady_eq _,steady_eq _,fun u w1 w2 hb h=>h,steady_eq _,fun u w1 w2 hb h=>h,fun u w1 w2 hb ⟨a,b,e,h1,h2⟩=>⟨a,b,e,h1.grow hb,h2⟩,fun u w1 w2 hb ⟨a,b,e,h1,h2⟩=>⟨a,b,e,h1.grow hb,h2⟩,fun u w1 w2 hb ⟨h1,h2⟩=>⟨h1.grow hb,h2⟩,steady_eq _,fun u w1 w2 hb _=>trivial,fun u w1 w2 hb ⟨h1,h2⟩=>⟨h1.grow hb,h2⟩,steady_eq _,fun u w1 w2 hb _=>trivial,trivial⟩) ?_ ?_
   ·refine ⟨?_,?_,?_,?_,?_,?_,?_,?_,?_,?_,?_,?_,?_,?_,?_,trivial⟩
    ·refine ob_plain [1] rfl rfl fun aa g h=>?_
     have yy0:=seen_out (v:=.pointer (some ⟨w.heap.size,0,none⟩)) rfl rfl h.1
     exact tvS (by simp [go_sem,yy0]) rfl
    ·refine ob_plain [20] rfl rfl fun aa g h=>?_
     obtain ⟨_,yy0,rfl⟩:=seen_in rfl h.1
     exact tvS (by simp [go_sem,yy0,s1 g]) rfl
    ·refine ob_plain [4] rfl rfl fun aa g h=>?_
     have yy0:=seen_out (v:=.int .i64 (k:Int)) rfl rfl h.1
     exact tvS (by simp [go_sem,yy0]) rfl
    ·refine ob_plain [21,22] rfl rfl fun aa g h=>?_
     obtain ⟨_,yy0,rfl⟩:=seen_in rfl h.1
     obtain ⟨_,yy1,rfl⟩:=seen_in rfl h.2.1
     exact tvS (by simp [go_sem,yy0,yy1,i2]) rfl
    ·refine ob_plain [23] rfl rfl fun aa g h=>?_
     obtain ⟨_,yy0,rfl⟩:=seen_in rfl h.1
     exact tvS (by simp [go_sem,yy0,f0 g]) rfl
    ·refine ob_plain [3] rfl rfl fun aa g h=>?_
     have yy0:=seen_out (v:=.pointer (some ⟨w.heap.size+1+1,0,none⟩)) rfl rfl h.1
     exact tvS (by simp [go_sem,yy0]) rfl
    ·refine ob_plain [25] rfl rfl fun aa g h=>?_
     obtain ⟨_,yy0,rfl⟩:=seen_in rfl h.1
     exact tvS (by simp [go_sem,yy0,b1 g]) rfl
    ·refine ob_plain [24,26] rfl rfl fun aa g h=>?_
     obtain ⟨_,yy0,rfl⟩:=seen_in rfl h.1
     obtain ⟨_,yy1,rfl⟩:=seen_in rfl h.2.1
     refine tupon_enter (f:=57) (args:=#[ue,l]) (by simp [go_sem,yy0,yy1]) rfl ?_
     exact (KC.out g).mono fun e w' ⟨u9,v9,he,hu,_,hf,hB⟩=>⟨_,he,hB,⟨_,_,rfl,hu,hf.imp id (fun hq b_ hb_=>Nat.le_trans g.h.size (hq b_ hb_))⟩⟩
    ·refine ob_plain [27] rfl rfl fun aa g h=>?_
     obtain ⟨_,yy0,⟨u27,v27,rfl,hu27,hf27⟩⟩:=seen_in rfl h.1
     exact tupon_value (v:=.tuple #[u27,.int .i64 (K:Int),v27]) (by simp [go_sem,yy0]) (Below.refl _ _) ⟨_,_,rfl,hu27,hf27⟩
    ·refine ob_plain [19] rfl rfl fun aa g h=>?_
     obtain ⟨_,yy0,⟨u19,v19,rfl,hu19,hf19⟩⟩:=seen_in rfl h.1
     exact tupon_value (v:=u19) (by simp [go_sem,yy0]) (Below.refl _ _) ⟨hu19,hf19⟩
    ·refine ob_plain [19] rfl rfl fun aa g h=>?_
     obtain ⟨_,yy0,⟨u19,v19,rfl,hu19,hf19⟩⟩:=seen_in rfl h.1
     exact tvS (by simp [go_sem,yy0]) rfl
    ·refine ob_plain [19] rfl rfl fun aa g h=>?_
     obtain ⟨_,yy0,⟨u19,v19,rfl,hu19,hf19⟩⟩:=seen_in rfl h.1
     exact tupon_value (v:=v19) (by simp [go_sem,yy0]) (Below.refl _ _) trivial
    ·refine ob_plain [28] rfl rfl fun aa g h=>?_
     obtain ⟨z28,yy0,⟨hu28,hf28⟩⟩:=seen_in rfl h.1
     exact tupon_value (v:=z28) (by simp [go_sem,yy0]) (Below.refl _ _) ⟨hu28,hf28⟩
    ·refine ob_plain [29] rfl rfl fun aa g h=>?_
     obtain ⟨_,yy0,rfl⟩:=seen_in rfl h.1
     exact tvS (by simp [go_sem,yy0]) rfl
    ·refine ob_plain [30] rfl rfl fun aa g h=>?_
     obtain ⟨z30,yy0,_⟩:=seen_in rfl h.1
     exact tupon_value (v:=z30) (by simp [go_sem,yy0]) (Below.refl _ _) trivial
   rintro w6 hB _ rfl _ rfl _ rfl _ rfl _ rfl _ rfl _ rfl _ ⟨u27,v27,rfl,hu27,hf27⟩ _ ⟨u19,v19,rfl,hu19,hf19⟩ z28 ⟨hu28,hf28⟩ _ rfl z30 _ z5 ⟨hu5,hf5⟩ _ rfl z7 _
   simp only [Act.put,List.setIfInBounds_toArray,List.set_cons_succ,List.set_cons_zero,List.filterMap_nil,finP]
   obtain ⟨p5,c5,rfl⟩:=hu5.1.cut
   have h6:=HI.out.grow hB
   have y1:=heapN_cellj h6.bx (k:=1) rfl
   have y2:=heapN_cellj h6.bx (k:=2) rfl
   have zz1:w6.frozen? ⟨w.heap.size+1+1,1,none⟩ = false:=by simp [World.frozen?,h6.bx]
   have HP:=Lib.hid (HI.out.put1 hB hu5 hf5)
   have HO:=Lib.hid (HP.out.grow ((Below.refl _ _).alloc (Nat.le_refl _) (.cells #[.int .i64 (K:Int)] 3)))
   have hcl:=comp_len (ts.take k) []
   rw [List.length_take,Nat.min_eq_left hk] at hcl
   have hrw:=HO.out.row
   rw [hcl] at hrw
   have HRW:=Lib.hid hrw
   obtain ⟨pr,cr',hpr⟩:=own_slice hrw
   subst hpr
   have hnb:=new_one (w6.setCell ⟨w.heap.size+1+1,1,none⟩ (.slice p5 T'.length c5)) (.int .i64 (K:Int)) 3
   rw [World.size_setCell] at hnb
   have HNB:=Lib.hid (show ∀ j u,(enc1 (K:Int))[j]? = some u→((w6.setCell ⟨w.heap.size+1+1,1,none⟩ (.slice p5 T'.length c5)).alloc (.cells #[.int .i64 (K:Int)] 3)).cell? ((⟨w6.heap.size,0,none⟩:Addr).add j) = some u from hnb)
   have hsz:w.heap.size+1+1+1 ≤ ((w6.setCell ⟨w.heap.size+1+1,1,none⟩ (.slice p5 T'.length c5)).alloc (.cells #[.int .i64 (K:Int)] 3)).heap.size:=Nat.succ_le_of_lt (Array.getElem?_eq_some_iff.1 HO.out.bx).1
   clear h6 hrw hnb hB hu5 hf5 hu27 hf27 hu19 hf19 hu28 hf28 HI f0 b1 s1 KC
   go_wp2_with (at_builtin; refine wpList_append_own_at _ rfl (.tmp 34) (.tmp 36) 37 rfl (w.heap.size+1+1+1) 3 i1 (.int .i64 0) 1 8 Tryz.underlying37 hi1 hy0 hy1 hy2 rfl (by decide) (.slice pr k cr') k _ rfl HRW.out ⟨w6.heap.size,0,none⟩ 1 1 (enc1 (K:Int)) rfl rfl HNB.out (one_i64' _) (by unfold maxLen; omega) (by omega) hsz ?_)
   intro v' w11 hown' hgrow _ hat
   obtain ⟨p9,c9,rfl⟩:=own_slice hown'
   obtain ⟨hb8,hc8⟩:=HO.out.put2 (by rw [hcl]; exact hown') hgrow (hat.imp_right fun h=>by rw [h,alloc_sz,World.size_setCell])
   have hc9:RkI W5 (w.heap.size+1+1) ts.length (.slice p5 T'.length c5) (.slice p9 (k+1) c9) (compT (ts.take (k+1)) []).1 (compT (ts.take (k+1)) []).2 (w11.setCell ⟨w.heap.size+1+1,2,none⟩ (.slice p9 (k+1) c9)):=by rw [HSN.out]; exact hc8
   have r1:=heapN_cellj hb8 (k:=2) rfl
   have z1:w11.frozen? ⟨w.heap.size+1+1,2,none⟩ = false:=by simp [World.frozen?,hb8]
   have HI9:=Lib.hid hc9
   clear hown' hgrow hb8 hc8 hc9 HO HP HRW HNB hsz hat y1 y2 zz1 hcl
   go_wp2_with (fail)
   go_roundw
   case rel=>exact ⟨k+1,_,_,by go_num,by omega,HI9⟩
   case measure=>simp [intOf]; omega
  ·obtain rfl:k = ts.length:=by omega
   have i2:¬ (ts.length:Int) < ts.length:=by omega
   have hI:=HI.out
   rw [List.take_length] at hI
   obtain ⟨pl,cl,rfl⟩:=hI.ix.1.cut
   obtain ⟨pr,cr',rfl⟩:=own_slice hI.row
   have h2:=HLN.out
   have i4:¬ (((compT ts []).1.length:Int) > 400):=by omega
   have b0:=heapN_cellj hI.bx (k:=0) rfl
   have b1:=heapN_cellj hI.bx (k:=1) rfl
   have b2:=heapN_cellj hI.bx (k:=2) rfl
   have hz:=(HI.out.bel.block _ (by omega)).trans HZ.out
   have y0:=heapN_cellj hz (k:=0) rfl
   have y1:=heapN_cellj hz (k:=1) rfl
   have y2:=heapN_cellj hz (k:=2) rfl
   have z0:wr.frozen? ⟨w.heap.size+1,0,none⟩ = false:=by simp [World.frozen?,hz]
   have z1:wr.frozen? ⟨w.heap.size+1,1,none⟩ = false:=by simp [World.frozen?,hz]
   have z2:wr.frozen? ⟨w.heap.size+1,2,none⟩ = false:=by simp [World.frozen?,hz]
   have g1:=grownBy_setN wr ⟨w.heap.size+1,0,none⟩ (.int .i64 ts.length)
   have g2:=gb_trans9 g1 (grownBy_setN _ ⟨w.heap.size+1,1,none⟩ (.slice pl (compT ts []).1.length cl))
   have g3:=gb_trans9 g2 (grownBy_setN _ ⟨w.heap.size+1,2,none⟩ (.slice pr (compT ts []).2.length cr'))
   have HIX:=Lib.hid (ixn_keptN hI.ix g3 (hI.d.imp id fun q=>ne_of_lt9 q.1 (show w.heap.size+1 ≤ w.heap.size+1+1 by omega)))
   have hrw:=hI.row.kept g3 (by
    cases e:(Value.slice pr (compT ts []).2.length cr').ownBlock with
    | none=>exact .inl rfl
    | some b=>exact .inr (fun e2=>by have:=(hI.row.lt b e).1; have e3:b = w.heap.size+1:=Option.some.inj e2; omega))
   have hcl:=comp_len ts []
   have HPX:=Lib.hid (Rx.own (enc:=enc1) (fun _=>rfl) hrw (by rw [hcl]; unfold maxLen; omega))
   have HB:=Lib.hid ((((HW.out.trans (hI.bel.mono (by omega))).setCell (p:=⟨w.heap.size+1,0,none⟩) (by dsimp only; omega) (.int .i64 ts.length)).setCell (p:=⟨w.heap.size+1,1,none⟩) (by dsimp only; omega) (.slice pl (compT ts []).1.length cl)).setCell (p:=⟨w.heap.size+1,2,none⟩) (by dsimp only; omega) (.slice pr (compT ts []).2.length cr'))
   clear hI g1 g2 g3 hrw hcl
   go_wp2_with (fail)
   have hs:=cellsT_setN (o:=2) (u:=.slice pr (compT ts []).2.length cr') (cellsT_setN (o:=1) (u:=.slice pl (compT ts []).1.length cl) (cellsT_setN (o:=0) (u:=.int .i64 ts.length) hz))
   have u0:=heapN_cellj hs (k:=0) (u:=.int .i64 ts.length) rfl
   have u1:=heapN_cellj hs (k:=1) (u:=.slice pl (compT ts []).1.length cl) rfl
   have u2:=heapN_cellj hs (k:=2) (u:=.slice pr (compT ts []).2.length cr') rfl
   exact bodyPost_ret (v:=.agg #[.int .i64 ts.length,.slice pl (compT ts []).1.length cl,.slice pr (compT ts []).2.length cr']) (by simp [results,Tryz.results37,go_sem,u0,u1,u2]) rfl ⟨_,_,rfl,HIX.out.1,HPX.out,HB.out⟩
end Go.Proofs.YtekjflfkbgklhaaGreat
