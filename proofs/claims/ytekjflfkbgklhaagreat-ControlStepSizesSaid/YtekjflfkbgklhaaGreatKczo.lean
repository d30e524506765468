/-
 Cj Ms Re
-/
import Derived.Test.YtekjflfkbgklhaaGreatKco
import Derived.Test.YtekjflfkbgklhaaGreatKcp
import Derived.Test.YtekjflfkbgklhaaGreatKczi
import Derived.Test.YtekjflfkbgklhaaGreatKczm
namespace Go.Proofs.YtekjflfkbgklhaaGreat
open Go.ChangeShapes Go.WideShapes Go.ChangeAt Go.RowKit
set_option linter.unusedVariables false
set_option linter.unusedSimpArgs false
set_option maxRecDepth 100000
attribute [local irreducible] Calls
def vldC (o fi le mo wi:Int):Bool:=decide (1 ≤ o∧o < 8∧1 ≤ le∧le ≤ fi∧fi ≤ mo∧mo < 2147483648∧1 ≤ wi∧wi < 2147483648)
def magC (x n:Int):Int:=max (x.tmod n) (-(x.tmod n))
def ordC (o:Int):Nat:=(1+o % 4).toNat
def leC (le:Int):Int:=1024+magC le 4096
def fiC (fi le:Int):Int:=leC le+magC fi 32768
def moC (mo fi le:Int):Int:=fiC fi le+magC mo 65536
def wiC (wi:Int):Int:=1+magC wi 1048576
theorem magC_bd (x:Int) {n:Int} (h:0 < n):0 ≤ magC x n∧magC x n < n:=by
 unfold magC
 have h1:=Int.tmod_lt_of_pos x h
 have h2:-n < x.tmod n:=by
  have:=Int.tmod_lt_of_pos (-x) h
  rw [Int.neg_tmod] at this
  omega
 omega
set_option maxHeartbeats 32000000 in
theorem cvalid_ok (o fi le mo wi:Int) (w:World):Calls Tryz.prog 12 #[.agg #[.int .i64 o,.int .i64 fi,.int .i64 le,.int .i64 mo,.int .i64 wi]] w fun e w'=>e = .returned (.bool (vldC o fi le mo wi))∧Below w.heap.size w w':=by
 have hE:Below w.heap.size w (w.alloc (.cells #[.int .i64 o,.int .i64 fi,.int .i64 le,.int .i64 mo,.int .i64 wi] 23)):=allocs_below [.cells #[.int .i64 o,.int .i64 fi,.int .i64 le,.int .i64 mo,.int .i64 wi] 23] w
 have HC:=Lib.hid (show Blk (w.alloc (.cells #[.int .i64 o,.int .i64 fi,.int .i64 le,.int .i64 mo,.int .i64 wi] 23)) (w.heap.size) (.cells #[.int .i64 o,.int .i64 fi,.int .i64 le,.int .i64 mo,.int .i64 wi] 23) from allocs_at [.cells #[.int .i64 o,.int .i64 fi,.int .i64 le,.int .i64 mo,.int .i64 wi] 23] w 0 _ rfl)
 have HW:=Lib.hid hE
 have c0:=heapN_cellj HC.out (k:=0) rfl
 have c1:=heapN_cellj HC.out (k:=1) rfl
 have c2:=heapN_cellj HC.out (k:=2) rfl
 have c3:=heapN_cellj HC.out (k:=3) rfl
 have c4:=heapN_cellj HC.out (k:=4) rfl
 clear hE
 obtain ⟨r,hr⟩:∃ r,vldC o fi le mo wi = r:=⟨_,rfl⟩
 rw [hr]
 have HR:=Lib.hid hr
 clear hr
 by_cases hP:1 ≤ o∧o < 8∧1 ≤ le∧le ≤ fi∧fi ≤ mo∧mo < 2147483648∧1 ≤ wi∧wi < 2147483648
 ·have hr:r = true:=HR.out.symm.trans (decide_eq_true hP)
  subst hr
  obtain ⟨o1,o2,s1,s2,s3,s4,t1,t2⟩:=hP
  go_enter Tryz.func12,Tryz.ntmps12
  go_wp2_with (fail)
  go_ret
  exact ⟨rfl,HW.out⟩
 ·have hr:r = false:=HR.out.symm.trans (decide_eq_false hP)
  subst hr
  rcases (show (1 ≤ o∧o < 8) ∨ (1 ≤ o∧8 ≤ o) ∨ o < 1 by omega) with ⟨o1,o2⟩ | ⟨o1,o2⟩ | o1
  all_goals rcases (show (1 ≤ le∧le ≤ fi∧fi ≤ mo∧mo < 2147483648) ∨ (1 ≤ le∧le ≤ fi∧fi ≤ mo∧2147483648 ≤ mo) ∨ (1 ≤ le∧le ≤ fi∧mo < fi) ∨ (1 ≤ le∧fi < le) ∨ le < 1 by omega) with ⟨s1,s2,s3,s4⟩ | ⟨s1,s2,s3,s4⟩ | ⟨s1,s2,s3⟩ | ⟨s1,s2⟩ | s1
  all_goals rcases (show (1 ≤ wi∧wi < 2147483648) ∨ (1 ≤ wi∧2147483648 ≤ wi) ∨ wi < 1 by omega) with ⟨t1,t2⟩ | ⟨t1,t2⟩ | t1
  ·exact absurd ⟨o1,o2,s1,s2,s3,s4,t1,t2⟩ hP
  all_goals
   clear hP
   go_enter Tryz.func12,Tryz.ntmps12
   go_wp2_with (fail)
   go_ret
   exact ⟨by first | rfl | (show Ending.returned (.bool (decide (wi < 2147483648))) = _; rw [decide_eq_false (by omega)]),HW.out⟩
set_option maxHeartbeats 2000000 in
theorem mag_ok (x n:Int) (w:World) (hx:-9223372036854775808 ≤ x∧x ≤ 9223372036854775807) (h1:0 < n) (h2:n ≤ 4294967296):Calls Tryz.prog 39 #[.int .i64 x,.int .i64 n] w fun e w'=>e = .returned (.int .i64 (magC x n))∧Below w.heap.size w w':=by
 obtain ⟨m,hm⟩:∃ m,x.tmod n = m:=⟨_,rfl⟩
 have hb:-n < m∧m < n:=by
  rw [← hm]
  have h3:=Int.tmod_lt_of_pos x h1
  have:=Int.tmod_lt_of_pos (-x) h1
  rw [Int.neg_tmod] at this
  omega
 unfold magC
 rw [hm]
 have hn0:n ≠ 0:=by omega
 rcases (show m < -m ∨ m = -m ∨ -m < m by omega) with h | h | h
 ·rw [show max m (-m) = -m by omega]
  go_enter Tryz.func39,Tryz.ntmps39
  go_wp2_with (fail)
  go_ret
  exact ⟨rfl,Below.refl _ _⟩
 ·have h0:m = 0:=by omega
  subst h0
  clear h hb
  rw [show max (0:Int) (-0) = 0 by decide]
  go_enter Tryz.func39,Tryz.ntmps39
  go_wp2_with (fail)
  go_ret
  exact ⟨rfl,Below.refl _ _⟩
 ·rw [show max m (-m) = m by omega]
  go_enter Tryz.func39,Tryz.ntmps39
  go_wp2_with (fail)
  go_ret
  exact ⟨rfl,Below.refl _ _⟩
end Go.Proofs.YtekjflfkbgklhaaGreat
namespace Go.Proofs.YtekjflfkbgklhaaGreat
open Go.ChangeShapes Go.WideShapes Go.ChangeAt Go.RowKit
set_option linter.unusedVariables false
set_option linter.unusedSimpArgs false
set_option maxRecDepth 100000
attribute [local irreducible] Calls
theorem own_node {W:World} {B X:Nat} (x:Nd) (h:W.heap[X]? = some (.cells #[.int .i64 x.op,.int .i64 x.n,.int .i64 x.lo,.int .i64 x.hi] 93 (0,0))) (hB:B ≤ X):W.ownsRow B 93 4 (.slice (some ⟨X,0,none⟩) 1 1) 1 (cr encN [x]) :=
 ⟨by simp [cr,encN],.inr ⟨X,1,_,rfl,hB,h,Nat.le_refl _,by unfold maxLen; omega,by simp,by simp [cr,encN]⟩⟩
theorem const7_ok (a b:Int) (w:World):Calls Tryz.prog 35 #[.agg #[.int .i64 a,.int .i64 b]] w fun e w'=>∃ v,e = .returned v∧w'.ownsRow w.heap.size 93 4 v 1 (cr encN [⟨1,0,a,b⟩])∧Below w.heap.size w w':=by
 have hE:Below w.heap.size w ((w.alloc (.cells #[.int .i64 a,.int .i64 b] 59)).alloc (.cells #[.int .i64 1,.int .i64 0,.int .i64 a,.int .i64 b] 93)):=allocs_below [.cells #[.int .i64 a,.int .i64 b] 59,.cells #[.int .i64 1,.int .i64 0,.int .i64 a,.int .i64 b] 93] w
 have hx:=allocs_at [.cells #[.int .i64 a,.int .i64 b] 59,.cells #[.int .i64 1,.int .i64 0,.int .i64 a,.int .i64 b] 93] w 1 _ rfl
 have HE:=Lib.hid hE
 have HX:=Lib.hid (own_node (B:=w.heap.size) ⟨1,0,a,b⟩ hx (by omega))
 clear hE hx
 go_enter Tryz.func35,Tryz.ntmps35
 go_wp2_with (fail)
 go_ret
 exact ⟨_,rfl,HX.out,HE.out⟩
end Go.Proofs.YtekjflfkbgklhaaGreat
namespace Go.Proofs.YtekjflfkbgklhaaGreat
open Go.ChangeShapes Go.WideShapes Go.ChangeAt Go.RowKit Go.Maps
set_option linter.unusedVariables false
set_option linter.unusedSimpArgs false
set_option maxRecDepth 100000
attribute [local irreducible] Calls
theorem encI_one (l:List Is):∀ u ∈ cr encI l,u.oneCell' = true:=by
 intro u hu
 unfold cr at hu
 obtain ⟨t,_,h⟩:=List.mem_flatMap.1 hu
 simp only [encI,List.mem_cons,List.not_mem_nil,or_false] at h
 rcases h with rfl | rfl | rfl | rfl | rfl <;> rfl
theorem wpList_append_is {w:World} {ops:Array Oper} {rest:List Oper} {o:Oper} {a:Act} {Q:Exit→Act→World→Prop} (hgd:o.guard = none) (s x:Operand)
  (ho:o.op = .call { callee:=.builtin .append,args:=#[s,x],argTypes:=#[36,36] })
  (base:Nat) (v:Value) (n:Nat) (xs:List Value) (hs:a.eval s = v) (hown:w.ownsRow base 112 5 v n xs)
  (p:Option Addr) (c:Nat) (l:List Is) (hx:a.eval x = .slice p l.length c) (htx:Ix w (.slice p l.length c) l) (hc:p = none→c = 0)
  (h63:n+l.length ≤ maxLen) (hbytes:(n+l.length) * 40 ≤ 140737488355328) (hbase:base ≤ w.heap.size)
  (h:∀ v' w',w'.ownsRow base 112 5 v' (n+l.length) (xs ++ cr encI l)→w.grownBy w' v.ownBlock→wpList Tryz.prog ops Q rest (a.put o.dst v') w'):wpList Tryz.prog ops Q (o :: rest) a w:=by
 obtain ⟨i0,hi,hz0,hz1,hz2⟩:=info_parts info_is
 cases p with
 | none =>
  have hl:l = []:=by
   cases l with
   | nil=>rfl
   | cons y l =>
    obtain ⟨b,o',hp,_⟩:=htx.rd (i:=0) rfl
    cases hp
  subst hl
  obtain rfl:=hc rfl
  refine wpList_append_own_none hgd s x _ ho base 112 i0 5 Tryz.underlying36 hi v n xs hs hown hx ?_
  refine h v w (by simpa [cr] using hown) ⟨rfl,rfl,rfl,Nat.le_refl _,fun _ _ _=>rfl⟩
 | some ad =>
  refine wpList_append_own _ hgd s x _ ho base 112 i0 _ 5 40 Tryz.underlying36 hi hz0 hz1 hz2 rfl (by decide) v n xs hs hown ad l.length c (cr encI l) hx (cr_len encI_len l) ?_ (encI_one l) h63 hbytes hbase fun v' w' h1 h2 _=>h v' w' h1 h2
  cases l with
  | nil=>intro j u hj; simp [cr] at hj
  | cons y l =>
   obtain ⟨b,o',hp,_⟩:=htx.rd (i:=0) rfl
   obtain rfl:=Option.some.inj hp
   intro j u hj
   have h:=htx.flat encI_len j u hj
   by_cases e:j = 0
   ·subst e; simpa [Addr.add] using h
   ·simpa [Addr.add,e] using h
theorem own_emptyS (W:World):(W.alloc (.cells #[] 112)).ownsRow W.heap.size 112 5 (.slice (some ⟨W.heap.size,0,none⟩) 0 0) 0 [] :=
 ⟨rfl,.inr ⟨W.heap.size,0,#[],rfl,Nat.le_refl _,World.alloc_heap_new W _,Nat.le_refl _,Nat.zero_le _,rfl,rfl⟩⟩
theorem own_cut8 {B n sz:Nat} {w:World} {v:Value} {t:TypeId} {xs:List Value} (h:w.ownsRow B t sz v n xs):∃ p c,v = .slice p n c:=by
 rcases id h.2 with ⟨rfl,h0⟩ | ⟨g,cap,cur,rfl,_⟩
 ·subst h0
  exact ⟨none,0,rfl⟩
 ·exact ⟨_,_,rfl⟩
def IxN (w:World) (v:Value) (L:List Is):Prop:=Ix w v L∧∃ p c,v = .slice p L.length c∧(p = none→c = 0)
theorem IxN.grow {w w':World} {v:Value} {L:List Is} (h:IxN w v L) (hB:Below w.heap.size w w'):IxN w' v L:=⟨h.1.grow hB,h.2⟩
theorem IxN.nil (w:World):IxN w (.slice none 0 0) []:=⟨Rx.nil _ _ _,none,0,rfl,fun _=>rfl⟩
theorem isB_eq (x y:Is):((x.op == y.op) && ((x.a == y.a) && ((x.b == y.b) && ((x.lo == y.lo) && (x.hi == y.hi))))) = decide (x = y):=by
 obtain ⟨a,b,c,d,e⟩:=x
 obtain ⟨a',b',c',d',e'⟩:=y
 by_cases h:(⟨a,b,c,d,e⟩:Is) = ⟨a',b',c',d',e'⟩
 ·rw [decide_eq_true h]
  cases h
  simp
 ·rw [decide_eq_false h]
  simp only [Is.mk.injEq,not_and] at h
  cases e1:((a == a') && ((b == b') && ((c == c') && ((d == d') && (e == e'))))) with
  | false=>rfl
  | true =>
   simp only [Bool.and_eq_true,beq_iff_eq] at e1
   exact absurd e1.2.2.2.2 (h e1.1 e1.2.1 e1.2.2.1 e1.2.2.2.1)
theorem idx_first {L:List Is} {x:Is} {k:Nat} (hk:L[k]? = some x) (hf:∀ j,j < k→L[j]? ≠ some x):idxI L x = k:=by
 have hlt:=(List.getElem?_eq_some_iff.1 hk).1
 unfold idxI
 rw [List.findIdx_eq hlt]
 refine ⟨?_,fun j hj=>?_⟩
 ·have:=(List.getElem?_eq_some_iff.1 hk).2
  simp [this]
 ·have:=hf j hj
  rw [List.getElem?_eq_getElem (by omega)] at this
  simp only [ne_eq,Option.some.injEq] at this
  simp [this]
theorem not_in {L:List Is} {x:Is} (hf:∀ j,j < L.length→L[j]? ≠ some x):x ∉ L:=fun h=>by
 obtain ⟨j,hj⟩:=List.getElem?_of_mem h
 exact hf j (List.getElem?_eq_some_iff.1 hj).1 hj
theorem new_is (w:World) (x:Is):(w.alloc (.cells #[.int .i64 x.op,.int .i64 x.a,.int .i64 x.b,.int .i64 x.lo,.int .i64 x.hi] 112)).heap[w.heap.size]? = some (.cells #[.int .i64 x.op,.int .i64 x.a,.int .i64 x.b,.int .i64 x.lo,.int .i64 x.hi] 112 (0,0)):=World.alloc_heap_new w _
set_option maxHeartbeats 8000000 in
theorem emitR_ok (vl:Value) (L:List Is) (x:Is) (w:World) (hl:IxN w vl L) (hsm:L.length ≤ 100000) :
  Calls Tryz.prog 81 #[vl,valI' x] w fun e w'=>∃ v',e = .returned (.tuple #[v',.int .i64 (idxI (emitI L x) x)])∧IxN w' v' (emitI L x)∧(v' = vl ∨ ∀ b,v'.ownBlock = some b→w.heap.size ≤ b)∧Below w.heap.size w w':=by
 obtain ⟨i0,hi0,hz0,hz1,hz2⟩:=info_parts info_is
 obtain ⟨hix,p,c,rfl,hpc⟩:=id hl
 have hsame:=isB_eq
 obtain ⟨xo,xa,xb,xl,xh⟩:=x
 unfold valI'
 dsimp only
 have hE:Below w.heap.size w (w.alloc (.cells #[.int .i64 xo,.int .i64 xa,.int .i64 xb,.int .i64 xl,.int .i64 xh] 112)):=(Below.refl _ _).alloc (Nat.le_refl _) _
 have HE:=Lib.hid hE
 have HXB:=Lib.hid (new_is w ⟨xo,xa,xb,xl,xh⟩)
 have HL:=Lib.hid hl
 have HLX:=Lib.hid (hix.grow hE)
 clear hE hl
 go_enter Tryz.func81,Tryz.ntmps81
 go_wp2_with (fail)
 generalize hWc:World.alloc w _ = W1 at *
 clear hWc
 go_loopw [6] (fun i wr=>∃ k:Nat,i = .int .i64 k∧k ≤ L.length∧Hid (∀ j,j < k→L[j]? ≠ some ⟨xo,xa,xb,xl,xh⟩)∧Hid (Below W1.heap.size W1 wr)) (fun i _=>L.length - (intOf i).toNat)
 case atStart=>exact ⟨0,rfl,Nat.zero_le _,Lib.hid (fun j hj=>by omega),Lib.hid (Below.refl _ _)⟩
 case round =>
  obtain ⟨k,rfl,hk,HF,HB⟩:=hrel
  by_cases hlt:k < L.length
  ·have i2:(k:Int) < L.length:=by omega
   obtain ⟨⟨op,a,b,lo,hi⟩,hx⟩:∃ y,L[k]? = some y:=⟨_,List.getElem?_eq_getElem hlt⟩
   obtain ⟨bl,ol,hpe,hbl,rdl⟩:=is_rd HLX.out hx
   subst hpe
   have f0:=fun g:Grown wr=>(rdl ⟨g.w,HB.out.trans (g.h.mono HB.out.size)⟩).1
   have f1:=fun g:Grown wr=>(rdl ⟨g.w,HB.out.trans (g.h.mono HB.out.size)⟩).2.1
   have f2:=fun g:Grown wr=>(rdl ⟨g.w,HB.out.trans (g.h.mono HB.out.size)⟩).2.2.1
   have f3:=fun g:Grown wr=>(rdl ⟨g.w,HB.out.trans (g.h.mono HB.out.size)⟩).2.2.2.1
   have f4:=fun g:Grown wr=>(rdl ⟨g.w,HB.out.trans (g.h.mono HB.out.size)⟩).2.2.2.2
   have hxb:=fun g:Grown wr=>((HB.out.trans (g.h.mono HB.out.size)).block _ (Array.getElem?_eq_some_iff.1 HXB.out).1).trans HXB.out
   have g0:=fun g:Grown wr=>heapN_cellj (hxb g) (k:=0) rfl
   have g1:=fun g:Grown wr=>heapN_cellj (hxb g) (k:=1) rfl
   have g2:=fun g:Grown wr=>heapN_cellj (hxb g) (k:=2) rfl
   have g3:=fun g:Grown wr=>heapN_cellj (hxb g) (k:=3) rfl
   have g4:=fun g:Grown wr=>heapN_cellj (hxb g) (k:=4) rfl
   have KS:∀ w,Calls Tryz.prog 102 #[.agg #[.int .i64 op,.int .i64 a,.int .i64 b,.int .i64 lo,.int .i64 hi],.agg #[.int .i64 xo,.int .i64 xa,.int .i64 xb,.int .i64 xl,.int .i64 xh]] w fun e w'=>e = .returned (.bool (decide ((⟨op,a,b,lo,hi⟩:Is) = ⟨xo,xa,xb,xl,xh⟩)))∧Below w.heap.size w w':=fun w=>by
    have h:=isame_ok ⟨op,a,b,lo,hi⟩ ⟨xo,xa,xb,xl,xh⟩ w
    rw [isB_eq] at h
    exact h
   obtain ⟨B,hBv⟩:∃ B,decide ((⟨op,a,b,lo,hi⟩:Is) = ⟨xo,xa,xb,xl,xh⟩) = B:=⟨_,rfl⟩
   rw [hBv] at KS
   have KS:=Lib.hid KS
   have HBV:=Lib.hid hBv
   have HXK:=Lib.hid hx
   clear hx rdl hxb hBv
   go_wp2_with (fail)
   refine region_pred (lk [(14,fun z_ _=>z_ = .slice (some ⟨bl,ol,none⟩) L.length c),(15,fun z_ _=>z_ = .int .i64 (k:Int)),(16,fun z_ _=>z_ = .pointer (some ⟨bl,ol+k * 5,none⟩)),(17,fun z_ _=>z_ = .agg #[.int .i64 op,.int .i64 a,.int .i64 b,.int .i64 lo,.int .i64 hi]),(18,fun z_ _=>z_ = .agg #[.int .i64 xo,.int .i64 xa,.int .i64 xb,.int .i64 xl,.int .i64 xh]),(19,fun z_ _=>z_ = .bool B)]) (by kernel_rfl) (by kernel_rfl) (lk_steady _ ⟨steady_eq _,steady_eq _,steady_eq _,steady_eq _,steady_eq _,steady_eq _,trivial⟩) ?_ ?_
   ·refine ⟨?_,?_,?_,?_,?_,?_,trivial⟩
    ·refine ob_plain [0] rfl rfl fun aa g h=>?_
     have yy0:=seen_out (v:=.slice (some ⟨bl,ol,none⟩) L.length c) rfl rfl h.1
     exact tvS (by simp [go_sem,yy0]) rfl
    ·refine ob_plain [6] rfl rfl fun aa g h=>?_
     have yy0:=seen_out (v:=.int .i64 (k:Int)) rfl rfl h.1
     exact tvS (by simp [go_sem,yy0]) rfl
    ·refine ob_plain [14,15] rfl rfl fun aa g h=>?_
     obtain ⟨_,yy0,rfl⟩:=seen_in rfl h.1
     obtain ⟨_,yy1,rfl⟩:=seen_in rfl h.2.1
     exact tvS (by simp [go_sem,yy0,yy1,i2]) rfl
    ·refine ob_plain [16] rfl rfl fun aa g h=>?_
     obtain ⟨_,yy0,rfl⟩:=seen_in rfl h.1
     exact tvS (by simp [go_sem,yy0,f0 g,f1 g,f2 g,f3 g,f4 g]) rfl
    ·refine ob_plain [3] rfl rfl fun aa g h=>?_
     have yy0:=seen_out (v:=.pointer (some ⟨w.heap.size,0,none⟩)) rfl rfl h.1
     exact tvS (by simp [go_sem,yy0,g0 g,g1 g,g2 g,g3 g,g4 g]) rfl
    ·refine ob_plain [17,18] rfl rfl fun aa g h=>?_
     obtain ⟨_,yy0,rfl⟩:=seen_in rfl h.1
     obtain ⟨_,yy1,rfl⟩:=seen_in rfl h.2.1
     refine tupon_enter (f:=102) (args:=#[.agg #[.int .i64 op,.int .i64 a,.int .i64 b,.int .i64 lo,.int .i64 hi],.agg #[.int .i64 xo,.int .i64 xa,.int .i64 xb,.int .i64 xl,.int .i64 xh]]) (by simp [go_sem,yy0,yy1]) rfl ?_
     exact (KS.out g.w).mono fun e w' ⟨he,hB⟩=>⟨_,he,hB,rfl⟩
   rintro w5 hB5 _ rfl _ rfl _ rfl _ rfl _ rfl _ rfl
   simp only [Act.put,List.setIfInBounds_toArray,List.set_cons_succ,List.set_cons_zero,List.filterMap_nil,finP]
   have HB5:=Lib.hid (HB.out.trans (hB5.mono HB.out.size))
   clear hB5 f0 f1 f2 f3 f4 g0 g1 g2 g3 g4 KS
   cases B with
   | true =>
    have hxe:(⟨op,a,b,lo,hi⟩:Is) = ⟨xo,xa,xb,xl,xh⟩:=of_decide_eq_true HBV.out
    have hxk:=HXK.out
    rw [hxe] at hxk
    have hin:=List.mem_of_getElem? hxk
    have hid:=idx_first hxk HF.out
    have HEM:=Lib.hid (emitI_in hin)
    have HID:=Lib.hid hid
    have HW:=Lib.hid (below_then HE.out HB5.out)
    have HLW:=Lib.hid (HL.out.grow HW.out)
    clear hxe hxk hin hid
    go_wp2_with (fail)
    exact bodyPost_ret (v:=.tuple #[.slice (some ⟨bl,ol,none⟩) L.length c,.int .i64 (k:Int)]) (by simp [results,Tryz.results81,go_sem]) rfl (by rw [HEM.out,HID.out]; exact ⟨_,rfl,HLW.out,.inl rfl,HW.out⟩)
   | false =>
    have hne:(⟨op,a,b,lo,hi⟩:Is) ≠ ⟨xo,xa,xb,xl,xh⟩:=of_decide_eq_false HBV.out
    have HF2:Hid (∀ j,j < k+1→L[j]? ≠ some ⟨xo,xa,xb,xl,xh⟩):=Lib.hid (fun j hj=>by
     rcases Nat.lt_or_ge j k with h | h
     ·exact HF.out j h
     ·obtain rfl:j = k:=by omega
      rw [HXK.out]
      exact fun e=>hne (Option.some.inj e))
    clear hne
    go_wp2_with (fail)
    go_roundw
    case rel=>exact ⟨k+1,by go_num,by omega,HF2,HB5⟩
    case measure=>simp [intOf]; omega
  ·obtain rfl:L.length = k:=by omega
   have i2:¬ (L.length:Int) < L.length:=by omega
   have hnin:=not_in HF.out
   have HEM:=Lib.hid (emitI_new hnin)
   have HID:=Lib.hid (idxI_new hnin)
   have hB0:=HB.out
   have hown0:=own_emptyS wr
   have hS:Below wr.heap.size wr (wr.alloc (.cells #[] 112)):=(Below.refl _ _).alloc (Nat.le_refl _) _
   have hix2:Ix (wr.alloc (.cells #[] 112)) (.slice p L.length c) L:=(HLX.out.grow hB0).grow hS
   go_wp2_with (at_builtin; refine wpList_append_is rfl (.tmp 22) (.tmp 23) rfl wr.heap.size (.slice (some ⟨wr.heap.size,0,none⟩) 0 0) 0 [] rfl hown0 p c L rfl hix2 hpc (by unfold maxLen; omega) (by omega) hS.size ?_)
   intro v7 w7 hown7 hgrow
   have hB7:=hS.grown hgrow hS.size (fun k hk=>(hown0.lt k hk).1)
   try simp only [Nat.zero_add,List.nil_append] at hown7
   obtain ⟨p7,c7,rfl⟩:=own_cut8 hown7
   have HO7:=Lib.hid hown7
   have HB7:=Lib.hid hB7
   have hxb7:=((hB0.trans (hB7.mono hB0.size)).block _ (Array.getElem?_eq_some_iff.1 HXB.out).1).trans HXB.out
   have g0:=heapN_cellj hxb7 (k:=0) rfl
   have g1:=heapN_cellj hxb7 (k:=1) rfl
   have g2:=heapN_cellj hxb7 (k:=2) rfl
   have g3:=heapN_cellj hxb7 (k:=3) rfl
   have g4:=heapN_cellj hxb7 (k:=4) rfl
   have HWr:=Lib.hid (below_then HE.out hB0)
   clear hown0 hS hgrow hown7 hB7 hix2 hxb7 hB0 hnin
   go_wp2_with (at_builtin; refine wpList_append_own _ rfl (.tmp 25) (.tmp 27) 36 rfl wr.heap.size 112 i0 (.agg #[.int .i64 0,.int .i64 0,.int .i64 0,.int .i64 0,.int .i64 0]) 5 40 Tryz.underlying36 hi0 hz0 hz1 hz2 rfl (by decide) (.slice p7 L.length c7) L.length _ rfl (HO7.out.alloc _) ⟨w7.heap.size,0,none⟩ 1 1 (encI ⟨xo,xa,xb,xl,xh⟩) rfl rfl (new_i w7 ⟨xo,xa,xb,xl,xh⟩) (one_i _) (by unfold maxLen; omega) (by omega) (by have:=HB7.out.size; rw [alloc_sz]; omega) ?_)
   intro v8 w8 hown8 hgrow _
   have hS8:Below w7.heap.size w7 (w7.alloc (.cells #[.int .i64 xo,.int .i64 xa,.int .i64 xb,.int .i64 xl,.int .i64 xh] 112)):=(Below.refl _ _).alloc (Nat.le_refl _) _
   have hB8:=(HB7.out.trans (hS8.mono HB7.out.size)).grown hgrow (by have:=HB7.out.size; rw [alloc_sz]; omega) (fun k hk=>(HO7.out.lt k hk).1)
   obtain ⟨p8,c8,rfl⟩:=own_cut8 hown8
   have hlen:(L ++ [(⟨xo,xa,xb,xl,xh⟩:Is)]).length = L.length+1:=by simp
   have hnew:IxN w8 (.slice p8 (L.length+1) c8) (L ++ [⟨xo,xa,xb,xl,xh⟩]):=by
    have h:=hown8
    rw [← cr_snoc,← hlen] at h
    have h2:=Rx.own encI_len h (by rw [hlen]; unfold maxLen; omega)
    rw [hlen] at h2
    refine ⟨h2,p8,c8,by rw [hlen],fun e=>?_⟩
    subst e
    rcases id hown8.2 with ⟨e1,h0⟩ | ⟨g,cap,cur,e1,_⟩
    ·simp at h0
    ·simp at e1
   have HN:=Lib.hid hnew
   have HOB:=Lib.hid (show ∀ b,(Value.slice p8 (L.length+1) c8).ownBlock = some b→w.heap.size ≤ b from fun b hb=>Nat.le_trans HWr.out.size (hown8.lt b hb).1)
   have HW:=Lib.hid (below_then HWr.out hB8)
   clear hown8 hgrow hS8 hB8 hlen hnew g0 g1 g2 g3 g4
   go_wp2_with (fail)
   exact bodyPost_ret (v:=.tuple #[.slice p8 (L.length+1) c8,.int .i64 (L.length:Int)]) (by simp [results,Tryz.results81,go_sem]) rfl (by rw [HEM.out,HID.out]; exact ⟨_,rfl,HN.out,.inr HOB.out,HW.out⟩)
end Go.Proofs.YtekjflfkbgklhaaGreat
