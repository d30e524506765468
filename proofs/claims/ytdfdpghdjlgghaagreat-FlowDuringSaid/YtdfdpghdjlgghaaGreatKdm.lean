/-
 U8 IsoMath Oc
-/
import Derived.Test.YtdfdpghdjlgghaaGreatKdk
import Derived.Test.YtdfdpghdjlgghaaGreatKdl
namespace Go.Proofs.YtdfdpghdjlgghaaGreat
open Go.ChangeShapes Go.WideShapes Go.ChangeAt Go.RowKit
set_option linter.unusedVariables false
set_option linter.unusedSimpArgs false
set_option maxRecDepth 100000
attribute [local irreducible] Calls
def raI (op:Int):Int:=if 1 ≤ op∧op ≤ 3 then 0 else if 4 ≤ op∧op ≤ 6 then 1 else if 7 ≤ op∧op ≤ 10 then 2 else -1
theorem rarity_ok (op:Int) (w:World):Calls Tryz.prog 97 #[.int .i64 op] w fun e w'=>e = .returned (.int .i64 (raI op))∧Below w.heap.size w w':=by
 by_cases h0:op < 1
 ·rw [show raI op = -1 by unfold raI; (repeat' split) <;> omega]
  skip
  have n1:¬ op ≥ 1:=(by omega); have n4:¬ op ≥ 4:=(by omega); have n7:¬ op ≥ 7:=(by omega)
  skip
  go_enter Tryz.func97,Tryz.ntmps97
  go_wp2_with (fail)
  go_ret
  exact ⟨rfl,Below.refl _ _⟩
 by_cases h1:op ≤ 3
 ·rw [show raI op = 0 by unfold raI; (repeat' split) <;> omega]
  have p1:op ≥ 1:=(by omega)
  have n4:¬ op ≥ 4:=(by omega); have n7:¬ op ≥ 7:=(by omega)
  skip
  go_enter Tryz.func97,Tryz.ntmps97
  go_wp2_with (fail)
  go_ret
  exact ⟨rfl,Below.refl _ _⟩
 by_cases h2:op ≤ 6
 ·rw [show raI op = 1 by unfold raI; (repeat' split) <;> omega]
  have p1:op ≥ 1:=(by omega); have p4:op ≥ 4:=(by omega)
  have n7:¬ op ≥ 7:=(by omega)
  have m3:¬ op ≤ 3:=(by omega)
  go_enter Tryz.func97,Tryz.ntmps97
  go_wp2_with (fail)
  go_ret
  exact ⟨rfl,Below.refl _ _⟩
 by_cases h3:op ≤ 10
 ·rw [show raI op = 2 by unfold raI; (repeat' split) <;> omega]
  have p1:op ≥ 1:=(by omega); have p4:op ≥ 4:=(by omega); have p7:op ≥ 7:=(by omega)
  skip
  have m3:¬ op ≤ 3:=(by omega); have m6:¬ op ≤ 6:=(by omega)
  go_enter Tryz.func97,Tryz.ntmps97
  go_wp2_with (fail)
  go_ret
  exact ⟨rfl,Below.refl _ _⟩
 rw [show raI op = -1 by unfold raI; (repeat' split) <;> omega]
 have p1:op ≥ 1:=by omega
 have p4:op ≥ 4:=by omega
 have p7:op ≥ 7:=by omega
 have m3:¬ op ≤ 3:=by omega
 have m6:¬ op ≤ 6:=by omega
 have m10:¬ op ≤ 10:=by omega
 go_enter Tryz.func97,Tryz.ntmps97
 go_wp2_with (fail)
 go_ret
 exact ⟨rfl,Below.refl _ _⟩
theorem r2same (a b c d:Int) (w:World):Calls Tryz.prog 56 #[.agg #[.int .i64 a,.int .i64 b],.agg #[.int .i64 c,.int .i64 d]] w fun e w'=>e = .returned (.bool ((a == c) && (b == d)))∧Below w.heap.size w w':=by
 cases h1:(a == c) with
 | false=>exact r2same_2 a b c d w h1
 | true =>
  cases h2:(b == d) with
  | false=>exact r2same_1 a b c d w h1 h2
  | true=>exact r2same_0 a b c d w h1 h2
end Go.Proofs.YtdfdpghdjlgghaaGreat
namespace Go.Proofs.YtdfdpghdjlgghaaGreat
open Go.ChangeShapes Go.WideShapes Go.ChangeAt Go.RowKit
set_option linter.unusedVariables false
set_option linter.unusedSimpArgs false
set_option maxRecDepth 100000
attribute [local irreducible] Calls
end Go.Proofs.YtdfdpghdjlgghaaGreat
namespace Go.Proofs.YtdfdpghdjlgghaaGreat
open Go.ChangeShapes Go.WideShapes Go.ChangeAt Go.RowKit
set_option linter.unusedVariables false
set_option linter.unusedSimpArgs false
set_option maxRecDepth 100000
attribute [local irreducible] Calls
end Go.Proofs.YtdfdpghdjlgghaaGreat
namespace Go.Proofs.YtdfdpghdjlgghaaGreat
open Go.ChangeShapes Go.WideShapes Go.ChangeAt Go.RowKit
set_option linter.unusedVariables false
set_option linter.unusedSimpArgs false
set_option maxRecDepth 100000
attribute [local irreducible] Calls
def nearI (p:Int × Int) (d:Int):Int × Int:=(p.1.tmod 1048576,p.1.tmod 1048576+(p.2.tmod d+d).tmod d)
theorem near_bd (p:Int × Int) {d:Int} (h1:1 ≤ d):-1048576 < (nearI p d).1∧(nearI p d).1 < 1048576∧(nearI p d).1 ≤ (nearI p d).2∧(nearI p d).2 < (nearI p d).1+d:=by
 have a1:=Int.lt_tmod_of_pos p.1 (show (0:Int) < 1048576 by decide)
 have a2:=Int.tmod_lt_of_pos p.1 (show (0:Int) < 1048576 by decide)
 have b1:=Int.lt_tmod_of_pos p.2 (show (0:Int) < d by omega)
 have c1:=Int.tmod_nonneg d (show 0 ≤ p.2.tmod d+d by omega)
 have c2:=Int.tmod_lt_of_pos (p.2.tmod d+d) (show (0:Int) < d by omega)
 unfold nearI
 dsimp only
 omega
set_option maxHeartbeats 4000000 in
theorem r2near (a b d:Int) (w:World) (h1:1 ≤ d) (h2:d ≤ 16777216):Calls Tryz.prog 76 #[.agg #[.int .i64 a,.int .i64 b],.int .i64 d] w fun e w'=>e = .returned (.agg #[.int .i64 (nearI (a,b) d).1,.int .i64 (nearI (a,b) d).2])∧Below w.heap.size w w':=by
 have hbd:=near_bd (a,b) h1
 have b1:=Int.lt_tmod_of_pos b (show (0:Int) < d by omega)
 have b2:=Int.tmod_lt_of_pos b (show (0:Int) < d by omega)
 unfold nearI at hbd ⊢
 dsimp only at hbd ⊢
 have W1:IntKind.i64.wrap (b.tmod d+d) = b.tmod d+d:=wrapN _ (by omega) (by omega)
 have W2:IntKind.i64.wrap (a.tmod 1048576+(b.tmod d+d).tmod d) = a.tmod 1048576+(b.tmod d+d).tmod d:=wrapN _ (by omega) (by omega)
 have hd0:¬ d = 0:=by omega
 have hba:Below w.heap.size w ((w.alloc (.cells #[.int .i64 a,.int .i64 b] 66)).alloc (.cells #[.int .i64 0,.int .i64 0] 66)):=((Below.refl _ _).alloc (Nat.le_refl _) _).alloc (by rw [alloc_sz]; omega) _
 have hX:((w.alloc (.cells #[.int .i64 a,.int .i64 b] 66)).alloc (.cells #[.int .i64 0,.int .i64 0] 66)).heap[w.heap.size]? = some (.cells #[.int .i64 a,.int .i64 b] 66 (0,0)):=(((Below.refl _ (w.alloc (.cells #[.int .i64 a,.int .i64 b] 66))).alloc (Nat.le_refl _) _).block _ (by rw [alloc_sz]; omega)).trans (World.alloc_heap_new w _)
 have hY:((w.alloc (.cells #[.int .i64 a,.int .i64 b] 66)).alloc (.cells #[.int .i64 0,.int .i64 0] 66)).heap[w.heap.size+1]? = some (.cells #[.int .i64 0,.int .i64 0] 66 (0,0)):=by
  have:=World.alloc_heap_new (w.alloc (.cells #[.int .i64 a,.int .i64 b] 66)) (.cells #[.int .i64 0,.int .i64 0] 66)
  rwa [alloc_sz] at this
 have fa:=fun g:Grown ((w.alloc (.cells #[.int .i64 a,.int .i64 b] 66)).alloc (.cells #[.int .i64 0,.int .i64 0] 66))=>heapN_cellj ((g.h.block _ (Array.getElem?_eq_some_iff.1 hX).1).trans hX) (k:=0) (u:=.int .i64 a) rfl
 have fb:=fun g:Grown ((w.alloc (.cells #[.int .i64 a,.int .i64 b] 66)).alloc (.cells #[.int .i64 0,.int .i64 0] 66))=>heapN_cellj ((g.h.block _ (Array.getElem?_eq_some_iff.1 hX).1).trans hX) (k:=1) (u:=.int .i64 b) rfl
 have HY:=Lib.hid hY
 have HB:=Lib.hid hba
 clear hX hY hba hbd b1 b2
 go_enter Tryz.func76,Tryz.ntmps76
 go_wp2_with (fail)
 refine region_pred (lk [(7,fun z_ _=>z_ = .pointer (some ⟨w.heap.size,0,none⟩)),(8,fun z_ _=>z_ = .int .i64 a),(9,fun z_ _=>z_ = .int .i64 (a.tmod 1048576)),(10,fun z_ _=>z_ = .pointer (some ⟨w.heap.size,1,none⟩)),(11,fun z_ _=>z_ = .int .i64 b),(12,fun z_ _=>z_ = .int .i64 d),(13,fun z_ _=>z_ = .int .i64 (b.tmod d)),(14,fun z_ _=>z_ = .int .i64 d),(15,fun z_ _=>z_ = .int .i64 (b.tmod d+d)),(16,fun z_ _=>z_ = .int .i64 d),(17,fun z_ _=>z_ = .int .i64 ((b.tmod d+d).tmod d)),(5,fun z_ _=>z_ = .int .i64 (a.tmod 1048576)),(6,fun z_ _=>z_ = .int .i64 ((b.tmod d+d).tmod d))]) (by kernel_rfl) (by kernel_rfl) (lk_steady _ ⟨steady_eq _,steady_eq _,steady_eq _,steady_eq _,steady_eq _,steady_eq _,steady_eq _,steady_eq _,steady_eq _,steady_eq _,steady_eq _,steady_eq _,steady_eq _,trivial⟩) ?_ ?_
 ·refine ⟨?_,?_,?_,?_,?_,?_,?_,?_,?_,?_,?_,?_,?_,trivial⟩
  ·refine ob_plain [2] rfl rfl fun aa g h=>?_
   have yy0:=seen_out (v:=.pointer (some ⟨w.heap.size,0,none⟩)) rfl rfl h.1
   exact tvS (by simp [go_sem,yy0]) rfl
  ·refine ob_plain [7] rfl rfl fun aa g h=>?_
   obtain ⟨_,yy0,rfl⟩:=seen_in rfl h.1
   exact tvS (by simp [go_sem,yy0,fa g]) rfl
  ·refine ob_plain [8] rfl rfl fun aa g h=>?_
   obtain ⟨_,yy0,rfl⟩:=seen_in rfl h.1
   exact tvS (by simp [go_sem,yy0]) rfl
  ·refine ob_plain [2] rfl rfl fun aa g h=>?_
   have yy0:=seen_out (v:=.pointer (some ⟨w.heap.size,0,none⟩)) rfl rfl h.1
   exact tvS (by simp [go_sem,yy0]) rfl
  ·refine ob_plain [10] rfl rfl fun aa g h=>?_
   obtain ⟨_,yy0,rfl⟩:=seen_in rfl h.1
   exact tvS (by simp [go_sem,yy0,fb g]) rfl
  ·refine ob_plain [1] rfl rfl fun aa g h=>?_
   have yy0:=seen_out (v:=.int .i64 d) rfl rfl h.1
   exact tvS (by simp [go_sem,yy0]) rfl
  ·refine ob_plain [11,12] rfl rfl fun aa g h=>?_
   obtain ⟨_,yy0,rfl⟩:=seen_in rfl h.1
   obtain ⟨_,yy1,rfl⟩:=seen_in rfl h.2.1
   exact tvS (by simp [go_sem,yy0,yy1,hd0]) rfl
  ·refine ob_plain [1] rfl rfl fun aa g h=>?_
   have yy0:=seen_out (v:=.int .i64 d) rfl rfl h.1
   exact tvS (by simp [go_sem,yy0]) rfl
  ·refine ob_plain [13,14] rfl rfl fun aa g h=>?_
   obtain ⟨_,yy0,rfl⟩:=seen_in rfl h.1
   obtain ⟨_,yy1,rfl⟩:=seen_in rfl h.2.1
   exact tvS (by simp [go_sem,yy0,yy1,W1]) rfl
  ·refine ob_plain [1] rfl rfl fun aa g h=>?_
   have yy0:=seen_out (v:=.int .i64 d) rfl rfl h.1
   exact tvS (by simp [go_sem,yy0]) rfl
  ·refine ob_plain [15,16] rfl rfl fun aa g h=>?_
   obtain ⟨_,yy0,rfl⟩:=seen_in rfl h.1
   obtain ⟨_,yy1,rfl⟩:=seen_in rfl h.2.1
   exact tvS (by simp [go_sem,yy0,yy1,hd0]) rfl
  ·refine ob_plain [9] rfl rfl fun aa g h=>?_
   obtain ⟨_,yy0,rfl⟩:=seen_in rfl h.1
   exact tvS (by simp [go_sem,yy0]) rfl
  ·refine ob_plain [17] rfl rfl fun aa g h=>?_
   obtain ⟨_,yy0,rfl⟩:=seen_in rfl h.1
   exact tvS (by simp [go_sem,yy0]) rfl
 rintro w9 hB9 _ rfl _ rfl _ rfl _ rfl _ rfl _ rfl _ rfl _ rfl _ rfl _ rfl _ rfl _ rfl _ rfl
 simp only [Act.put,List.setIfInBounds_toArray,List.set_cons_succ,List.set_cons_zero,List.filterMap_nil,finP]
 have hy:=(hB9.block _ (Array.getElem?_eq_some_iff.1 HY.out).1).trans HY.out
 have y0:=heapN_cellj hy (k:=0) rfl
 have y1:=heapN_cellj hy (k:=1) rfl
 have z0:w9.frozen? ⟨w.heap.size+1,0,none⟩ = false:=by simp [World.frozen?,hy]
 have z1:w9.frozen? ⟨w.heap.size+1,1,none⟩ = false:=by simp [World.frozen?,hy]
 have HW:=Lib.hid (below_then HB.out hB9)
 obtain ⟨x,hx⟩:∃ x,a.tmod 1048576 = x:=⟨_,rfl⟩
 obtain ⟨y,hyy⟩:∃ y,(b.tmod d+d).tmod d = y:=⟨_,rfl⟩
 rw [hx,hyy] at W2
 have HXX:=Lib.hid hx
 have HYY:=Lib.hid hyy
 clear fa fb hB9 W1
 rw [hx,hyy]
 clear hx hyy
 go_wp2_with (fail)
 have hs:=cellsT_setN (o:=1) (u:=.int .i64 (x+y)) (cellsT_setN (o:=0) (u:=.int .i64 x) hy)
 have x0:=heapN_cellj hs (k:=0) (u:=.int .i64 x) rfl
 have x1:=heapN_cellj hs (k:=1) (u:=.int .i64 (x+y)) rfl
 exact bodyPost_ret (v:=.agg #[.int .i64 x,.int .i64 (x+y)]) (by simp [results,Tryz.results76,go_sem,x0,x1]) rfl ⟨by rw [HXX.out,HYY.out],(HW.out.setCell (p:=⟨w.heap.size+1,0,none⟩) (by dsimp only; omega) _).setCell (p:=⟨w.heap.size+1,1,none⟩) (by dsimp only; omega) _⟩
def boxI (l:List (Int × Int)) (n:Nat) (d:Int):List (Int × Int):=(List.range n).map (fun i=>nearI (l.getD i (0,0)) d)
theorem boxI_snoc (l:List (Int × Int)) (n:Nat) (d:Int):boxI l (n+1) d = boxI l n d ++ [nearI (l.getD n (0,0)) d]:=by
 unfold boxI
 rw [List.range_succ,List.map_append]
 rfl
theorem boxI_len (l:List (Int × Int)) (n:Nat) (d:Int):(boxI l n d).length = n:=by simp [boxI]
theorem own_emptyB (W:World):(W.alloc (.cells #[] 66)).ownsRow W.heap.size 66 2 (.slice (some ⟨W.heap.size,0,none⟩) 0 0) 0 [] :=
 World.ownsRow_made W #[] 0 (Nat.le_refl _) (Nat.zero_le _) rfl
set_option maxHeartbeats 8000000 in
theorem boxes_ok (vl:Value) (l:List (Int × Int)) (n:Nat) (d:Int) (w:World) (hl:Vx w vl l) (hn:n ≤ 6) (h1:1 ≤ d) (h2:d ≤ 16777216):Calls Tryz.prog 33 #[vl,.int .i64 n,.int .i64 d] w fun e w'=>∃ p c,e = .returned (.slice p n c)∧w'.ownsRow w.heap.size 66 2 (.slice p n c) n (cr encB (boxI l n d))∧Below w.heap.size w w':=by
 obtain ⟨i0,hi,hz0,hz1,hz2⟩:=info_parts info_ivB
 obtain ⟨pl,cl,rfl⟩:=hl.cut
 have hm:=hl.1
 unfold maxLen at hm
 have HL:=Lib.hid hl
 have H0:=Lib.hid (own_emptyB w)
 have B0:Below w.heap.size w (w.alloc (.cells #[] 66)):=(Below.refl _ _).alloc (Nat.le_refl _) _
 have HB:=Lib.hid B0
 clear hl B0
 go_enter Tryz.func33,Tryz.ntmps33
 go_wp2_with (fail)
 go_loopw [7,8] (fun v i wr=>∃ k:Nat,i = .int .i64 k∧k ≤ n∧wr.ownsRow w.heap.size 66 2 v k (cr encB (boxI l k d))∧Below w.heap.size w wr) (fun v i _=>n - (intOf i).toNat)
 case atStart=>exact ⟨0,rfl,Nat.zero_le _,H0.out,HB.out⟩
 case round =>
  clear H0 HB
  obtain ⟨k,rfl,hk,hrow,hB⟩:=hrel
  obtain ⟨pv,cv,rfl⟩:=own_slice hrow
  have HR:=Lib.hid hrow
  have HBr:=Lib.hid hB
  have hsr:=hB.size
  by_cases hlt:k < n
  ·have i2:(k:Int) < n:=by omega
   obtain ⟨⟨p,q⟩,hpq⟩:∃ x,l.getD k (0,0) = x:=⟨_,rfl⟩
   have hsn:=boxI_snoc l k d
   rw [hpq] at hsn
   have KN:=Lib.hid (fun w=>r2near p q d w h1 h2)
   obtain ⟨⟨r1,r2⟩,hr⟩:∃ r,nearI (p,q) d = r:=⟨_,rfl⟩
   rw [hr] at hsn KN
   dsimp only at KN
   have HSN:=Lib.hid hsn
   clear hsn hr hrow hB
   by_cases hll:k < l.length
   ·have i3:(k:Int) < l.length:=by omega
    have hx:l[k]? = some (p,q):=by rw [List.getD_eq_getElem?_getD,List.getElem?_eq_getElem hll] at hpq; rw [List.getElem?_eq_getElem hll]; exact congrArg some hpq
    obtain ⟨bl,ol,rfl,hbl,rdl⟩:=vx_rd HL.out hx
    obtain ⟨f0,f1⟩:=rdl ⟨wr.alloc (.cells #[.int .i64 0,.int .i64 0] 66),HBr.out.alloc hsr _⟩
    dsimp only at f0 f1
    clear rdl hx hpq
    go_wp2_with (fail)
    refine (KN.out _).mono ?_
    rintro e w5 ⟨rfl,hB5⟩
    have hrow5:=own_keptN (HR.out.alloc (.cells #[.int .i64 p,.int .i64 q] 66)) hB5
    have hB6:=(HBr.out.alloc hsr (.cells #[.int .i64 p,.int .i64 q] 66)).trans (hB5.mono (by rw [alloc_sz]; omega))
    have hs5:=hB6.size
    have HR5:=Lib.hid hrow5
    have HB6:=Lib.hid hB6
    clear hB5 hrow5 hB6 KN
    go_wp2_with (at_builtin; refine wpList_append_own _ rfl (.tmp 25) (.tmp 29) 23 rfl w.heap.size 66 i0 (.agg #[.int .i64 0,.int .i64 0]) 2 16 Tryz.underlying23 hi hz0 hz1 hz2 rfl (by decide) (.slice pv k cv) k _ rfl (HR5.out.alloc _) ⟨w5.heap.size,0,none⟩ 1 1 (encB (r1,r2)) rfl rfl (new_b _ (r1,r2)) (one_b _) (by unfold maxLen; omega) (by omega) (by rw [alloc_sz]; omega) ?_)
    intro v' w8 hown' hgrow _
    have hB8:Below w.heap.size w w8:=Below.grown (HB6.out.alloc hs5 _) hgrow (by rw [alloc_sz]; omega) (fun i hi=>(HR5.out.lt i hi).1)
    obtain ⟨p8,c8,rfl⟩:=own_slice hown'
    have HR8:=Lib.hid hown'
    have HB8:=Lib.hid hB8
    clear hown' hgrow hB8
    go_wp2_with (fail)
    go_roundw
    case rel =>
     refine ⟨k+1,by go_num,by omega,?_,HB8.out⟩
     rw [HSN.out,cr_snoc]
     exact HR8.out
    case measure=>simp [intOf]; omega
   ·have i3:(l.length:Int) ≤ k:=by omega
    have he:((0:Int),(0:Int)) = (p,q):=by rw [← hpq,List.getD_eq_getElem?_getD,List.getElem?_eq_none (by omega)]; rfl
    obtain ⟨rfl,rfl⟩:=Prod.mk.inj he
    clear he hpq
    go_wp2_with (fail)
    refine (KN.out _).mono ?_
    rintro e w5 ⟨rfl,hB5⟩
    have hrow5:=own_keptN (HR.out.alloc (.cells #[.int .i64 0,.int .i64 0] 66)) hB5
    have hB6:=(HBr.out.alloc hsr (.cells #[.int .i64 0,.int .i64 0] 66)).trans (hB5.mono (by rw [alloc_sz]; omega))
    have hs5:=hB6.size
    have HR5:=Lib.hid hrow5
    have HB6:=Lib.hid hB6
    clear hB5 hrow5 hB6 KN
    go_wp2_with (at_builtin; refine wpList_append_own _ rfl (.tmp 25) (.tmp 29) 23 rfl w.heap.size 66 i0 (.agg #[.int .i64 0,.int .i64 0]) 2 16 Tryz.underlying23 hi hz0 hz1 hz2 rfl (by decide) (.slice pv k cv) k _ rfl (HR5.out.alloc _) ⟨w5.heap.size,0,none⟩ 1 1 (encB (r1,r2)) rfl rfl (new_b _ (r1,r2)) (one_b _) (by unfold maxLen; omega) (by omega) (by rw [alloc_sz]; omega) ?_)
    intro v' w8 hown' hgrow _
    have hB8:Below w.heap.size w w8:=Below.grown (HB6.out.alloc hs5 _) hgrow (by rw [alloc_sz]; omega) (fun i hi=>(HR5.out.lt i hi).1)
    obtain ⟨p8,c8,rfl⟩:=own_slice hown'
    have HR8:=Lib.hid hown'
    have HB8:=Lib.hid hB8
    clear hown' hgrow hB8
    go_wp2_with (fail)
    go_roundw
    case rel =>
     refine ⟨k+1,by go_num,by omega,?_,HB8.out⟩
     rw [HSN.out,cr_snoc]
     exact HR8.out
    case measure=>simp [intOf]; omega
  ·obtain rfl:n = k:=by omega
   have i2:¬ (n:Int) < n:=by omega
   go_wp2_with (fail)
   go_ret
   exact ⟨_,_,rfl,hrow,hB⟩
end Go.Proofs.YtdfdpghdjlgghaaGreat
namespace Go.Proofs.YtdfdpghdjlgghaaGreat
open Go.ChangeShapes Go.WideShapes Go.ChangeAt Go.RowKit Go.Maps
set_option linter.unusedVariables false
set_option linter.unusedSimpArgs false
set_option maxRecDepth 100000
attribute [local irreducible] Calls
def MpK (M:Int→Option Nat) (D:DataW Unit):Prop:=IsMap D∧∀ i:Int,W64 i→Maps.has D (.int .i64 i) = (M i).isSome∧∀ a,M i = some a→∀ z,D.atKey (.int .i64 i) z = dN a
def MpI (mb n:Nat) (M:Int→Option Nat) (W:World):Prop:=∃ D,W.ownsMap Tryz.prog 3 elN mb n D∧MpK M D
theorem mpK_start:MpK (fun _=>none) (.map []):=⟨isMap_empty,fun x _=>⟨by simp [Maps.has],fun a h=>by cases h⟩⟩
section
variable {mb n:Nat} {M:Int→Option Nat} {W W':World}
theorem MpI.kept {row:Option Nat} (h:MpI mb n M W) (hg:W.grownBy W' row) (hne:some mb ≠ row):MpI mb n M W':=by
 obtain ⟨D,h1,h2⟩:=h
 exact ⟨D,h1.kept hg hne,h2⟩
theorem MpI.lt (h:MpI mb n M W):mb < W.heap.size:=by
 obtain ⟨D,h1,_⟩:=h
 exact h1.lt
theorem MpI.new (W:World):MpI W.heap.size 0 (fun _=>none) (W.alloc (.map #[] 0)):=⟨_,World.ownsMap_made (H:=Unit) W Tryz.prog 3 elN,mpK_start⟩
end
end Go.Proofs.YtdfdpghdjlgghaaGreat
namespace Go.Proofs.YtdfdpghdjlgghaaGreat
open Go.ChangeShapes Go.WideShapes Go.ChangeAt Go.RowKit Go.Maps
set_option linter.unusedVariables false
set_option linter.unusedSimpArgs false
set_option maxRecDepth 100000
attribute [local irreducible] Calls
end Go.Proofs.YtdfdpghdjlgghaaGreat
namespace Go.Proofs.YtdfdpghdjlgghaaGreat
set_option linter.unusedVariables false
set_option linter.unusedSimpArgs false
set_option maxRecDepth 100000
def Sb (a b i j:Int):Prop:=i ≤ a∧b ≤ j
theorem ent_up {a b i j:Int} (hv:VI a b) (hu:VI i j) (h:Sb a b i j) (he:Ent a b):Ent i j:=by
 unfold Sb VI Ent Num at *; omega
theorem prod_in {x y i j k l:Int} (h1:i ≤ x) (h2:x ≤ j) (h3:k ≤ y) (h4:y ≤ l):mn4 i j k l ≤ x * y∧x * y ≤ mx4 i j k l:=by
 obtain ⟨e1,e2,e3,e4,-,-,-,-⟩:=edges (a:=i) (b:=j) (c:=k) (d:=y) (by omega) h3
 obtain ⟨f1,f2,f3,f4,-,-,-,-⟩:=edges (a:=i) (b:=j) (c:=y) (d:=l) (by omega) h4
 have p:0 ≤ y→i * y ≤ x * y∧x * y ≤ j * y:=fun hy=>⟨Int.mul_le_mul_of_nonneg_right h1 hy,Int.mul_le_mul_of_nonneg_right h2 hy⟩
 have q:y ≤ 0→x * y ≤ i * y∧j * y ≤ x * y:=fun hy=>⟨Int.mul_le_mul_of_nonpos_right h1 hy,Int.mul_le_mul_of_nonpos_right h2 hy⟩
 unfold mn4 mx4
 rcases Int.le_total 0 y with hy | hy
 ·have:=p hy
  rcases Int.le_total 0 i with hi | hi
  ·have:=e1 hi; have:=f1 hi
   rcases Int.le_total 0 j with hj | hj
   ·have:=e3 hj; have:=f3 hj; omega
   ·have:=e4 hj; have:=f4 hj; omega
  ·have:=e2 hi; have:=f2 hi
   rcases Int.le_total 0 j with hj | hj
   ·have:=e3 hj; have:=f3 hj; omega
   ·have:=e4 hj; have:=f4 hj; omega
 ·have:=q hy
  rcases Int.le_total 0 i with hi | hi
  ·have:=e1 hi; have:=f1 hi
   rcases Int.le_total 0 j with hj | hj
   ·have:=e3 hj; have:=f3 hj; omega
   ·have:=e4 hj; have:=f4 hj; omega
  ·have:=e2 hi; have:=f2 hi
   rcases Int.le_total 0 j with hj | hj
   ·have:=e3 hj; have:=f3 hj; omega
   ·have:=e4 hj; have:=f4 hj; omega
theorem mn4_iso {a b c d i j k l:Int} (hab:a ≤ b) (hcd:c ≤ d) (h:Sb a b i j) (g:Sb c d k l):mn4 i j k l ≤ mn4 a b c d∧mx4 a b c d ≤ mx4 i j k l:=by
 obtain ⟨h1,h2⟩:=h
 obtain ⟨g1,g2⟩:=g
 have p1:=prod_in h1 (Int.le_trans hab h2) g1 (Int.le_trans hcd g2)
 have p2:=prod_in h1 (Int.le_trans hab h2) (Int.le_trans g1 hcd) g2
 have p3:=prod_in (Int.le_trans h1 hab) h2 g1 (Int.le_trans hcd g2)
 have p4:=prod_in (Int.le_trans h1 hab) h2 (Int.le_trans g1 hcd) g2
 rw [show mn4 a b c d = min (min (a * c) (a * d)) (min (b * c) (b * d)) from rfl,show mx4 a b c d = max (max (a * c) (a * d)) (max (b * c) (b * d)) from rfl]
 omega
section
variable {a b c d i j k l:Int} (hv:VI a b) (hw:VI c d) (hi:VI i j) (hk:VI k l) (h:Sb a b i j) (g:Sb c d k l)
include hv hw hi hk h g
theorem add_iso:Sb (addLo a b c d) (addHi a b c d) (addLo i j k l) (addHi i j k l):=by
 have hvi:=(add_vi hv.bd.2.2.2.2 hw.bd.2.2.2.2).wide
 unfold Sb at *
 by_cases he:Ent i j ∨ Ent k l
 ·rw [show addLo i j k l = -2147483648 by unfold addLo; rw [if_pos he],show addHi i j k l = 2147483648 by unfold addHi; rw [if_pos he]]; exact hvi
 ·have hn:¬ (Ent a b ∨ Ent c d):=fun q=>he (q.imp (ent_up hv hi h) (ent_up hw hk g))
  unfold addLo addHi
  rw [if_neg he,if_neg he,if_neg hn,if_neg hn]
  have:=hv.bd; have:=hw.bd
  exact mk_sub (by omega) (by omega) (by omega)
theorem mul_iso:Sb (mulLo a b c d) (mulHi a b c d) (mulLo i j k l) (mulHi i j k l):=by
 have hvi:=(mul_vi a b c d).wide
 have hm:=mn4_iso hv.bd.2.2.2.2 hw.bd.2.2.2.2 h g
 unfold Sb at *
 by_cases he:Ent i j ∨ Ent k l
 ·rw [show mulLo i j k l = -2147483648 by unfold mulLo; rw [if_pos he],show mulHi i j k l = 2147483648 by unfold mulHi; rw [if_pos he]]; exact hvi
 ·have hn:¬ (Ent a b ∨ Ent c d):=fun q=>he (q.imp (ent_up hv hi h) (ent_up hw hk g))
  unfold mulLo mulHi
  rw [if_neg he,if_neg he,if_neg hn,if_neg hn]
  exact mk_sub (dn_mono (by decide) hm.1) (dn_up_le (mn_mx a b c d)) (up_mono (by decide) hm.2)
end
theorem neg_iso {a b i j:Int} (h:Sb a b i j):Sb (-b) (-a) (-j) (-i):=by unfold Sb at *; omega
theorem quo_in {x y i j k l:Int} (h1:i ≤ x) (h2:x ≤ j) (h3:k ≤ y) (h4:y ≤ l) (hs:0 < k ∨ l < 0):dv1 i j k l ≤ dn (x * 65536) y∧up (x * 65536) y ≤ dv2 i j k l:=by
 have hy:0 < y ∨ y < 0:=by omega
 obtain ⟨a1,a2⟩:=dn_anti2 (x:=i * 65536) (c:=k) (d:=y) (by omega) h3
 obtain ⟨a3,a4⟩:=dn_anti2 (x:=i * 65536) (c:=y) (d:=l) (by omega) h4
 obtain ⟨a5,a6⟩:=dn_anti2 (x:=j * 65536) (c:=k) (d:=y) (by omega) h3
 obtain ⟨a7,a8⟩:=dn_anti2 (x:=j * 65536) (c:=y) (d:=l) (by omega) h4
 obtain ⟨b1,b2⟩:=up_anti2 (x:=i * 65536) (c:=k) (d:=y) (by omega) h3
 obtain ⟨b3,b4⟩:=up_anti2 (x:=i * 65536) (c:=y) (d:=l) (by omega) h4
 obtain ⟨b5,b6⟩:=up_anti2 (x:=j * 65536) (c:=k) (d:=y) (by omega) h3
 obtain ⟨b7,b8⟩:=up_anti2 (x:=j * 65536) (c:=y) (d:=l) (by omega) h4
 obtain ⟨m1,m2⟩:=dn_num (x:=i * 65536) (y:=x * 65536) (c:=y) (by omega)
 obtain ⟨m3,m4⟩:=dn_num (x:=x * 65536) (y:=j * 65536) (c:=y) (by omega)
 obtain ⟨n1,n2⟩:=up_num (x:=i * 65536) (y:=x * 65536) (c:=y) (by omega)
 obtain ⟨n3,n4⟩:=up_num (x:=x * 65536) (y:=j * 65536) (c:=y) (by omega)
 unfold dv1 dv2
 rcases Int.le_total 0 i with hi | hi
 ·have:=a1 (by omega); have:=a3 (by omega); have:=b1 (by omega); have:=b3 (by omega)
  rcases Int.le_total 0 j with hj | hj
  ·have:=a5 (by omega); have:=a7 (by omega); have:=b5 (by omega); have:=b7 (by omega)
   rcases hy with hy | hy
   ·have:=m1 hy; have:=n3 hy; omega
   ·have:=m4 hy; have:=n2 hy; omega
  ·have:=a6 (by omega); have:=a8 (by omega); have:=b6 (by omega); have:=b8 (by omega)
   rcases hy with hy | hy
   ·have:=m1 hy; have:=n3 hy; omega
   ·have:=m4 hy; have:=n2 hy; omega
 ·have:=a2 (by omega); have:=a4 (by omega); have:=b2 (by omega); have:=b4 (by omega)
  rcases Int.le_total 0 j with hj | hj
  ·have:=a5 (by omega); have:=a7 (by omega); have:=b5 (by omega); have:=b7 (by omega)
   rcases hy with hy | hy
   ·have:=m1 hy; have:=n3 hy; omega
   ·have:=m4 hy; have:=n2 hy; omega
  ·have:=a6 (by omega); have:=a8 (by omega); have:=b6 (by omega); have:=b8 (by omega)
   rcases hy with hy | hy
   ·have:=m1 hy; have:=n3 hy; omega
   ·have:=m4 hy; have:=n2 hy; omega
theorem div_iso {a b c d i j k l:Int} (hv:VI a b) (hw:VI c d) (hi:VI i j) (hk:VI k l) (h:Sb a b i j) (g:Sb c d k l):Sb (divLo a b c d) (divHi a b c d) (divLo i j k l) (divHi i j k l):=by
 have hab:=hv.bd.2.2.2.2
 have hcd:=hw.bd.2.2.2.2
 have hvi:=(div_vi (a:=a) (b:=b) hcd).wide
 by_cases he:Ent i j ∨ (k ≤ 0∧0 ≤ l)
 ·unfold Sb
  rw [show divLo i j k l = -2147483648 by unfold divLo; rw [if_pos he],show divHi i j k l = 2147483648 by unfold divHi; rw [if_pos he]]; exact hvi
 ·have hn:¬ (Ent a b ∨ (c ≤ 0∧0 ≤ d)):=fun q=>he (q.imp (ent_up hv hi h) (by unfold Sb at g; omega))
  have hs:0 < k ∨ l < 0:=by have:=hk.bd; omega
  unfold Sb at *
  unfold divLo divHi
  rw [if_neg he,if_neg he,if_neg hn,if_neg hn]
  have p1:=quo_in (x:=a) (y:=c) (i:=i) (j:=j) (k:=k) (l:=l) h.1 (by omega) g.1 (by omega) hs
  have p2:=quo_in (x:=a) (y:=d) (i:=i) (j:=j) (k:=k) (l:=l) h.1 (by omega) (by omega) g.2 hs
  have p3:=quo_in (x:=b) (y:=c) (i:=i) (j:=j) (k:=k) (l:=l) (by omega) h.2 g.1 (by omega) hs
  have p4:=quo_in (x:=b) (y:=d) (i:=i) (j:=j) (k:=k) (l:=l) (by omega) h.2 (by omega) g.2 hs
  refine mk_sub ?_ (dv_le (by omega)) ?_
  ·exact Int.le_min.2 ⟨Int.le_min.2 ⟨p1.1,p2.1⟩,Int.le_min.2 ⟨p3.1,p4.1⟩⟩
  ·exact Int.max_le.2 ⟨Int.max_le.2 ⟨p1.2,p2.2⟩,Int.max_le.2 ⟨p3.2,p4.2⟩⟩
theorem sq_le_abs {x i j:Int} (h1:i ≤ x) (h2:x ≤ j):x * x ≤ max (i * i) (j * j):=by
 by_cases hx:0 ≤ x
 ·have:=sq_le hx h2; omega
 ·have:=sq_le (a:=-x) (b:=-i) (by omega) (by omega)
  rw [Int.neg_mul_neg,Int.neg_mul_neg] at this
  omega
theorem sq_iso {a b i j:Int} (hv:VI a b) (hi:VI i j) (h:Sb a b i j):Sb (sqLo a b) (sqHi a b) (sqLo i j) (sqHi i j):=by
 have hab:=hv.bd.2.2.2.2
 have hvi:=(sq_vi a b).wide
 by_cases he:Ent i j
 ·unfold Sb
  rw [show sqLo i j = -2147483648 by unfold sqLo; rw [if_pos he],show sqHi i j = 2147483648 by unfold sqHi; rw [if_pos he]]; exact hvi
 ·have hn:¬ Ent a b:=fun q=>he (ent_up hv hi h q)
  unfold Sb at *
  have q1:=sq_le_abs h.1 (Int.le_trans hab h.2)
  have q2:=sq_le_abs (Int.le_trans h.1 hab) h.2
  have n1:=sq_nonneg a
  have n2:=sq_nonneg b
  unfold sqLo sqHi
  rw [if_neg he,if_neg he,if_neg hn,if_neg hn]
  refine mk_sub (dn_mono (by decide) ?_) (Int.le_trans (dn_mono (by decide) (sq12 a b)) (up_dn _ (by decide)).1) (up_mono (by decide) (by unfold sq2; omega))
  unfold sq1
  by_cases hc:i ≤ 0∧0 ≤ j
  ·rw [if_pos hc]; split <;> omega
  ·rw [if_neg hc,if_neg (by omega)]
   by_cases hp:0 < i
   ·have r1:=sq_le (a:=i) (b:=a) (by omega) h.1
    have r2:=sq_le (a:=i) (b:=b) (by omega) (by omega)
    omega
   ·have r1:=sq_le (a:=-j) (b:=-b) (by omega) (by omega)
    have r2:=sq_le (a:=-j) (b:=-a) (by omega) (by omega)
    rw [Int.neg_mul_neg,Int.neg_mul_neg] at r1 r2
    omega
theorem usq_mono {x y:Int} (h:0 ≤ x) (hm:x ≤ y):usq x ≤ usq y:=by
 have hx:=isq_spec h
 have hy:=isq_spec (show 0 ≤ y by omega)
 have hi:=isq_mono h hm
 unfold usq
 by_cases h1:isq x * isq x = x
 ·rw [if_pos h1]; split <;> omega
 ·rw [if_neg h1]
  by_cases h2:isq y * isq y = y
  ·rw [if_pos h2]
   have:isq x < isq y:=sq_lt (by omega) hy.1
   omega
  ·rw [if_neg h2]; omega
theorem rt_iso {a b i j:Int} (hab:a ≤ b) (hb:0 ≤ b) (h:Sb a b i j):Sb (mkLo (rt1 a) (rt2 b)) (mkHi (rt1 a) (rt2 b)) (mkLo (rt1 i) (rt2 j)) (mkHi (rt1 i) (rt2 j)):=by
 unfold Sb at *
 refine mk_sub ?_ (rt_le hab hb) ?_
 ·unfold rt1; exact isq_mono (by omega) (by omega)
 ·unfold rt2; exact usq_mono (by omega) (by omega)
end Go.Proofs.YtdfdpghdjlgghaaGreat
namespace Go.Proofs.YtdfdpghdjlgghaaGreat
set_option linter.unusedVariables false
set_option linter.unusedSimpArgs false
set_option maxRecDepth 100000
def SbI (p q:Int × Int):Prop:=Sb p.1 p.2 q.1 q.2
theorem rtI_iso {p q:Int × Int} (hp:VI p.1 p.2) (hq:VI q.1 q.2) (h:SbI p q):SbI (rtI p) (rtI q):=by
 have bp:=hp.bd
 have h1:=rtI_vi hp
 have b1:=h1.bd
 have hs:q.1 ≤ p.1∧p.2 ≤ q.2:=h
 by_cases hq0:q.1 < 0
 ·have e:rtI q = (-2147483648,2147483648):=if_pos hq0
  rw [e]
  unfold SbI Sb
  dsimp only
  omega
 ·have hp0:¬ p.1 < 0:=by omega
  have e1:rtI p = (mkLo (rt1 p.1) (rt2 p.2),mkHi (rt1 p.1) (rt2 p.2)):=if_neg hp0
  have e2:rtI q = (mkLo (rt1 q.1) (rt2 q.2),mkHi (rt1 q.1) (rt2 q.2)):=if_neg hq0
  rw [e1,e2]
  have hbp:p.1 ≤ p.2:=bp.2.2.2.2
  have h2:0 ≤ p.2:=by omega
  have hh:Sb p.1 p.2 q.1 q.2:=h
  have hr:=rt_iso (a:=p.1) (b:=p.2) (i:=q.1) (j:=q.2) hbp h2 hh
  unfold SbI
  dsimp only
  exact hr
theorem opI_iso (op:Int) {p q p' q':Int × Int} (hp:VI p.1 p.2) (hq:VI q.1 q.2) (hp':VI p'.1 p'.2) (hq':VI q'.1 q'.2) (h:SbI p p') (g:SbI q q'):SbI (opI op p q) (opI op p' q'):=by
 unfold opI
 by_cases h4:op = 4
 ·rw [if_pos h4,if_pos h4]; exact neg_iso h
 rw [if_neg h4,if_neg h4]
 by_cases h5:op = 5
 ·rw [if_pos h5,if_pos h5]; exact sq_iso hp hp' h
 rw [if_neg h5,if_neg h5]
 by_cases h6:op = 6
 ·rw [if_pos h6,if_pos h6]; exact rtI_iso hp hp' h
 rw [if_neg h6,if_neg h6]
 by_cases h7:op = 7
 ·rw [if_pos h7,if_pos h7]; exact add_iso hp hq hp' hq' h g
 rw [if_neg h7,if_neg h7]
 by_cases h8:op = 8
 ·rw [if_pos h8,if_pos h8]; exact add_iso hp hq.neg hp' hq'.neg h (neg_iso g)
 rw [if_neg h8,if_neg h8]
 by_cases h9:op = 9
 ·rw [if_pos h9,if_pos h9]; exact mul_iso hp hq hp' hq' h g
 ·rw [if_neg h9,if_neg h9]; exact div_iso hp hq hp' hq' h g
def SbL (l m:List (Int × Int)):Prop:=l.length = m.length∧∀ (i:Nat) (p q:Int × Int),l[i]? = some p→m[i]? = some q→VI p.1 p.2∧VI q.1 q.2∧SbI p q
theorem sbL_getD {l m:List (Int × Int)} (h:SbL l m) (j:Nat):VI (l.getD j (0,0)).1 (l.getD j (0,0)).2∧VI (m.getD j (0,0)).1 (m.getD j (0,0)).2∧SbI (l.getD j (0,0)) (m.getD j (0,0)):=by
 rw [List.getD_eq_getElem?_getD,List.getD_eq_getElem?_getD]
 by_cases hj:j < l.length
 ·obtain ⟨p,hp⟩:∃ p,l[j]? = some p:=⟨_,List.getElem?_eq_getElem hj⟩
  obtain ⟨q,hq⟩:∃ q,m[j]? = some q:=⟨_,List.getElem?_eq_getElem (by rw [← h.1]; exact hj)⟩
  rw [hp,hq]
  exact h.2 j p q hp hq
 ·rw [List.getElem?_eq_none (by omega),List.getElem?_eq_none (by have:=h.1; omega)]
  exact ⟨.inr (by decide),.inr (by decide),⟨Int.le_refl _,Int.le_refl _⟩⟩
theorem sbL_snoc {l m:List (Int × Int)} (h:SbL l m) {p q:Int × Int} (hp:VI p.1 p.2) (hq:VI q.1 q.2) (g:SbI p q):SbL (l ++ [p]) (m ++ [q]):=by
 refine ⟨by simp [h.1],fun i a b ha hb=>?_⟩
 by_cases hi:i < l.length
 ·rw [List.getElem?_append_left hi] at ha
  rw [List.getElem?_append_left (by rw [← h.1]; exact hi)] at hb
  exact h.2 i a b ha hb
 ·have hi2:=(List.getElem?_eq_some_iff.1 ha).1
  simp only [List.length_append,List.length_singleton] at hi2
  obtain rfl:i = l.length:=by omega
  rw [List.getElem?_append_right (Nat.le_refl _),Nat.sub_self] at ha
  rw [List.getElem?_append_right (by rw [h.1]; exact Nat.le_refl _),h.1,Nat.sub_self] at hb
  simp only [List.getElem?_cons_zero,Option.some.injEq] at ha hb
  subst ha hb
  exact ⟨hp,hq,g⟩
theorem evL_iso {X X':List (Int × Int)} {t t':Int × Int} {L:List Is} {n:Int} (hX:SbL X X') (ht:VI t.1 t.2) (ht':VI t'.1 t'.2) (hs:SbI t t') (hL:∀ (k:Nat) (x:Is),L[k]? = some x→vinB k n x = true):SbL (evL X t L) (evL X' t' L):=by
 have key:∀ k,k ≤ L.length→SbL (evL X t (L.take k)) (evL X' t' (L.take k)):=by
  intro k
  induction k with
  | zero=>intro _; exact ⟨rfl,fun i a b ha=>by simp [evL] at ha⟩
  | succ k ih =>
   intro hk
   obtain ⟨x,hx⟩:∃ x,L[k]? = some x:=⟨_,List.getElem?_eq_getElem (by omega)⟩
   have h0:=ih (by omega)
   rw [evL_snoc hx,evL_snoc hx]
   have hv:=hL k x hx
   have hc:=vin_cases hv
   suffices h:VI (evI X t (evL X t (L.take k)) x).1 (evI X t (evL X t (L.take k)) x).2∧VI (evI X' t' (evL X' t' (L.take k)) x).1 (evI X' t' (evL X' t' (L.take k)) x).2∧SbI (evI X t (evL X t (L.take k)) x) (evI X' t' (evL X' t' (L.take k)) x) from sbL_snoc h0 h.1 h.2.1 h.2.2
   unfold evI
   by_cases e1:x.op = 1
   ·rw [if_pos e1,if_pos e1]
    have hvi:VI x.lo x.hi:=by
     rcases hc with h | h | h | h | h
     ·exact h.2
     all_goals omega
    exact ⟨hvi,hvi,Int.le_refl _,Int.le_refl _⟩
   rw [if_neg e1,if_neg e1]
   by_cases e2:x.op = 2
   ·rw [if_pos e2,if_pos e2]; exact sbL_getD hX _
   rw [if_neg e2,if_neg e2]
   by_cases e3:x.op = 3
   ·rw [if_pos e3,if_pos e3]; exact ⟨ht,ht',hs⟩
   rw [if_neg e3,if_neg e3]
   have ga:=sbL_getD h0 x.a.toNat
   have gb:=sbL_getD h0 x.b.toNat
   exact ⟨opI_vi _ ga.1 gb.1,opI_vi _ ga.2.1 gb.2.1,opI_iso _ ga.1 gb.1 ga.2.1 gb.2.1 ga.2.2 gb.2.2⟩
 have:=key L.length (Nat.le_refl _)
 rwa [List.take_length] at this
end Go.Proofs.YtdfdpghdjlgghaaGreat
