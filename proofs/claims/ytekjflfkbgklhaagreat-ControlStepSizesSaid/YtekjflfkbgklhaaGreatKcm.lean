/-
 IvMath U5
-/
import Derived.Test.YtekjflfkbgklhaaGreatKcd
import Derived.Test.YtekjflfkbgklhaaGreatKcf
import Derived.Test.YtekjflfkbgklhaaGreatKcg
import Derived.Test.YtekjflfkbgklhaaGreatKch
import Derived.Test.YtekjflfkbgklhaaGreatKcj
import Derived.Test.YtekjflfkbgklhaaGreatKck
import Derived.Test.YtekjflfkbgklhaaGreatKcl
import Derived.Laws.EntriesVeiled
namespace Go.Proofs.YtekjflfkbgklhaaGreat
set_option linter.unusedVariables false
set_option linter.unusedSimpArgs false
set_option maxRecDepth 100000
theorem mk_sub {x y x' y':Int} (h1:x' ≤ x) (h2:x ≤ y) (h3:y ≤ y'):mkLo x' y' ≤ mkLo x y∧mkHi x y ≤ mkHi x' y':=by
 unfold mkLo mkHi Num
 by_cases h:((-2147483648 < x'∧x' < 2147483648)∧(-2147483648 < y'∧y' < 2147483648))
 ·rw [if_pos h,if_pos (by omega),if_pos (by omega),if_pos h]; omega
 ·rw [if_neg h,if_neg h]
  split <;> omega
theorem mk_vi {x y:Int} (h:x ≤ y):VI (mkLo x y) (mkHi x y):=by
 unfold mkLo mkHi VI Ent
 by_cases hc:Num x∧Num y
 ·rw [if_pos hc,if_pos hc]; exact .inr ⟨hc.1,hc.2,h⟩
 ·rw [if_neg hc,if_neg hc]; exact .inl ⟨rfl,rfl⟩
theorem VI.wide {a b:Int} (h:VI a b):-2147483648 ≤ a∧b ≤ 2147483648:=by have:=h.bd; omega

theorem mk_self {a b:Int} (h:VI a b) (he:¬ Ent a b):mkLo a b = a∧mkHi a b = b:=by
 have:=h.resolve_left he
 unfold mkLo mkHi
 rw [if_pos ⟨this.1,this.2.1⟩,if_pos ⟨this.1,this.2.1⟩]; exact ⟨rfl,rfl⟩
theorem add_zero2 {a b:Int} (h:VI a b):addLo a b 0 0 = a∧addHi a b 0 0 = b:=by
 unfold addLo addHi
 by_cases he:Ent a b
 ·rw [if_pos (.inl he),if_pos (.inl he)]; exact ⟨he.1.symm,he.2.symm⟩
 ·have hn:¬ (Ent a b ∨ Ent 0 0):=fun k=>k.elim he (by unfold Ent; omega)
  rw [if_neg hn,if_neg hn,Int.add_zero,Int.add_zero]
  exact mk_self h he
theorem sq_nonneg (x:Int):0 ≤ x * x:=by
 by_cases h:0 ≤ x
 ·exact Int.mul_nonneg h h
 ·have:=Int.mul_nonneg (show 0 ≤ -x by omega) (show 0 ≤ -x by omega)
  rwa [Int.neg_mul_neg] at this
theorem mul_vi (a b c d:Int):VI (mulLo a b c d) (mulHi a b c d):=by
 unfold mulLo mulHi
 by_cases h:Ent a b ∨ Ent c d
 ·rw [if_pos h,if_pos h]; exact .inl ⟨rfl,rfl⟩
 ·rw [if_neg h,if_neg h]; exact mk_vi (dn_up_le (mn_mx a b c d))
theorem div_vi {a b c d:Int} (hcd:c ≤ d):VI (divLo a b c d) (divHi a b c d):=by
 unfold divLo divHi
 by_cases h:Ent a b ∨ (c ≤ 0∧0 ≤ d)
 ·rw [if_pos h,if_pos h]; exact .inl ⟨rfl,rfl⟩
 ·rw [if_neg h,if_neg h]; exact mk_vi (dv_le (by intro hc; exact h (.inr (by omega))))
theorem add_vi {a b c d:Int} (h1:a ≤ b) (h2:c ≤ d):VI (addLo a b c d) (addHi a b c d):=by
 unfold addLo addHi
 by_cases h:Ent a b ∨ Ent c d
 ·rw [if_pos h,if_pos h]; exact .inl ⟨rfl,rfl⟩
 ·rw [if_neg h,if_neg h]; exact mk_vi (by omega)
theorem mr_vi {a b n d:Int} (hd:0 < d):VI (mrLo a b n d) (mrHi a b n d):=by
 unfold mrLo mrHi
 by_cases h:Ent a b
 ·rw [if_pos h,if_pos h]; exact .inl ⟨rfl,rfl⟩
 ·rw [if_neg h,if_neg h]; exact mk_vi (mr_le hd)
theorem sq_vi (a b:Int):VI (sqLo a b) (sqHi a b):=by
 unfold sqLo sqHi
 by_cases h:Ent a b
 ·rw [if_pos h,if_pos h]; exact .inl ⟨rfl,rfl⟩
 ·rw [if_neg h,if_neg h]; exact mk_vi (Int.le_trans (dn_mono (by decide) (sq12 a b)) (up_dn _ (by decide)).1)
end Go.Proofs.YtekjflfkbgklhaaGreat
namespace Go.Proofs.YtekjflfkbgklhaaGreat
open Go.ChangeShapes Go.WideShapes Go.ChangeAt Go.RowKit
set_option linter.unusedVariables false
set_option linter.unusedSimpArgs false
set_option maxRecDepth 100000
attribute [local irreducible] Calls
def rtI (p:Int × Int):Int × Int:=if p.1 < 0 then (-2147483648,2147483648) else (mkLo (rt1 p.1) (rt2 p.2),mkHi (rt1 p.1) (rt2 p.2))
theorem root_ok (a b:Int) (w:World) (hv:VI a b):Calls Tryz.prog 178 #[.agg #[.int .i64 a,.int .i64 b]] w fun e w'=>e = .returned (.agg #[.int .i64 (rtI (a,b)).1,.int .i64 (rtI (a,b)).2])∧Below w.heap.size w w':=by
 obtain ⟨ha1,ha2,hb1,hb2,hab⟩:=hv.bd
 unfold rtI
 have hba:Below w.heap.size w ((w.alloc (.cells #[.int .i64 a,.int .i64 b] 59)).alloc (.cells #[.int .i64 0,.int .i64 0] 59)):=((Below.refl _ _).alloc (Nat.le_refl _) _).alloc (by rw [alloc_sz]; omega) _
 have hX:((w.alloc (.cells #[.int .i64 a,.int .i64 b] 59)).alloc (.cells #[.int .i64 0,.int .i64 0] 59)).heap[w.heap.size]? = some (.cells #[.int .i64 a,.int .i64 b] 59 (0,0)):=(((Below.refl _ (w.alloc (.cells #[.int .i64 a,.int .i64 b] 59))).alloc (Nat.le_refl _) _).block _ (by rw [alloc_sz]; omega)).trans (World.alloc_heap_new w _)
 have hY:((w.alloc (.cells #[.int .i64 a,.int .i64 b] 59)).alloc (.cells #[.int .i64 0,.int .i64 0] 59)).heap[w.heap.size+1]? = some (.cells #[.int .i64 0,.int .i64 0] 59 (0,0)):=by
  have:=World.alloc_heap_new (w.alloc (.cells #[.int .i64 a,.int .i64 b] 59)) (.cells #[.int .i64 0,.int .i64 0] 59)
  rwa [alloc_sz] at this
 have HX:=Lib.hid hX
 have HY:=Lib.hid hY
 have HB:=Lib.hid hba
 clear hX hY hba
 have hbl:=fun (w1:World) (h:Below ((w.alloc (.cells #[.int .i64 a,.int .i64 b] 59)).alloc (.cells #[.int .i64 0,.int .i64 0] 59)).heap.size ((w.alloc (.cells #[.int .i64 a,.int .i64 b] 59)).alloc (.cells #[.int .i64 0,.int .i64 0] 59)) w1) (p q:Int)=>(((below_then HB.out h).setCell (p:=⟨w.heap.size+1,0,none⟩) (by dsimp only; omega) (.int .i64 p)).setCell (p:=⟨w.heap.size+1,1,none⟩) (by dsimp only; omega) (.int .i64 q))
 by_cases h1:a < 0
 ·rw [if_pos h1]
  dsimp only
  go_enter Tryz.func178,Tryz.ntmps178
  go_wp2_with (fail)
  refine (iv_entire _).mono ?_
  rintro e w1 ⟨rfl,hB⟩
  have hy:=(hB.block _ (Array.getElem?_eq_some_iff.1 HY.out).1).trans HY.out
  have y0:=heapN_cellj hy (k:=0) rfl
  have y1:=heapN_cellj hy (k:=1) rfl
  have z0:w1.frozen? ⟨w.heap.size+1,0,none⟩ = false:=by simp [World.frozen?,hy]
  have z1:w1.frozen? ⟨w.heap.size+1,1,none⟩ = false:=by simp [World.frozen?,hy]
  have HW:=Lib.hid (hbl w1 hB)
  clear hB hbl
  go_wp2_with (fail)
  have hs:=cellsT_setN (o:=1) (u:=.int .i64 2147483648) (cellsT_setN (o:=0) (u:=.int .i64 (-2147483648)) hy)
  have x0:=heapN_cellj hs (k:=0) (u:=.int .i64 (-2147483648)) rfl
  have x1:=heapN_cellj hs (k:=1) (u:=.int .i64 2147483648) rfl
  exact bodyPost_ret (v:=.agg #[.int .i64 (-2147483648),.int .i64 2147483648]) (by simp [results,Tryz.results178,go_sem,x0,x1]) rfl ⟨rfl,HW.out _ _⟩
 ·rw [if_neg h1]
  dsimp only
  have hne:¬ Ent a b:=fun h=>by have:=h.1; omega
  have KS:=Lib.hid (fun w=>iv_sqrt_pos a b w hne (by omega) (by omega) (by omega))
  obtain ⟨c,hc⟩:∃ c,mkLo (rt1 a) (rt2 b) = c:=⟨_,rfl⟩
  obtain ⟨d,hd⟩:∃ d,mkHi (rt1 a) (rt2 b) = d:=⟨_,rfl⟩
  rw [hc,hd] at KS ⊢
  clear hc hd
  go_enter Tryz.func178,Tryz.ntmps178
  go_wp2_with (fail)
  refine (KS.out _).mono ?_
  rintro e w1 ⟨rfl,hB⟩
  have hy:=(hB.block _ (Array.getElem?_eq_some_iff.1 HY.out).1).trans HY.out
  have hs1:=hB.size
  rw [alloc_sz,alloc_sz] at hs1
  have hy2:=((((Below.refl w1.heap.size w1).alloc (Nat.le_refl _) (.cells #[.int .i64 c,.int .i64 d] 59))).block (w.heap.size+1) (by omega)).trans hy
  have y0:=heapN_cellj hy2 (k:=0) rfl
  have y1:=heapN_cellj hy2 (k:=1) rfl
  have z0:(w1.alloc (.cells #[.int .i64 c,.int .i64 d] 59)).frozen? ⟨w.heap.size+1,0,none⟩ = false:=by simp [World.frozen?,hy2]
  have z1:(w1.alloc (.cells #[.int .i64 c,.int .i64 d] 59)).frozen? ⟨w.heap.size+1,1,none⟩ = false:=by simp [World.frozen?,hy2]
  have HW:=Lib.hid (hbl _ (hB.alloc hB.size (.cells #[.int .i64 c,.int .i64 d] 59)))
  clear hB hbl
  go_wp2_with (fail)
  have hs:=cellsT_setN (o:=1) (u:=.int .i64 d) (cellsT_setN (o:=0) (u:=.int .i64 c) hy2)
  have x0:=heapN_cellj hs (k:=0) (u:=.int .i64 c) rfl
  have x1:=heapN_cellj hs (k:=1) (u:=.int .i64 d) rfl
  exact bodyPost_ret (v:=.agg #[.int .i64 c,.int .i64 d]) (by simp [results,Tryz.results178,go_sem,x0,x1]) rfl ⟨rfl,HW.out _ _⟩
theorem first_neg (a b x y:Int) (fb:Nat) (w:World) (hv:VI a b) (hf:Boxed w fb 136 (.func (.func 149) #[] #[])):Calls Tryz.prog 191 #[.agg #[.int .i64 a,.int .i64 b],.agg #[.int .i64 x,.int .i64 y],.pointer (some ⟨fb,0,none⟩)] w fun e w'=>e = .returned (.agg #[.int .i64 (-b),.int .i64 (-a)])∧Below w.heap.size w w':=by
 obtain ⟨ha1,ha2,hb1,hb2,hab⟩:=hv.bd
 have b1:Below w.heap.size w (w.alloc (.cells #[.int .i64 a,.int .i64 b] 59)):=(Below.refl _ _).alloc (Nat.le_refl _) _
 have b2:Below (w.alloc (.cells #[.int .i64 a,.int .i64 b] 59)).heap.size (w.alloc (.cells #[.int .i64 a,.int .i64 b] 59)) ((w.alloc (.cells #[.int .i64 a,.int .i64 b] 59)).alloc (.cells #[.int .i64 x,.int .i64 y] 59)):=(Below.refl _ _).alloc (Nat.le_refl _) _
 have b3:Below ((w.alloc (.cells #[.int .i64 a,.int .i64 b] 59)).alloc (.cells #[.int .i64 x,.int .i64 y] 59)).heap.size ((w.alloc (.cells #[.int .i64 a,.int .i64 b] 59)).alloc (.cells #[.int .i64 x,.int .i64 y] 59)) (((w.alloc (.cells #[.int .i64 a,.int .i64 b] 59)).alloc (.cells #[.int .i64 x,.int .i64 y] 59)).alloc (.cells #[.int .i64 0,.int .i64 0] 59)):=(Below.refl _ _).alloc (Nat.le_refl _) _
 have hba:Below w.heap.size w (((w.alloc (.cells #[.int .i64 a,.int .i64 b] 59)).alloc (.cells #[.int .i64 x,.int .i64 y] 59)).alloc (.cells #[.int .i64 0,.int .i64 0] 59)):=below_then (below_then b1 b2) b3
 have hfb:=(Array.getElem?_eq_some_iff.1 hf).1
 have hF:Boxed (((w.alloc (.cells #[.int .i64 a,.int .i64 b] 59)).alloc (.cells #[.int .i64 x,.int .i64 y] 59)).alloc (.cells #[.int .i64 0,.int .i64 0] 59)) fb 136 (.func (.func 149) #[] #[]):=(hba.block fb hfb).trans hf
 have hX:(((w.alloc (.cells #[.int .i64 a,.int .i64 b] 59)).alloc (.cells #[.int .i64 x,.int .i64 y] 59)).alloc (.cells #[.int .i64 0,.int .i64 0] 59)).heap[w.heap.size]? = some (.cells #[.int .i64 a,.int .i64 b] 59 (0,0)):=(b3.block _ (by rw [alloc_sz,alloc_sz]; omega)).trans ((b2.block _ (by rw [alloc_sz]; omega)).trans (World.alloc_heap_new w _))
 have hY:(((w.alloc (.cells #[.int .i64 a,.int .i64 b] 59)).alloc (.cells #[.int .i64 x,.int .i64 y] 59)).alloc (.cells #[.int .i64 0,.int .i64 0] 59)).heap[w.heap.size+2]? = some (.cells #[.int .i64 0,.int .i64 0] 59 (0,0)):=by
  have:=World.alloc_heap_new ((w.alloc (.cells #[.int .i64 a,.int .i64 b] 59)).alloc (.cells #[.int .i64 x,.int .i64 y] 59)) (.cells #[.int .i64 0,.int .i64 0] 59)
  rwa [alloc_sz,alloc_sz] at this
 have k0:=hF.cell
 have k1:=heapN_cellj hX (k:=0) rfl
 have k2:=heapN_cellj hX (k:=1) rfl
 have hbl:=fun (w1:World) (h:Below (((w.alloc (.cells #[.int .i64 a,.int .i64 b] 59)).alloc (.cells #[.int .i64 x,.int .i64 y] 59)).alloc (.cells #[.int .i64 0,.int .i64 0] 59)).heap.size (((w.alloc (.cells #[.int .i64 a,.int .i64 b] 59)).alloc (.cells #[.int .i64 x,.int .i64 y] 59)).alloc (.cells #[.int .i64 0,.int .i64 0] 59)) w1) (p q:Int)=>(((below_then hba h).setCell (p:=⟨w.heap.size+2,0,none⟩) (by dsimp only; omega) (.int .i64 p)).setCell (p:=⟨w.heap.size+2,1,none⟩) (by dsimp only; omega) (.int .i64 q))
 have KC:=Lib.hid (fun w=>iv_neg a b w ⟨ha1,ha2,hb1,hb2⟩)
 obtain ⟨c,hc⟩:∃ c,(-b) = c:=⟨_,rfl⟩
 obtain ⟨d,hd⟩:∃ d,(-a) = d:=⟨_,rfl⟩
 rw [hc,hd] at KC ⊢
 clear hc hd
 have HY:=Lib.hid hY
 have HBL:=Lib.hid hbl
 clear hbl hba b1 b2 b3 hF hX hY hf
 go_enter Tryz.func191,Tryz.ntmps191
 go_wp2_with (fail)
 refine (KC.out _).mono ?_
 rintro e w1 ⟨rfl,hB⟩
 have hy:=(hB.block _ (Array.getElem?_eq_some_iff.1 HY.out).1).trans HY.out
 have y0:=heapN_cellj hy (k:=0) rfl
 have y1:=heapN_cellj hy (k:=1) rfl
 have z0:w1.frozen? ⟨w.heap.size+2,0,none⟩ = false:=by simp [World.frozen?,hy]
 have z1:w1.frozen? ⟨w.heap.size+2,1,none⟩ = false:=by simp [World.frozen?,hy]
 have HW:=Lib.hid (HBL.out w1 hB)
 clear hB k0 k1 k2
 go_wp2_with (fail)
 have hs:=cellsT_setN (o:=1) (u:=.int .i64 d) (cellsT_setN (o:=0) (u:=.int .i64 c) hy)
 have x0:=heapN_cellj hs (k:=0) (u:=.int .i64 c) rfl
 have x1:=heapN_cellj hs (k:=1) (u:=.int .i64 d) rfl
 exact bodyPost_ret (v:=.agg #[.int .i64 c,.int .i64 d]) (by simp [results,Tryz.results191,go_sem,x0,x1]) rfl ⟨rfl,HW.out _ _⟩
theorem first_sqr (a b x y:Int) (fb:Nat) (w:World) (hv:VI a b) (hf:Boxed w fb 136 (.func (.func 150) #[] #[])):Calls Tryz.prog 191 #[.agg #[.int .i64 a,.int .i64 b],.agg #[.int .i64 x,.int .i64 y],.pointer (some ⟨fb,0,none⟩)] w fun e w'=>e = .returned (.agg #[.int .i64 (sqLo a b),.int .i64 (sqHi a b)])∧Below w.heap.size w w':=by
 obtain ⟨ha1,ha2,hb1,hb2,hab⟩:=hv.bd
 have b1:Below w.heap.size w (w.alloc (.cells #[.int .i64 a,.int .i64 b] 59)):=(Below.refl _ _).alloc (Nat.le_refl _) _
 have b2:Below (w.alloc (.cells #[.int .i64 a,.int .i64 b] 59)).heap.size (w.alloc (.cells #[.int .i64 a,.int .i64 b] 59)) ((w.alloc (.cells #[.int .i64 a,.int .i64 b] 59)).alloc (.cells #[.int .i64 x,.int .i64 y] 59)):=(Below.refl _ _).alloc (Nat.le_refl _) _
 have b3:Below ((w.alloc (.cells #[.int .i64 a,.int .i64 b] 59)).alloc (.cells #[.int .i64 x,.int .i64 y] 59)).heap.size ((w.alloc (.cells #[.int .i64 a,.int .i64 b] 59)).alloc (.cells #[.int .i64 x,.int .i64 y] 59)) (((w.alloc (.cells #[.int .i64 a,.int .i64 b] 59)).alloc (.cells #[.int .i64 x,.int .i64 y] 59)).alloc (.cells #[.int .i64 0,.int .i64 0] 59)):=(Below.refl _ _).alloc (Nat.le_refl _) _
 have hba:Below w.heap.size w (((w.alloc (.cells #[.int .i64 a,.int .i64 b] 59)).alloc (.cells #[.int .i64 x,.int .i64 y] 59)).alloc (.cells #[.int .i64 0,.int .i64 0] 59)):=below_then (below_then b1 b2) b3
 have hfb:=(Array.getElem?_eq_some_iff.1 hf).1
 have hF:Boxed (((w.alloc (.cells #[.int .i64 a,.int .i64 b] 59)).alloc (.cells #[.int .i64 x,.int .i64 y] 59)).alloc (.cells #[.int .i64 0,.int .i64 0] 59)) fb 136 (.func (.func 150) #[] #[]):=(hba.block fb hfb).trans hf
 have hX:(((w.alloc (.cells #[.int .i64 a,.int .i64 b] 59)).alloc (.cells #[.int .i64 x,.int .i64 y] 59)).alloc (.cells #[.int .i64 0,.int .i64 0] 59)).heap[w.heap.size]? = some (.cells #[.int .i64 a,.int .i64 b] 59 (0,0)):=(b3.block _ (by rw [alloc_sz,alloc_sz]; omega)).trans ((b2.block _ (by rw [alloc_sz]; omega)).trans (World.alloc_heap_new w _))
 have hY:(((w.alloc (.cells #[.int .i64 a,.int .i64 b] 59)).alloc (.cells #[.int .i64 x,.int .i64 y] 59)).alloc (.cells #[.int .i64 0,.int .i64 0] 59)).heap[w.heap.size+2]? = some (.cells #[.int .i64 0,.int .i64 0] 59 (0,0)):=by
  have:=World.alloc_heap_new ((w.alloc (.cells #[.int .i64 a,.int .i64 b] 59)).alloc (.cells #[.int .i64 x,.int .i64 y] 59)) (.cells #[.int .i64 0,.int .i64 0] 59)
  rwa [alloc_sz,alloc_sz] at this
 have k0:=hF.cell
 have k1:=heapN_cellj hX (k:=0) rfl
 have k2:=heapN_cellj hX (k:=1) rfl
 have hbl:=fun (w1:World) (h:Below (((w.alloc (.cells #[.int .i64 a,.int .i64 b] 59)).alloc (.cells #[.int .i64 x,.int .i64 y] 59)).alloc (.cells #[.int .i64 0,.int .i64 0] 59)).heap.size (((w.alloc (.cells #[.int .i64 a,.int .i64 b] 59)).alloc (.cells #[.int .i64 x,.int .i64 y] 59)).alloc (.cells #[.int .i64 0,.int .i64 0] 59)) w1) (p q:Int)=>(((below_then hba h).setCell (p:=⟨w.heap.size+2,0,none⟩) (by dsimp only; omega) (.int .i64 p)).setCell (p:=⟨w.heap.size+2,1,none⟩) (by dsimp only; omega) (.int .i64 q))
 have KC:=Lib.hid (fun w=>iv_square a b w hv)
 obtain ⟨c,hc⟩:∃ c,(sqLo a b) = c:=⟨_,rfl⟩
 obtain ⟨d,hd⟩:∃ d,(sqHi a b) = d:=⟨_,rfl⟩
 rw [hc,hd] at KC ⊢
 clear hc hd
 have HY:=Lib.hid hY
 have HBL:=Lib.hid hbl
 clear hbl hba b1 b2 b3 hF hX hY hf
 go_enter Tryz.func191,Tryz.ntmps191
 go_wp2_with (fail)
 refine (KC.out _).mono ?_
 rintro e w1 ⟨rfl,hB⟩
 have hy:=(hB.block _ (Array.getElem?_eq_some_iff.1 HY.out).1).trans HY.out
 have y0:=heapN_cellj hy (k:=0) rfl
 have y1:=heapN_cellj hy (k:=1) rfl
 have z0:w1.frozen? ⟨w.heap.size+2,0,none⟩ = false:=by simp [World.frozen?,hy]
 have z1:w1.frozen? ⟨w.heap.size+2,1,none⟩ = false:=by simp [World.frozen?,hy]
 have HW:=Lib.hid (HBL.out w1 hB)
 clear hB k0 k1 k2
 go_wp2_with (fail)
 have hs:=cellsT_setN (o:=1) (u:=.int .i64 d) (cellsT_setN (o:=0) (u:=.int .i64 c) hy)
 have x0:=heapN_cellj hs (k:=0) (u:=.int .i64 c) rfl
 have x1:=heapN_cellj hs (k:=1) (u:=.int .i64 d) rfl
 exact bodyPost_ret (v:=.agg #[.int .i64 c,.int .i64 d]) (by simp [results,Tryz.results191,go_sem,x0,x1]) rfl ⟨rfl,HW.out _ _⟩
theorem first_rt (a b x y:Int) (fb:Nat) (w:World) (hv:VI a b) (hf:Boxed w fb 136 (.func (.func 178) #[] #[])):Calls Tryz.prog 191 #[.agg #[.int .i64 a,.int .i64 b],.agg #[.int .i64 x,.int .i64 y],.pointer (some ⟨fb,0,none⟩)] w fun e w'=>e = .returned (.agg #[.int .i64 (rtI (a,b)).1,.int .i64 (rtI (a,b)).2])∧Below w.heap.size w w':=by
 obtain ⟨ha1,ha2,hb1,hb2,hab⟩:=hv.bd
 have b1:Below w.heap.size w (w.alloc (.cells #[.int .i64 a,.int .i64 b] 59)):=(Below.refl _ _).alloc (Nat.le_refl _) _
 have b2:Below (w.alloc (.cells #[.int .i64 a,.int .i64 b] 59)).heap.size (w.alloc (.cells #[.int .i64 a,.int .i64 b] 59)) ((w.alloc (.cells #[.int .i64 a,.int .i64 b] 59)).alloc (.cells #[.int .i64 x,.int .i64 y] 59)):=(Below.refl _ _).alloc (Nat.le_refl _) _
 have b3:Below ((w.alloc (.cells #[.int .i64 a,.int .i64 b] 59)).alloc (.cells #[.int .i64 x,.int .i64 y] 59)).heap.size ((w.alloc (.cells #[.int .i64 a,.int .i64 b] 59)).alloc (.cells #[.int .i64 x,.int .i64 y] 59)) (((w.alloc (.cells #[.int .i64 a,.int .i64 b] 59)).alloc (.cells #[.int .i64 x,.int .i64 y] 59)).alloc (.cells #[.int .i64 0,.int .i64 0] 59)):=(Below.refl _ _).alloc (Nat.le_refl _) _
 have hba:Below w.heap.size w (((w.alloc (.cells #[.int .i64 a,.int .i64 b] 59)).alloc (.cells #[.int .i64 x,.int .i64 y] 59)).alloc (.cells #[.int .i64 0,.int .i64 0] 59)):=below_then (below_then b1 b2) b3
 have hfb:=(Array.getElem?_eq_some_iff.1 hf).1
 have hF:Boxed (((w.alloc (.cells #[.int .i64 a,.int .i64 b] 59)).alloc (.cells #[.int .i64 x,.int .i64 y] 59)).alloc (.cells #[.int .i64 0,.int .i64 0] 59)) fb 136 (.func (.func 178) #[] #[]):=(hba.block fb hfb).trans hf
 have hX:(((w.alloc (.cells #[.int .i64 a,.int .i64 b] 59)).alloc (.cells #[.int .i64 x,.int .i64 y] 59)).alloc (.cells #[.int .i64 0,.int .i64 0] 59)).heap[w.heap.size]? = some (.cells #[.int .i64 a,.int .i64 b] 59 (0,0)):=(b3.block _ (by rw [alloc_sz,alloc_sz]; omega)).trans ((b2.block _ (by rw [alloc_sz]; omega)).trans (World.alloc_heap_new w _))
 have hY:(((w.alloc (.cells #[.int .i64 a,.int .i64 b] 59)).alloc (.cells #[.int .i64 x,.int .i64 y] 59)).alloc (.cells #[.int .i64 0,.int .i64 0] 59)).heap[w.heap.size+2]? = some (.cells #[.int .i64 0,.int .i64 0] 59 (0,0)):=by
  have:=World.alloc_heap_new ((w.alloc (.cells #[.int .i64 a,.int .i64 b] 59)).alloc (.cells #[.int .i64 x,.int .i64 y] 59)) (.cells #[.int .i64 0,.int .i64 0] 59)
  rwa [alloc_sz,alloc_sz] at this
 have k0:=hF.cell
 have k1:=heapN_cellj hX (k:=0) rfl
 have k2:=heapN_cellj hX (k:=1) rfl
 have hbl:=fun (w1:World) (h:Below (((w.alloc (.cells #[.int .i64 a,.int .i64 b] 59)).alloc (.cells #[.int .i64 x,.int .i64 y] 59)).alloc (.cells #[.int .i64 0,.int .i64 0] 59)).heap.size (((w.alloc (.cells #[.int .i64 a,.int .i64 b] 59)).alloc (.cells #[.int .i64 x,.int .i64 y] 59)).alloc (.cells #[.int .i64 0,.int .i64 0] 59)) w1) (p q:Int)=>(((below_then hba h).setCell (p:=⟨w.heap.size+2,0,none⟩) (by dsimp only; omega) (.int .i64 p)).setCell (p:=⟨w.heap.size+2,1,none⟩) (by dsimp only; omega) (.int .i64 q))
 have KC:=Lib.hid (fun w=>root_ok a b w hv)
 obtain ⟨c,hc⟩:∃ c,(rtI (a,b)).1 = c:=⟨_,rfl⟩
 obtain ⟨d,hd⟩:∃ d,(rtI (a,b)).2 = d:=⟨_,rfl⟩
 rw [hc,hd] at KC ⊢
 clear hc hd
 have HY:=Lib.hid hY
 have HBL:=Lib.hid hbl
 clear hbl hba b1 b2 b3 hF hX hY hf
 go_enter Tryz.func191,Tryz.ntmps191
 go_wp2_with (fail)
 refine (KC.out _).mono ?_
 rintro e w1 ⟨rfl,hB⟩
 have hy:=(hB.block _ (Array.getElem?_eq_some_iff.1 HY.out).1).trans HY.out
 have y0:=heapN_cellj hy (k:=0) rfl
 have y1:=heapN_cellj hy (k:=1) rfl
 have z0:w1.frozen? ⟨w.heap.size+2,0,none⟩ = false:=by simp [World.frozen?,hy]
 have z1:w1.frozen? ⟨w.heap.size+2,1,none⟩ = false:=by simp [World.frozen?,hy]
 have HW:=Lib.hid (HBL.out w1 hB)
 clear hB k0 k1 k2
 go_wp2_with (fail)
 have hs:=cellsT_setN (o:=1) (u:=.int .i64 d) (cellsT_setN (o:=0) (u:=.int .i64 c) hy)
 have x0:=heapN_cellj hs (k:=0) (u:=.int .i64 c) rfl
 have x1:=heapN_cellj hs (k:=1) (u:=.int .i64 d) rfl
 exact bodyPost_ret (v:=.agg #[.int .i64 c,.int .i64 d]) (by simp [results,Tryz.results191,go_sem,x0,x1]) rfl ⟨rfl,HW.out _ _⟩
theorem boxed_set {W:World} {k X o:Nat} {t:TypeId} {v y:Value} (h:Boxed W k t v) (hne:k ≠ X):Boxed (W.setCell ⟨X,o,none⟩ y) k t v:=((grownBy_setN W ⟨X,o,none⟩ y).block k (Array.getElem?_eq_some_iff.1 h).1 (fun e=>hne (Option.some.inj e))).trans h
theorem offirst_ok (f:Nat) (w:World):Calls Tryz.prog 177 #[.func (.func f) #[] #[]] w fun e w'=>e = .returned (.func (.func 191) #[] #[.pointer (some ⟨w.heap.size,0,none⟩)])∧Boxed w' w.heap.size 136 (.func (.func f) #[] #[])∧Below w.heap.size w w':=by
 go_enter Tryz.func177,Tryz.ntmps177
 go_wp2_with (fail)
 go_ret
 exact ⟨rfl,World.alloc_heap_new w _,(Below.refl _ _).alloc (Nat.le_refl _) _⟩
def opsC (x y z:Nat):Array Value:=#[.nilFunc,.nilFunc,.nilFunc,.nilFunc,.func (.func 191) #[] #[.pointer (some ⟨x,0,none⟩)],.func (.func 191) #[] #[.pointer (some ⟨y,0,none⟩)],.func (.func 191) #[] #[.pointer (some ⟨z,0,none⟩)],.func (.func 143) #[] #[],.func (.func 151) #[] #[],.func (.func 144) #[] #[],.func (.func 179) #[] #[]]
set_option maxHeartbeats 4000000 in
theorem operations_ok (w:World):Calls Tryz.prog 158 #[] w fun e w'=>∃ x y z,e = .returned (.agg (opsC x y z))∧Boxed w' x 136 (.func (.func 149) #[] #[])∧Boxed w' y 136 (.func (.func 150) #[] #[])∧Boxed w' z 136 (.func (.func 178) #[] #[])∧Below w.heap.size w w':=by
 unfold opsC
 have hba:Below w.heap.size w (w.alloc (.cells #[.nilFunc,.nilFunc,.nilFunc,.nilFunc,.nilFunc,.nilFunc,.nilFunc,.nilFunc,.nilFunc,.nilFunc,.nilFunc] 166)):=(Below.refl _ _).alloc (Nat.le_refl _) _
 have hX:=World.alloc_heap_new w (.cells #[.nilFunc,.nilFunc,.nilFunc,.nilFunc,.nilFunc,.nilFunc,.nilFunc,.nilFunc,.nilFunc,.nilFunc,.nilFunc] 166)
 have HB:=Lib.hid hba
 have HX:=Lib.hid hX
 clear hba hX
 go_enter Tryz.func158,Tryz.ntmps158
 go_wp2_with (fail)
 refine (offirst_ok _ _).mono ?_
 rintro e w1 ⟨rfl,h1,hB1⟩
 have H1:=Lib.hid h1
 have HB1:=Lib.hid hB1
 clear h1 hB1
 go_wp2_with (fail)
 refine (offirst_ok _ _).mono ?_
 rintro e w2 ⟨rfl,h2,hB2⟩
 have H2:=Lib.hid h2
 have HB2:=Lib.hid hB2
 clear h2 hB2
 go_wp2_with (fail)
 refine (offirst_ok _ _).mono ?_
 rintro e w3 ⟨rfl,h3,hB3⟩
 have H3:=Lib.hid h3
 have HB3:=Lib.hid hB3
 clear h3 hB3
 have hBx:=below_then HB1.out (below_then HB2.out HB3.out)
 have hx3:=(hBx.block _ (Array.getElem?_eq_some_iff.1 HX.out).1).trans HX.out
 have y0:=heapN_cellj hx3 (k:=0) rfl
 have y1:=heapN_cellj hx3 (k:=1) rfl
 have y2:=heapN_cellj hx3 (k:=2) rfl
 have y3:=heapN_cellj hx3 (k:=3) rfl
 have y4:=heapN_cellj hx3 (k:=4) rfl
 have y5:=heapN_cellj hx3 (k:=5) rfl
 have y6:=heapN_cellj hx3 (k:=6) rfl
 have y7:=heapN_cellj hx3 (k:=7) rfl
 have y8:=heapN_cellj hx3 (k:=8) rfl
 have y9:=heapN_cellj hx3 (k:=9) rfl
 have y10:=heapN_cellj hx3 (k:=10) rfl
 have z0:w3.frozen? ⟨w.heap.size,0,none⟩ = false:=by simp [World.frozen?,hx3]
 have z1:w3.frozen? ⟨w.heap.size,1,none⟩ = false:=by simp [World.frozen?,hx3]
 have z2:w3.frozen? ⟨w.heap.size,2,none⟩ = false:=by simp [World.frozen?,hx3]
 have z3:w3.frozen? ⟨w.heap.size,3,none⟩ = false:=by simp [World.frozen?,hx3]
 have z4:w3.frozen? ⟨w.heap.size,4,none⟩ = false:=by simp [World.frozen?,hx3]
 have z5:w3.frozen? ⟨w.heap.size,5,none⟩ = false:=by simp [World.frozen?,hx3]
 have z6:w3.frozen? ⟨w.heap.size,6,none⟩ = false:=by simp [World.frozen?,hx3]
 have z7:w3.frozen? ⟨w.heap.size,7,none⟩ = false:=by simp [World.frozen?,hx3]
 have z8:w3.frozen? ⟨w.heap.size,8,none⟩ = false:=by simp [World.frozen?,hx3]
 have z9:w3.frozen? ⟨w.heap.size,9,none⟩ = false:=by simp [World.frozen?,hx3]
 have z10:w3.frozen? ⟨w.heap.size,10,none⟩ = false:=by simp [World.frozen?,hx3]
 have HX3:=Lib.hid hx3
 have HBX:=Lib.hid (below_then HB.out hBx)
 clear hBx hx3
 go_wp2_with (fail)
 obtain ⟨W9,hW9⟩:∃ W9,(((((((((((w3.setCell ⟨w.heap.size,0,none⟩ (.nilFunc)).setCell ⟨w.heap.size,1,none⟩ (.nilFunc)).setCell ⟨w.heap.size,2,none⟩ (.nilFunc)).setCell ⟨w.heap.size,3,none⟩ (.nilFunc)).setCell ⟨w.heap.size,4,none⟩ (.func (.func 191) #[] #[.pointer (some ⟨w.heap.size+1,0,none⟩)])).setCell ⟨w.heap.size,5,none⟩ (.func (.func 191) #[] #[.pointer (some ⟨w1.heap.size,0,none⟩)])).setCell ⟨w.heap.size,6,none⟩ (.func (.func 191) #[] #[.pointer (some ⟨w2.heap.size,0,none⟩)])).setCell ⟨w.heap.size,7,none⟩ (.func (.func 143) #[] #[])).setCell ⟨w.heap.size,8,none⟩ (.func (.func 151) #[] #[])).setCell ⟨w.heap.size,9,none⟩ (.func (.func 144) #[] #[])).setCell ⟨w.heap.size,10,none⟩ (.func (.func 179) #[] #[])) = W9:=⟨_,rfl⟩
 rw [hW9]
 have hb9:Below w.heap.size w W9:=by
  rw [← hW9]
  exact (((((((((((HBX.out.setCell (p:=⟨w.heap.size,0,none⟩) (Nat.le_refl _) _).setCell (p:=⟨w.heap.size,1,none⟩) (Nat.le_refl _) _).setCell (p:=⟨w.heap.size,2,none⟩) (Nat.le_refl _) _).setCell (p:=⟨w.heap.size,3,none⟩) (Nat.le_refl _) _).setCell (p:=⟨w.heap.size,4,none⟩) (Nat.le_refl _) _).setCell (p:=⟨w.heap.size,5,none⟩) (Nat.le_refl _) _).setCell (p:=⟨w.heap.size,6,none⟩) (Nat.le_refl _) _).setCell (p:=⟨w.heap.size,7,none⟩) (Nat.le_refl _) _).setCell (p:=⟨w.heap.size,8,none⟩) (Nat.le_refl _) _).setCell (p:=⟨w.heap.size,9,none⟩) (Nat.le_refl _) _).setCell (p:=⟨w.heap.size,10,none⟩) (Nat.le_refl _) _)
 have hs9:W9.heap[w.heap.size]? = some (.cells (opsC (w.heap.size+1) w1.heap.size w2.heap.size) 166 (0,0)):=by
  rw [← hW9]
  exact (cellsT_setN (o:=10) (u:=.func (.func 179) #[] #[]) (cellsT_setN (o:=9) (u:=.func (.func 144) #[] #[]) (cellsT_setN (o:=8) (u:=.func (.func 151) #[] #[]) (cellsT_setN (o:=7) (u:=.func (.func 143) #[] #[]) (cellsT_setN (o:=6) (u:=.func (.func 191) #[] #[.pointer (some ⟨w2.heap.size,0,none⟩)]) (cellsT_setN (o:=5) (u:=.func (.func 191) #[] #[.pointer (some ⟨w1.heap.size,0,none⟩)]) (cellsT_setN (o:=4) (u:=.func (.func 191) #[] #[.pointer (some ⟨w.heap.size+1,0,none⟩)]) (cellsT_setN (o:=3) (u:=.nilFunc) (cellsT_setN (o:=2) (u:=.nilFunc) (cellsT_setN (o:=1) (u:=.nilFunc) (cellsT_setN (o:=0) (u:=.nilFunc) HX3.out)))))))))))
 have bx:∀ (k:Nat) (v:Value),Boxed w3 k 136 v→Boxed W9 k 136 v:=fun k v hb=>by
  have hne:k ≠ w.heap.size:=fun e=>by
   unfold Boxed at hb
   rw [e,HX3.out] at hb
   simp only [Option.some.injEq,Obj.cells.injEq] at hb
   exact absurd hb.2.1 (by decide)
  rw [← hW9]
  exact (boxed_set (boxed_set (boxed_set (boxed_set (boxed_set (boxed_set (boxed_set (boxed_set (boxed_set (boxed_set (boxed_set hb hne) hne) hne) hne) hne) hne) hne) hne) hne) hne) hne)
 have g1:=bx _ _ (((HB2.out.trans (HB3.out.mono HB2.out.size)).block _ (Array.getElem?_eq_some_iff.1 H1.out).1).trans H1.out)
 have g2:=bx _ _ ((HB3.out.block _ (Array.getElem?_eq_some_iff.1 H2.out).1).trans H2.out)
 have g3:=bx _ _ H3.out
 rw [alloc_sz] at g1
 clear bx hW9
 have x0:=heapN_cellj hs9 (k:=0) rfl
 have x1:=heapN_cellj hs9 (k:=1) rfl
 have x2:=heapN_cellj hs9 (k:=2) rfl
 have x3:=heapN_cellj hs9 (k:=3) rfl
 have x4:=heapN_cellj hs9 (k:=4) rfl
 have x5:=heapN_cellj hs9 (k:=5) rfl
 have x6:=heapN_cellj hs9 (k:=6) rfl
 have x7:=heapN_cellj hs9 (k:=7) rfl
 have x8:=heapN_cellj hs9 (k:=8) rfl
 have x9:=heapN_cellj hs9 (k:=9) rfl
 have x10:=heapN_cellj hs9 (k:=10) rfl
 exact bodyPost_ret (v:=.agg (opsC (w.heap.size+1) w1.heap.size w2.heap.size)) (by simp [results,Tryz.results158,go_sem,opsC,x0,x1,x2,x3,x4,x5,x6,x7,x8,x9,x10]) rfl ⟨_,_,_,rfl,g1,g2,g3,hb9⟩
end Go.Proofs.YtekjflfkbgklhaaGreat
namespace Go.Proofs.YtekjflfkbgklhaaGreat
open Go.ChangeShapes Go.WideShapes Go.ChangeAt Go.RowKit
set_option linter.unusedVariables false
set_option linter.unusedSimpArgs false
set_option maxRecDepth 100000
attribute [local irreducible] Calls
def encB (p:Int × Int):List Value:=[.int .i64 p.1,.int .i64 p.2]
theorem encB_len (p:Int × Int):(encB p).length = 2:=rfl
abbrev Vx:=Rx encB 2
theorem vx_rd {w:World} {p:Option Addr} {n c i:Nat} {l:List (Int × Int)} {x y:Int} (h:Vx w (.slice p n c) l) (hx:l[i]? = some (x,y)):∃ b o,p = some ⟨b,o,none⟩∧b < w.heap.size∧∀ g:Grown w,g.w.cell? ⟨b,o+i * 2,none⟩ = some (.int .i64 x)∧g.w.cell? ⟨b,o+i * 2+1,none⟩ = some (.int .i64 y):=by
 obtain ⟨b,o,rfl,h1,rd⟩:=h.rd hx
 exact ⟨b,o,rfl,h1,fun g=>⟨rd g 0 _ rfl,rd g 1 _ rfl⟩⟩
theorem crB_set2:∀ (l:List (Int × Int)) (k:Nat) (u v:Int),cr encB (l.set k (u,v)) = ((cr encB l).set (k * 2) (.int .i64 u)).set (k * 2+1) (.int .i64 v)
 | [],k,u,v=>by simp [cr]
 | p :: l,0,u,v=>by simp [cr,encB]
 | p :: l,k+1,u,v=>by
  have h:=crB_set2 l k u v
  rw [show (k+1) * 2 = k * 2+1+1 by omega,show k * 2+1+1+1 = (k * 2+1)+1+1 by omega]
  show encB p ++ cr encB (l.set k (u,v)) = ((encB p ++ cr encB l).set _ _).set _ _
  rw [h]
  simp [encB]
theorem crB_zero (n:Nat):cr encB (List.replicate n ((0:Int),(0:Int))) = List.replicate (n * 2) (.int .i64 0):=by
 induction n with
 | zero=>rfl
 | succ n ih =>
  rw [List.replicate_succ,show (n+1) * 2 = n * 2+1+1 by omega,List.replicate_succ,List.replicate_succ]
  show encB (0,0) ++ cr encB (List.replicate n (0,0)) = _
  rw [ih]
  rfl
theorem made_zeroB (n:Nat):(madeCells (Value.cells (.agg #[.int .i64 0,.int .i64 0])) (n * 2)).toList = cr encB (List.replicate n ((0:Int),(0:Int))):=by
 rw [crB_zero]
 refine List.eq_replicate_iff.2 ⟨by rw [Array.length_toList,size_madeCells],fun u hu=>?_⟩
 simp only [madeCells,Value.cells,Array.toList_map,List.mem_map] at hu
 obtain ⟨a,_,rfl⟩:=hu
 rcases Nat.mod_two_eq_zero_or_one a with h | h <;> simp [h]
theorem info_ivB:(Tryz.prog.info? 59).map (fun i=>(i.zero,i.size,i.bytes)) = some (some (.agg #[.int .i64 0,.int .i64 0]),2,16):=by kernel_rfl
def opI (op:Int) (p q:Int × Int):Int × Int :=
 if op = 4 then (-p.2,-p.1) else if op = 5 then (sqLo p.1 p.2,sqHi p.1 p.2) else if op = 6 then rtI p
 else if op = 7 then (addLo p.1 p.2 q.1 q.2,addHi p.1 p.2 q.1 q.2) else if op = 8 then (addLo p.1 p.2 (-q.2) (-q.1),addHi p.1 p.2 (-q.2) (-q.1))
 else if op = 9 then (mulLo p.1 p.2 q.1 q.2,mulHi p.1 p.2 q.1 q.2) else (divLo p.1 p.2 q.1 q.2,divHi p.1 p.2 q.1 q.2)
def evI (X:List (Int × Int)) (t:Int × Int) (vals:List (Int × Int)) (x:Is):Int × Int :=
 if x.op = 1 then (x.lo,x.hi) else if x.op = 2 then X.getD x.a.toNat (0,0) else if x.op = 3 then t
 else opI x.op (vals.getD x.a.toNat (0,0)) (vals.getD x.b.toNat (0,0))
def evL (X:List (Int × Int)) (t:Int × Int) (L:List Is):List (Int × Int):=L.foldl (fun vals x=>vals ++ [evI X t vals x]) []
theorem evL_snoc {X:List (Int × Int)} {t:Int × Int} {L:List Is} {k:Nat} {x:Is} (h:L[k]? = some x):evL X t (L.take (k+1)) = evL X t (L.take k) ++ [evI X t (evL X t (L.take k)) x]:=by
 unfold evL
 rw [List.take_add_one,h,List.foldl_append]
 rfl
theorem evL_len (X:List (Int × Int)) (t:Int × Int) (L:List Is):(evL X t L).length = L.length:=by
 have key:∀ (L:List Is) (v:List (Int × Int)),(L.foldl (fun vals x=>vals ++ [evI X t vals x]) v).length = v.length+L.length:=by
  intro L
  induction L with
  | nil=>intro v; rfl
  | cons x r ih=>intro v; rw [List.foldl_cons,ih]; simp; omega
 have:=key L []
 simpa [evL] using this
theorem vin_cases {k n:Int} {x:Is} (h:vinB k n x = true):(x.op = 1∧VI x.lo x.hi) ∨ (x.op = 2∧0 ≤ x.a∧x.a < n) ∨ x.op = 3 ∨ ((x.op = 4 ∨ x.op = 5 ∨ x.op = 6)∧x.b = 0∧0 ≤ x.a∧x.a < k) ∨ ((x.op = 7 ∨ x.op = 8 ∨ x.op = 9 ∨ x.op = 10)∧0 ≤ x.a∧x.a < k∧0 ≤ x.b∧x.b < k):=by
 unfold vinB ixB at h
 split at h
 ·next e=>simp only [Bool.and_eq_true,decide_eq_true_eq] at h; exact .inl ⟨e,h.2.2⟩
 split at h
 ·next e=>simp only [Bool.and_eq_true,decide_eq_true_eq] at h; exact .inr (.inl ⟨e,h.2.2.2⟩)
 split at h
 ·next e=>exact .inr (.inr (.inl e))
 split at h
 ·next e=>simp only [Bool.and_eq_true,decide_eq_true_eq] at h; exact .inr (.inr (.inr (.inl ⟨e,h.1,h.2.2.2⟩)))
 split at h
 ·next e=>simp only [Bool.and_eq_true,decide_eq_true_eq] at h; exact .inr (.inr (.inr (.inr ⟨e,h.2.2.1.1,h.2.2.1.2,h.2.2.2⟩)))
 ·simp at h
theorem vl_at {n:Int}:∀ {L:List Is} {i:Nat},vlGo n L i = true→∀ {k:Nat} {x:Is},L[k]? = some x→vinB ((i+k:Nat):Int) n x = true
 | [],i,_,k,x,h=>by simp at h
 | y :: r,i,h,k,x,hx=>by
  unfold vlGo at h
  simp only [Bool.and_eq_true] at h
  match k with
  | 0=>simp only [List.getElem?_cons_zero,Option.some.injEq] at hx; subst hx; exact h.1
  | k+1 =>
   rw [List.getElem?_cons_succ] at hx
   have:=vl_at h.2 hx
   rwa [show i+1+k = i+(k+1) by omega] at this
theorem tv_cases {n:Int} {L:List Is} {out:List Int} (h:tvB n L out = true):1 ≤ n∧n ≤ 6∧L.length ≤ 400∧(out.length:Int) = n∧(∀ (k:Nat) (x:Is),L[k]? = some x→vinB k n x = true)∧∀ y ∈ out,0 ≤ y∧y < L.length:=by
 unfold tvB at h
 simp only [Bool.and_eq_true,decide_eq_true_eq,List.all_eq_true] at h
 refine ⟨h.1,h.2.1,h.2.2.1,h.2.2.2.1,fun k x hx=>by have:=vl_at h.2.2.2.2.1 hx; rwa [Nat.zero_add] at this,fun y hy=>?_⟩
 have:=h.2.2.2.2.2 y hy
 unfold ixB at this
 simpa using this
theorem rtI_vi {p:Int × Int} (h:VI p.1 p.2):VI (rtI p).1 (rtI p).2:=by
 unfold rtI
 by_cases h1:p.1 < 0
 ·rw [if_pos h1]; exact .inl ⟨rfl,rfl⟩
 ·have hb:=h.bd
  rw [if_neg h1]
  dsimp only
  exact mk_vi (x:=rt1 p.1) (y:=rt2 p.2) (rt_le hb.2.2.2.2 (by omega))
theorem opI_vi (op:Int) {p q:Int × Int} (hp:VI p.1 p.2) (hq:VI q.1 q.2):VI (opI op p q).1 (opI op p q).2:=by
 unfold opI
 by_cases h4:op = 4
 ·rw [if_pos h4]; exact hp.neg
 rw [if_neg h4]
 by_cases h5:op = 5
 ·rw [if_pos h5]; exact sq_vi _ _
 rw [if_neg h5]
 by_cases h6:op = 6
 ·rw [if_pos h6]; exact rtI_vi hp
 rw [if_neg h6]
 by_cases h7:op = 7
 ·rw [if_pos h7]; exact add_vi hp.bd.2.2.2.2 hq.bd.2.2.2.2
 rw [if_neg h7]
 by_cases h8:op = 8
 ·rw [if_pos h8]; exact add_vi hp.bd.2.2.2.2 hq.neg.bd.2.2.2.2
 rw [if_neg h8]
 by_cases h9:op = 9
 ·rw [if_pos h9]; exact mul_vi _ _ _ _
 ·rw [if_neg h9]; exact div_vi hq.bd.2.2.2.2
theorem evI_vi {X:List (Int × Int)} {t:Int × Int} {vals:List (Int × Int)} {x:Is} {k n:Int} (hX:∀ p ∈ X,VI p.1 p.2) (ht:VI t.1 t.2) (hv:∀ p ∈ vals,VI p.1 p.2) (hi:vinB k n x = true):VI (evI X t vals x).1 (evI X t vals x).2:=by
 have gd:∀ (l:List (Int × Int)) (j:Nat),(∀ p ∈ l,VI p.1 p.2)→VI (l.getD j (0,0)).1 (l.getD j (0,0)).2:=fun l j h=>by
  rw [List.getD_eq_getElem?_getD]
  cases e:l[j]? with
  | none=>exact .inr (by decide)
  | some p=>exact h p (List.mem_of_getElem? e)
 unfold evI
 split
 ·next e =>
  rcases vin_cases hi with h | h | h | h | h
  ·exact h.2
  all_goals omega
 split
 ·exact gd _ _ hX
 split
 ·exact ht
 ·exact opI_vi _ (gd _ _ hv) (gd _ _ hv)
theorem evL_vi {X:List (Int × Int)} {t:Int × Int} {L:List Is} {n:Int} (hX:∀ p ∈ X,VI p.1 p.2) (ht:VI t.1 t.2) (hL:∀ (k:Nat) (x:Is),L[k]? = some x→vinB k n x = true):∀ p ∈ evL X t L,VI p.1 p.2:=by
 have key:∀ k,k ≤ L.length→∀ p ∈ evL X t (L.take k),VI p.1 p.2:=by
  intro k
  induction k with
  | zero=>intro _ p hp; simp [evL] at hp
  | succ k ih =>
   intro hk p hp
   obtain ⟨x,hx⟩:∃ x,L[k]? = some x:=⟨_,List.getElem?_eq_getElem (by omega)⟩
   rw [evL_snoc hx,List.mem_append,List.mem_singleton] at hp
   rcases hp with hp | rfl
   ·exact ih (by omega) p hp
   ·exact evI_vi hX ht (ih (by omega)) (hL k x hx)
 have:=key L.length (Nat.le_refl _)
 rwa [List.take_length] at this
end Go.Proofs.YtekjflfkbgklhaaGreat
