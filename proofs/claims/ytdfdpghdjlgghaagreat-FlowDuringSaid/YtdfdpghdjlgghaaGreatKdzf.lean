/-
 Cb Cc
-/
import Derived.Test.YtdfdpghdjlgghaaGreatKde
import Derived.Test.YtdfdpghdjlgghaaGreatKdq
import Derived.Test.YtdfdpghdjlgghaaGreatKdz
import Derived.Test.YtdfdpghdjlgghaaGreatKdze
import Derived.Maps.AppendAt
import Derived.Laws.OwnMore
namespace Go.Proofs.YtdfdpghdjlgghaaGreat
open Go.ChangeShapes Go.WideShapes Go.ChangeAt Go.RowKit
set_option linter.unusedVariables false
set_option linter.unusedSimpArgs false
set_option maxRecDepth 100000
def wdB (wide:Int) (p:Int × Int):Bool:=decide (wide < p.2 - p.1)
abbrev Sg:=List (Int × Int) × List (Int × Int) × List (Int × Int)
def accB (wide:Int) (en tube:List (Int × Int)):Bool:=!en.any (wdB wide) && !tube.any (wdB wide)
def tryC (stp:Int→Option Sg) (wide h:Int):Option Sg :=
 match stp h with
 | none=>none
 | some s=>if accB wide s.2.2 s.2.1 then some s else none
def advF (stp:Int→Option Sg) (least wide:Int):Nat→Int→Option (Int × Sg)
 | 0,_=>none
 | f+1,h =>
  match tryC stp wide h with
  | some s=>some (h,s)
  | none=>if h / 2 < least then none else advF stp least wide f (h / 2)
def advI (stp:Int→Option Sg) (least wide h:Int):Option (Int × Sg):=advF stp least wide 40 h
def hlv (h:Int):Nat→Int
 | 0=>h
 | k+1=>hlv h k / 2
def cntF (least:Int):Nat→Int→Nat
 | 0,_=>0
 | f+1,h=>if h / 2 < least then 1 else cntF least f (h / 2)+1
theorem hlv_bd {h:Int} (h0:0 ≤ h):∀ k,0 ≤ hlv h k∧hlv h k ≤ h
 | 0=>⟨h0,Int.le_refl _⟩
 | k+1=>by
  have:=hlv_bd h0 k
  show 0 ≤ hlv h k / 2∧hlv h k / 2 ≤ h
  omega
theorem hlv_lt {h:Int} (h1:1 ≤ h) (k:Nat):hlv h (k+1) < h:=by
 have:=hlv_bd (show (0:Int) ≤ h by omega) k
 show hlv h k / 2 < h
 omega
theorem hlv_pow {h:Int} (h0:0 ≤ h):∀ k,hlv h k * 2 ^ k ≤ h
 | 0=>by show h * 1 ≤ h; omega
 | k+1=>by
  have ih:=hlv_pow h0 k
  have hb:=hlv_bd h0 k
  show hlv h k / 2 * 2 ^ (k+1) ≤ h
  have e:(2:Int) ^ (k+1) = 2 ^ k * 2:=Int.pow_succ 2 k
  have hp:(0:Int) < 2 ^ k:=Int.pow_pos (by decide)
  rw [e,show hlv h k / 2 * (2 ^ k * 2) = (hlv h k / 2 * 2) * 2 ^ k from by rw [Int.mul_comm (2 ^ k) 2,Int.mul_assoc]]
  exact Int.le_trans (Int.mul_le_mul_of_nonneg_right (by omega) (Int.le_of_lt hp)) ih
theorem hlv_end {h:Int} (h0:0 ≤ h) (h1:h < 4294967296) {k:Nat} (hk:38 ≤ k):hlv h k = 0:=by
 have a:=hlv_pow h0 k
 have b:=hlv_bd h0 k
 have hp:(2:Int) ^ 38 ≤ 2 ^ k:=by
  obtain ⟨d,rfl⟩:∃ d,k = 38+d:=⟨k - 38,by omega⟩
  rw [Int.pow_add]
  have:(0:Int) < 2 ^ d:=Int.pow_pos (by decide)
  have h2:(0:Int) < 2 ^ 38:=by decide
  calc (2:Int) ^ 38 = 2 ^ 38 * 1:=by omega
   _ ≤ 2 ^ 38 * 2 ^ d:=Int.mul_le_mul_of_nonneg_left (by omega) (Int.le_of_lt h2)
 by_cases e:hlv h k = 0
 ·exact e
 ·exfalso
  have h3:1 * (2:Int) ^ k ≤ hlv h k * 2 ^ k:=Int.mul_le_mul_of_nonneg_right (by omega) (Int.le_of_lt (Int.pow_pos (by decide)))
  have h4:(2:Int) ^ 38 = 274877906944:=by decide
  omega
theorem adv_at {stp:Int→Option Sg} {least wide h:Int} {k:Nat} (h0:0 ≤ h) (h1:h < 4294967296) (hl:1 ≤ least) (hk:k < 40) :
  advF stp least wide (40 - k) (hlv h k) = match tryC stp wide (hlv h k) with
   | some s=>some (hlv h k,s)
   | none=>if hlv h k / 2 < least then none else advF stp least wide (40 - (k+1)) (hlv h (k+1)):=by
 rw [show 40 - k = 40 - (k+1)+1 from by omega]
 rfl
theorem adv_more {least h:Int} {k:Nat} (h0:0 ≤ h) (h1:h < 4294967296) (hl:1 ≤ least) (hk:¬ hlv h k / 2 < least):k+1 < 40:=by
 by_cases e:38 ≤ k
 ·have:=hlv_end h0 h1 e
  rw [this] at hk
  omega
 ·omega
theorem cnt_at {least h:Int} {k:Nat} (hk:k < 40):cntF least (40 - k) (hlv h k) = if hlv h k / 2 < least then 1 else cntF least (40 - (k+1)) (hlv h (k+1))+1:=by
 rw [show 40 - k = 40 - (k+1)+1 from by omega]
 rfl
theorem anyW_no {l:List (Int × Int)} {k:Nat} {x:Int × Int} {wide:Int} (h:(l.take k).any (wdB wide) = false) (hx:l[k]? = some x) (hb:wdB wide x = false):(l.take (k+1)).any (wdB wide) = false:=by
 rw [List.take_add_one,hx,List.any_append,h]
 simp [hb]
theorem anyW_yes {l:List (Int × Int)} {k:Nat} {x:Int × Int} {wide:Int} (hx:l[k]? = some x) (hb:wdB wide x = true):l.any (wdB wide) = true :=
 List.any_eq_true.2 ⟨x,List.mem_of_getElem? hx,hb⟩
end Go.Proofs.YtdfdpghdjlgghaaGreat
namespace Go.Proofs.YtdfdpghdjlgghaaGreat
open Go.ChangeShapes Go.WideShapes Go.ChangeAt Go.RowKit
set_option linter.unusedVariables false
set_option linter.unusedSimpArgs false
set_option maxRecDepth 100000
attribute [local irreducible] Calls
theorem wrapM1 {m:Nat} (h:m ≤ 1000):IntKind.i64.wrap (((m+1:Nat):Int) - 1) = (m:Int):=by
 have:=wrapS (a:=m+1) (b:=1) (by omega) (by omega)
 simpa using this
set_option maxHeartbeats 4000000 in
theorem rem1_ok (k:Int) (va:Value) (G:List (Int × Int)) (w:World) (hv:Vx w va G) (hne:0 < G.length) (hsm:G.length ≤ 1000) (z0 z1:Int) (hz:lastI G = (z0,z1)) :
  Calls Tryz.prog 144 #[.int .i64 k,va] w fun e w'=>e = .returned (.agg #[.int .i64 z0,.int .i64 z1])∧Below w.heap.size w w':=by
 obtain ⟨p,c,rfl⟩:=hv.cut
 obtain ⟨m,hm⟩:∃ m,G.length = m+1:=⟨G.length - 1,by omega⟩
 have hxg:G[m]? = some (z0,z1):=by
  have h:=g_of (l:=G) (i:=m) (by omega)
  have e:gI G m = (z0,z1):=by rw [← hz]; unfold lastI; rw [hm]; rfl
  rw [e] at h
  exact h
 rw [hm] at hv ⊢
 obtain ⟨b,o,rfl,hb,rd⟩:=vx_rd hv hxg
 have hm2:m ≤ 1000:=by omega
 have hE:Below w.heap.size w (w.alloc (.cells #[.int .i64 0,.int .i64 0] 66)):=allocs_below [.cells #[.int .i64 0,.int .i64 0] 66] w
 have HR:=Lib.hid (show Blk (w.alloc (.cells #[.int .i64 0,.int .i64 0] 66)) (w.heap.size) (.cells #[.int .i64 0,.int .i64 0] 66) from allocs_at [.cells #[.int .i64 0,.int .i64 0] 66] w 0 _ rfl)
 have HW:=Lib.hid hE
 obtain ⟨x0,x1⟩:=rd ⟨_,hE⟩
 dsimp only at x0 x1
 have hx:=HR.out
 have q0:=heapN_cellj hx (k:=0) rfl
 have q1:=heapN_cellj hx (k:=1) rfl
 have hw:=wrapM1 (m:=m) (by omega)
 have i1:(m:Int) < ((m+1:Nat):Int):=by omega
 have i3:(m:Int) < (m:Int)+1:=by omega
 clear hv hne hsm hz hm hxg rd hb
 go_enter Tryz.func144,Tryz.ntmps144
 have HW9:=Lib.hid (show Below w.heap.size w (w.alloc (.cells #[.int .i64 z0,.int .i64 z1] 66)) from (Below.refl _ _).alloc (Nat.le_refl _) _)
 have hs9:(w.alloc (.cells #[.int .i64 z0,.int .i64 z1] 66)).heap[w.heap.size]? = some (.cells #[.int .i64 z0,.int .i64 z1] 66 (0,0)):=World.alloc_heap_new w _
 have g0:=heapN_cellj hs9 (k:=0) rfl
 have g1:=heapN_cellj hs9 (k:=1) rfl
 clear hs9 hx hE q0 q1
 go_wp2_with (fail)
 exact bodyPost_ret (v:=.agg #[.int .i64 z0,.int .i64 z1]) (by simp [results,Tryz.results144,go_sem,g0,g1]) rfl ⟨rfl,HW9.out⟩
set_option maxHeartbeats 16000000 in
theorem map1_ok (vs:Value) (S:List (List (Int × Int))) (w:World) (hs:Lx Vx w vs S) (hsm:S.length ≤ 1000) (hrow:∀ r ∈ S,0 < r.length∧r.length ≤ 1000) :
  Calls Tryz.prog 143 #[vs,.func (.func 144) #[] #[]] w fun e w'=>∃ p c,e = .returned (.slice p S.length c)∧w'.ownsRow w.heap.size 66 2 (.slice p S.length c) S.length (cr encB (remI S))∧Below w.heap.size w w':=by
 obtain ⟨i0,hi,hz0,hz1,hz2⟩:=info_parts info_ivB
 obtain ⟨_,p,c,rfl,_⟩:=id hs
 have HS:=Lib.hid hs
 have HRW:=Lib.hid hrow
 have KR:=Lib.hid (fun k va G w h1 h2 h3 z0 z1 hz=>rem1_ok k va G w h1 h2 h3 z0 z1 hz)
 clear hs hrow
 obtain ⟨w6,hw6⟩:∃ w6,w.alloc (.cells (madeCells (Value.agg #[.int .i64 0,.int .i64 0]).cells (S.length * 2)) 66) = w6:=⟨_,rfl⟩
 have qmk:(Instr.makeSlice 23 (.int .i64 0) (.int .i64 (S.length:Int))).run Tryz.prog w = .ok (.slice (some ⟨w.heap.size,0,none⟩) 0 S.length) w6:=by
  have:=run_make (P:=Tryz.prog) w 23 66 i0 _ Tryz.underlying23 hi hz0 .i64 .i64 0 S.length (Int.le_refl _) (by omega) (by rw [hz2]; omega) (by omega)
  rw [hz1] at this
  simpa [hw6] using this
 have HR6:=Lib.hid (show w6.ownsRow w.heap.size 66 2 (.slice (some ⟨w.heap.size,0,none⟩) 0 S.length) 0 [] by
  rw [← hw6]
  exact World.ownsRow_made w _ S.length (Nat.le_refl _) (by unfold maxLen; omega) (size_madeCells _ _))
 have HB6:=Lib.hid (show Below w.heap.size w w6 by rw [← hw6]; exact (Below.refl _ w).alloc (Nat.le_refl _) _)
 clear hw6
 go_enter Tryz.func143,Tryz.ntmps143
 go_wp2_with (fail)
 clear qmk
 go_loopw [5,13] (fun v i wr=>∃ k:Nat,i = .int .i64 k∧k ≤ S.length∧Hid (wr.ownsRow w.heap.size 66 2 v k (cr encB ((remI S).take k)))∧Hid (Below w.heap.size w wr)) (fun v i _=>S.length - (intOf i).toNat)
 case atStart=>exact ⟨0,rfl,Nat.zero_le _,HR6,HB6⟩
 case round =>
  clear HR6 HB6
  obtain ⟨k,rfl,hk,HR,HB⟩:=hrel
  obtain ⟨pv,cv,rfl⟩:=own_slice HR.out
  have hsr:=HB.out.size
  by_cases hlt:k < S.length
  ·have i2:(k:Int) < S.length:=by omega
   have hxa:=gR_of hlt
   obtain ⟨bx,ox,u,hpe,hbx,hcu,hcx⟩:∃ b o u,p = some ⟨b,o,none⟩∧b < w.heap.size∧w.cell? ⟨b,o+k,none⟩ = some u∧Vx w u (gR S k):=by
    obtain ⟨_,p',c',e,h⟩:=HS.out
    cases e
    exact h k _ hxa
   subst hpe
   have hcu:=(HB.out.cell (p:=⟨bx,ox+k,none⟩) hbx).trans hcu
   have hcx:=hcx.grow HB.out
   have hsn:=remI_snoc hxa
   obtain ⟨⟨s0,s1⟩,hs⟩:∃ s,lastI (gR S k) = s:=⟨_,rfl⟩
   rw [hs] at hsn
   obtain ⟨hr1,hr2⟩:=HRW.out _ (List.mem_of_getElem? hxa)
   have KR1:=Lib.hid (KR.out k u (gR S k) wr hcx hr1 hr2 s0 s1 hs)
   have HSN:=Lib.hid hsn
   obtain ⟨pu,cu,rfl⟩:=hcx.cut
   generalize gR S k = G at *
   clear hxa hsn hcx hr1 hr2 hs KR
   go_wp2_with (fail)
   refine KR1.out.mono ?_
   rintro e w8 ⟨rfl,hB8⟩
   clear KR1 hcu
   have HR8:=Lib.hid (own_keptN HR.out hB8)
   have HB8:=Lib.hid (HB.out.trans (hB8.mono HB.out.size))
   have HNB:=Lib.hid (two_at (s0,s1) (World.alloc_heap_new w8 (.cells #[.int .i64 s0,.int .i64 s1] 66)))
   have HR9:=Lib.hid (HR8.out.alloc (.cells #[.int .i64 s0,.int .i64 s1] 66))
   have HB9:=Lib.hid (HB8.out.alloc HB8.out.size (.cells #[.int .i64 s0,.int .i64 s1] 66))
   clear hB8 HR HB HR8 HB8
   go_wp2_with (at_builtin; refine wpList_append_own _ rfl (.tmp 18) (.tmp 23) 23 rfl w.heap.size 66 i0 (.agg #[.int .i64 0,.int .i64 0]) 2 16 Tryz.underlying23 hi hz0 hz1 hz2 rfl (by decide) (.slice pv k cv) k _ rfl HR9.out ⟨w8.heap.size,0,none⟩ 1 1 (encB (s0,s1)) rfl rfl HNB.out (one_b _) (by unfold maxLen; omega) (by omega) HB9.out.size ?_)
   intro v' w10 hown' hgrow _
   have hB10:=Below.grown HB9.out hgrow HB9.out.size (fun i hi=>(HR9.out.lt i hi).1)
   have HR10:=Lib.hid hown'
   have HB10:=Lib.hid hB10
   clear hown' hgrow hB10 HR9 HB9
   go_wp2_with (fail)
   go_roundw
   case rel=>exact ⟨k+1,by go_num,by omega,Lib.hid (by rw [HSN.out,cr_snoc]; exact HR10.out),HB10⟩
   case measure=>simp [intOf]; omega
  ·obtain rfl:k = S.length:=by omega
   have i2:¬ (S.length:Int) < S.length:=by omega
   go_wp2_with (fail)
   go_ret
   have h:=HR.out
   rw [List.take_of_length_le (by rw [remI_len]; exact Nat.le_refl _)] at h
   exact ⟨_,_,rfl,h,HB.out⟩
set_option maxHeartbeats 8000000 in
theorem res1_ok (k:Nat) (a b s0 s1:Int) (vb:Value) (B:List (Int × Int)) (eb:Nat) (w:World) (hk:k < B.length) (hb:Vx w vb B) (hE_:Blk w eb (.cells #[vb] 23)) (hv:VI a b) (hvb:AV B) (hs:rsP (a,b) (gI B k) = (s0,s1)) :
  Calls Tryz.prog 147 #[.int .i64 k,.agg #[.int .i64 a,.int .i64 b],.pointer (some ⟨eb,0,none⟩)] w fun e w'=>e = .returned (.agg #[.int .i64 s0,.int .i64 s1])∧Below w.heap.size w w':=by
 have hx:=g_of hk
 obtain ⟨⟨c,d⟩,hcd⟩:∃ t,gI B k = t:=⟨_,rfl⟩
 have hvc:=gI_vi hvb k
 rw [hcd] at hx hs hvc
 obtain ⟨p,cb,rfl⟩:=hb.cut
 obtain ⟨bb,ob,rfl,hbb,rd⟩:=vx_rd hb hx
 have i1:(k:Int) < B.length:=by omega
 obtain ⟨m0,m1,t,hM,hR⟩:∃ m0 m1 t,(∀ w,Calls Tryz.prog 148 #[.agg #[.int .i64 a,.int .i64 b],.agg #[.int .i64 c,.int .i64 d]] w fun e w'=>e = .returned (.tuple #[.agg #[.int .i64 m0,.int .i64 m1],.bool t])∧Below w.heap.size w w')∧(if t = true then (m0,m1) else (c,d)) = (s0,s1):=by
  unfold rsP at hs
  by_cases hm:max a c ≤ min b d
  ·rw [if_pos hm] at hs
   exact ⟨_,_,true,fun w=>iv_meet_yes a b c d w hv hvc hm,by rw [if_pos rfl]; exact hs⟩
  ·rw [if_neg hm] at hs
   exact ⟨_,_,false,fun w=>iv_meet_no a b c d w (by omega),by rw [if_neg (by decide)]; exact hs⟩
 have hE:Below w.heap.size w ((w.alloc (.cells #[.int .i64 a,.int .i64 b] 66)).alloc (.cells #[.int .i64 0,.int .i64 0] 66)):=allocs_below [.cells #[.int .i64 a,.int .i64 b] 66,.cells #[.int .i64 0,.int .i64 0] 66] w
 have HA:=Lib.hid (show Blk ((w.alloc (.cells #[.int .i64 a,.int .i64 b] 66)).alloc (.cells #[.int .i64 0,.int .i64 0] 66)) (w.heap.size) (.cells #[.int .i64 a,.int .i64 b] 66) from allocs_at [.cells #[.int .i64 a,.int .i64 b] 66,.cells #[.int .i64 0,.int .i64 0] 66] w 0 _ rfl)
 have HR:=Lib.hid (show Blk ((w.alloc (.cells #[.int .i64 a,.int .i64 b] 66)).alloc (.cells #[.int .i64 0,.int .i64 0] 66)) (w.heap.size+1) (.cells #[.int .i64 0,.int .i64 0] 66) from allocs_at [.cells #[.int .i64 a,.int .i64 b] 66,.cells #[.int .i64 0,.int .i64 0] 66] w 1 _ rfl)
 have HW:=Lib.hid hE
 have HEB:=Lib.hid (show Blk ((w.alloc (.cells #[.int .i64 a,.int .i64 b] 66)).alloc (.cells #[.int .i64 0,.int .i64 0] 66)) eb _ from hE_.grow hE)
 have RD:=Lib.hid (show ∀ g:Grown ((w.alloc (.cells #[.int .i64 a,.int .i64 b] 66)).alloc (.cells #[.int .i64 0,.int .i64 0] 66)),g.w.cell? ⟨bb,ob+k * 2,none⟩ = some (.int .i64 c)∧g.w.cell? ⟨bb,ob+k * 2+1,none⟩ = some (.int .i64 d) from fun g=>rd ⟨g.w,hE.trans (g.h.mono hE.size)⟩)
 have KM:=Lib.hid hM
 have HS:=Lib.hid hR
 clear hE hE_ hb hv hvb hs hx hcd hvc rd hbb hM hR
 go_enter Tryz.func147,Tryz.ntmps147
 go_wp2_with (fail)
 generalize hW0:World.alloc (World.alloc w _) _ = W0 at *
 clear hW0
 have a0:=fun g:Grown W0=>heapN_cellj (HA.out.grow g.h) (k:=0) rfl
 have a1:=fun g:Grown W0=>heapN_cellj (HA.out.grow g.h) (k:=1) rfl
 have e0:=fun g:Grown W0=>heapN_cellj (HEB.out.grow g.h) (k:=0) rfl
 have b0:=fun g:Grown W0=>(RD.out g).1
 have b1:=fun g:Grown W0=>(RD.out g).2
 refine region_pred_g (fun σ_=>lk [(9,fun z_ _=>z_ = .agg #[.int .i64 a,.int .i64 b]),(10,fun z_ _=>z_ = .slice (some ⟨bb,ob,none⟩) B.length cb),(11,fun z_ _=>z_ = .int .i64 (k:Int)),(12,fun z_ _=>z_ = .pointer (some ⟨bb,ob+k * 2,none⟩)),(13,fun z_ _=>z_ = .agg #[.int .i64 c,.int .i64 d]),(14,fun z_ _=>z_ = .tuple #[.agg #[.int .i64 m0,.int .i64 m1],.bool t]),(8,fun z_ _=>z_ = .tuple #[.agg #[.int .i64 m0,.int .i64 m1],.bool t]),(15,fun z_ _=>z_ = .agg #[.int .i64 m0,.int .i64 m1]),(16,fun z_ _=>z_ = .bool t),(6,fun z_ w'=>∃ X_,z_ = .pointer (some ⟨X_,0,none⟩)∧W0.heap.size ≤ X_∧w'.heap[X_]? = some (.cells (if σ_ 10 = true then #[.int .i64 m0,.int .i64 m1] else #[(.int .i64 0),(.int .i64 0)]) 66 (0,0))),(7,fun z_ _=>z_ = .bool t)]) (kk [(6,ptrK)]) [(10,6)] [] (by kernel_rfl) (by kernel_rfl) ?_ (fun σ_=>lk_steady _ ⟨steady_eq _,steady_eq _,steady_eq _,steady_eq _,steady_eq _,steady_eq _,steady_eq _,steady_eq _,steady_eq _,fun u w1 w2 hb ⟨X,e,h1,h2⟩=>⟨X,e,h1,(hb.block X (Array.getElem?_eq_some_iff.1 h2).1).trans h2⟩,steady_eq _,trivial⟩) ?_ ?_ ?_ ?_
 ·intro x hx
  cases hx
 ·intro σ_ t v w b h hb
  refine kk_lt (fun x hx e hl hb=>?_) h hb
  simp only [List.mem_cons,List.not_mem_nil,or_false] at hx
  rcases hx with rfl
  ·subst e
   obtain ⟨X,rfl,hX,hI⟩:=hl
   obtain rfl:X = b:=Option.some.inj hb
   exact (Array.getElem?_eq_some_iff.1 hI).1
 ·refine ⟨?_,?_,?_,?_,?_,?_,?_,?_,?_,?_,?_,?_,trivial⟩
  ·intro _ σ_ hσ
   refine oblg_of (ob_plain [4] rfl rfl fun aa g h=>?_) (fun d v hd=>by cases hd; rfl)
   have yy0:=seen_out (v:=.pointer (some ⟨w.heap.size,0,none⟩)) rfl rfl h.1
   exact tvS (by simp [go_sem,yy0,a0 g,a1 g]) rfl
  ·intro _ σ_ hσ
   refine oblg_of (ob_plain [2] rfl rfl fun aa g h=>?_) (fun d v hd=>by cases hd; rfl)
   have yy0:=seen_out (v:=.pointer (some ⟨eb,0,none⟩)) rfl rfl h.1
   exact tvS (by simp [go_sem,yy0,e0 g]) rfl
  ·intro _ σ_ hσ
   refine oblg_of (ob_plain [0] rfl rfl fun aa g h=>?_) (fun d v hd=>by cases hd; rfl)
   have yy0:=seen_out (v:=.int .i64 (k:Int)) rfl rfl h.1
   exact tvS (by simp [go_sem,yy0]) rfl
  ·intro _ σ_ hσ
   refine oblg_of (ob_plain [10,11] rfl rfl fun aa g h=>?_) (fun d v hd=>by cases hd; rfl)
   obtain ⟨_,yy0,rfl⟩:=seen_in rfl h.1
   obtain ⟨_,yy1,rfl⟩:=seen_in rfl h.2.1
   exact tvS (by simp [go_sem,yy0,yy1,i1]) rfl
  ·intro _ σ_ hσ
   refine oblg_of (ob_plain [12] rfl rfl fun aa g h=>?_) (fun d v hd=>by cases hd; rfl)
   obtain ⟨_,yy0,rfl⟩:=seen_in rfl h.1
   exact tvS (by simp [go_sem,yy0,b0 g,b1 g]) rfl
  ·intro _ σ_ hσ
   refine oblg_of (ob_plain [9,13] rfl rfl fun aa g h=>?_) (fun d v hd=>by cases hd; rfl)
   obtain ⟨_,yy0,rfl⟩:=seen_in rfl h.1
   obtain ⟨_,yy1,rfl⟩:=seen_in rfl h.2.1
   refine tupon_enter (f:=148) (args:=#[.agg #[.int .i64 a,.int .i64 b],.agg #[.int .i64 c,.int .i64 d]]) (by simp [go_sem,yy0,yy1]) rfl ?_
   exact (KM.out g.w).mono fun e w' ⟨he,hB⟩=>⟨_,he,hB,rfl⟩
  ·intro _ σ_ hσ
   refine oblg_of (ob_plain [14] rfl rfl fun aa g h=>?_) (fun d v hd=>by cases hd; rfl)
   obtain ⟨_,yy0,rfl⟩:=seen_in rfl h.1
   exact tvS (by simp [go_sem,yy0]) rfl
  ·intro _ σ_ hσ
   refine oblg_of (ob_plain [8] rfl rfl fun aa g h=>?_) (fun d v hd=>by cases hd; rfl)
   obtain ⟨_,yy0,rfl⟩:=seen_in rfl h.1
   exact tvS (by simp [go_sem,yy0]) rfl
  ·intro _ σ_ hσ
   refine oblg_of (ob_plain [8] rfl rfl fun aa g h=>?_) (fun d v hd=>by cases hd; rfl)
   obtain ⟨_,yy0,rfl⟩:=seen_in rfl h.1
   exact tvS (by simp [go_sem,yy0]) rfl
  ·intro _ σ_ hσ
   have hsx:σ_ 10 = false:=by
    cases e:σ_ 10 with
    | false=>rfl
    | true=>exact absurd (hσ 10 _ e rfl) (by first | decide | decide +kernel)
   refine oblg_plain [] rfl rfl fun aa g h=>?_
   exact tupon_value (v:=.pointer (some ⟨g.w.heap.size,0,none⟩)) (w1:=g.w.alloc (.cells #[(.int .i64 0),(.int .i64 0)] 66)) (by simp [go_sem]) ((Below.refl _ _).alloc (Nat.le_refl _) _) ⟨⟨_,rfl,g.h.size,by rw [if_neg (by rw [hsx]; exact Bool.false_ne_true)]; exact World.alloc_heap_new _ _⟩,fun d b hd hb=>by cases hd; obtain rfl:=Option.some.inj hb; exact Nat.le_refl _⟩
  ·exact fun h=>absurd h (by decide)
  ·intro _ σ_ hσ
   refine oblg_of (ob_plain [16] rfl rfl fun aa g h=>?_) (fun d v hd=>by cases hd; rfl)
   obtain ⟨_,yy0,rfl⟩:=seen_in rfl h.1
   exact tvS (by simp [go_sem,yy0]) rfl
 ·intro i p os hm hos
  simp only [List.mem_cons,List.not_mem_nil,or_false,Prod.mk.injEq] at hm
  rcases hm with ⟨rfl,rfl⟩
  ·obtain rfl:=Option.some.inj hos
   intro σ_ aa gg hσ h
   obtain ⟨_,r0,X,rfl,hX,hI⟩:=seen_in rfl h.1
   have e0:=getD_of r0
   obtain ⟨_,r1,rfl⟩:=seen_in rfl h.2.1
   have e1:=getD_of r1
   rw [if_neg (by rw [hσ]; exact Bool.false_ne_true)] at hI
   have q0:=heapN_cellj hI (k:=0) rfl
   have z0:gg.w.frozen? ⟨X,0,none⟩ = false:=by simp [World.frozen?,hI]
   have q1:=heapN_cellj hI (k:=1) rfl
   have z1:gg.w.frozen? ⟨X,1,none⟩ = false:=by simp [World.frozen?,hI]
   refine ⟨((gg.w.setCell ⟨X,0,none⟩ (.int .i64 m0)).setCell ⟨X,1,none⟩ (.int .i64 m1)),by simp [go_sem,e0,r0,e1,r1,q0,z0,q1,z1],((gg.h.setCell (p:=⟨X,0,none⟩) hX _).setCell (p:=⟨X,1,none⟩) hX _),fun t v hv hne hΦ=>lk_pair ?_ hΦ⟩
   refine ⟨rfl,fun _ h=>h,rfl,fun _ h=>h,rfl,fun _ h=>h,rfl,fun _ h=>h,rfl,fun _ h=>h,rfl,fun _ h=>h,rfl,fun _ h=>h,rfl,fun _ h=>h,rfl,fun _ h=>h,rfl,?_,rfl,fun _ h=>h,trivial⟩
   ·intro e hx
    subst e
    obtain ⟨X',rfl,hX',hI'⟩:=hx
    rw [r0] at hv
    have e:=Option.some.inj hv
    simp only [Value.pointer.injEq,Option.some.injEq,Addr.mk.injEq,and_true] at e
    subst e
    exact ⟨X,rfl,hX,by rw [if_pos (updS_self _ _)]; exact cellsT_setN (o:=1) (u:=.int .i64 m1) (cellsT_setN (o:=0) (u:=.int .i64 m0) (hI))⟩
 rintro w5 hB _ rfl _ rfl _ rfl _ rfl _ rfl _ rfl _ rfl _ rfl _ rfl _ ⟨X6,rfl,hX6,hI6⟩ _ rfl
 simp only [Act.put,List.setIfInBounds_toArray,List.set_cons_succ,List.set_cons_zero,List.filterMap_nil,finP]
 intro hdis hcp
 have hI6:w5.heap[X6]? = some (.cells #[.int .i64 m0,.int .i64 m1] 66 (0,0)):=hI6
 have k0:=heapN_cellj hI6 (k:=0) rfl
 have k1:=heapN_cellj hI6 (k:=1) rfl
 have e5:=e0 ⟨w5,hB⟩
 have u0:=b0 ⟨w5,hB⟩
 have u1:=b1 ⟨w5,hB⟩
 dsimp only at e5 u0 u1
 have HB5:=Lib.hid (below_then HW.out hB)
 have hx:=HR.out.grow hB
 clear hdis hcp hI6 hB a0 a1 e0 b0 b1 KM hX6
 cases t with
 | true =>
  have hs:=HS.out
  rw [if_pos rfl] at hs
  obtain ⟨rfl,rfl⟩:=Prod.mk.inj hs
  clear hs
  have q0:=heapN_cellj hx (k:=0) rfl
  have q1:=heapN_cellj hx (k:=1) rfl
  have y0:w5.frozen? ⟨w.heap.size+1,0,none⟩ = false:=by simp [World.frozen?,show w5.heap[w.heap.size+1]? = _ from hx]
  have y1:w5.frozen? ⟨w.heap.size+1,1,none⟩ = false:=by simp [World.frozen?,show w5.heap[w.heap.size+1]? = _ from hx]
  have HW9:=Lib.hid (((HB5.out).setCell (p:=⟨w.heap.size+1,0,none⟩) (by dsimp only; omega) (.int .i64 (m0))).setCell (p:=⟨w.heap.size+1,1,none⟩) (by dsimp only; omega) (.int .i64 (m1)))
  have hs9:=cellsT_setN (o:=1) (u:=.int .i64 (m1)) (cellsT_setN (o:=0) (u:=.int .i64 (m0)) hx)
  have x0:=heapN_cellj hs9 (k:=0) (u:=.int .i64 (m0)) rfl
  have x1:=heapN_cellj hs9 (k:=1) (u:=.int .i64 (m1)) rfl
  clear hs9 hx
  go_wp2_with (fail)
  exact bodyPost_ret (v:=.agg #[.int .i64 m0,.int .i64 m1]) (by simp [results,Tryz.results147,go_sem,x0,x1]) rfl ⟨rfl,HW9.out⟩
 | false =>
  have hs:=HS.out
  rw [if_neg (by decide)] at hs
  obtain ⟨rfl,rfl⟩:=Prod.mk.inj hs
  clear hs
  have q0:=heapN_cellj hx (k:=0) rfl
  have q1:=heapN_cellj hx (k:=1) rfl
  have y0:w5.frozen? ⟨w.heap.size+1,0,none⟩ = false:=by simp [World.frozen?,show w5.heap[w.heap.size+1]? = _ from hx]
  have y1:w5.frozen? ⟨w.heap.size+1,1,none⟩ = false:=by simp [World.frozen?,show w5.heap[w.heap.size+1]? = _ from hx]
  have HW9:=Lib.hid (((HB5.out).setCell (p:=⟨w.heap.size+1,0,none⟩) (by dsimp only; omega) (.int .i64 (c))).setCell (p:=⟨w.heap.size+1,1,none⟩) (by dsimp only; omega) (.int .i64 (d)))
  have hs9:=cellsT_setN (o:=1) (u:=.int .i64 (d)) (cellsT_setN (o:=0) (u:=.int .i64 (c)) hx)
  have x0:=heapN_cellj hs9 (k:=0) (u:=.int .i64 (c)) rfl
  have x1:=heapN_cellj hs9 (k:=1) (u:=.int .i64 (d)) rfl
  clear hs9 hx
  go_wp2_with (fail)
  exact bodyPost_ret (v:=.agg #[.int .i64 c,.int .i64 d]) (by simp [results,Tryz.results147,go_sem,x0,x1]) rfl ⟨rfl,HW9.out⟩
set_option maxHeartbeats 16000000 in
theorem map2_ok (va vb:Value) (A B:List (Int × Int)) (eb:Nat) (w:World) (ha:Vx w va A) (hb:Vx w vb B) (hE_:Blk w eb (.cells #[vb] 23)) (hl:B.length = A.length) (hsm:A.length ≤ 1000) (hva:AV A) (hvb:AV B) :
  Calls Tryz.prog 146 #[va,.func (.func 147) #[] #[.pointer (some ⟨eb,0,none⟩)]] w fun e w'=>∃ p c,e = .returned (.slice p A.length c)∧w'.ownsRow w.heap.size 66 2 (.slice p A.length c) A.length (cr encB (rsL A B))∧Below w.heap.size w w':=by
 obtain ⟨i0,hi,hz0,hz1,hz2⟩:=info_parts info_ivB
 obtain ⟨p,c,rfl⟩:=ha.cut
 have HA:=Lib.hid ha
 have HBV:=Lib.hid hb
 have HEB:=Lib.hid hE_
 have HVA:=Lib.hid hva
 have HL:=Lib.hid hl
 have KR:=Lib.hid (fun (k:Nat) a b s0 s1 w hk h1 h2 hv hs=>res1_ok k a b s0 s1 vb B eb w hk h1 h2 hv hvb hs)
 clear ha hb hE_ hl hva hvb
 obtain ⟨w6,hw6⟩:∃ w6,w.alloc (.cells (madeCells (Value.agg #[.int .i64 0,.int .i64 0]).cells (A.length * 2)) 66) = w6:=⟨_,rfl⟩
 have qmk:(Instr.makeSlice 23 (.int .i64 0) (.int .i64 (A.length:Int))).run Tryz.prog w = .ok (.slice (some ⟨w.heap.size,0,none⟩) 0 A.length) w6:=by
  have:=run_make (P:=Tryz.prog) w 23 66 i0 _ Tryz.underlying23 hi hz0 .i64 .i64 0 A.length (Int.le_refl _) (by omega) (by rw [hz2]; omega) (by omega)
  rw [hz1] at this
  simpa [hw6] using this
 have HR6:=Lib.hid (show w6.ownsRow w.heap.size 66 2 (.slice (some ⟨w.heap.size,0,none⟩) 0 A.length) 0 [] by
  rw [← hw6]
  exact World.ownsRow_made w _ A.length (Nat.le_refl _) (by unfold maxLen; omega) (size_madeCells _ _))
 have HB6:=Lib.hid (show Below w.heap.size w w6 by rw [← hw6]; exact (Below.refl _ w).alloc (Nat.le_refl _) _)
 clear hw6
 go_enter Tryz.func146,Tryz.ntmps146
 go_wp2_with (fail)
 clear qmk
 go_loopw [5,13] (fun v i wr=>∃ k:Nat,i = .int .i64 k∧k ≤ A.length∧Hid (wr.ownsRow w.heap.size 66 2 v k (cr encB ((rsL A B).take k)))∧Hid (Below w.heap.size w wr)) (fun v i _=>A.length - (intOf i).toNat)
 case atStart=>exact ⟨0,rfl,Nat.zero_le _,HR6,HB6⟩
 case round =>
  clear HR6 HB6
  obtain ⟨k,rfl,hk,HR,HB⟩:=hrel
  obtain ⟨pv,cv,rfl⟩:=own_slice HR.out
  have hsr:=HB.out.size
  by_cases hlt:k < A.length
  ·have i2:(k:Int) < A.length:=by omega
   have hxa:=g_of hlt
   have hxb:=g_of (l:=B) (i:=k) (by rw [HL.out]; exact hlt)
   have hsn:=rsL_snoc hxa hxb
   have hva:=gI_vi HVA.out k
   obtain ⟨⟨a,b⟩,hab⟩:∃ t,gI A k = t:=⟨_,rfl⟩
   rw [hab] at hxa hsn hva
   obtain ⟨bx,ox,hpe,hbx,rdx⟩:=vx_rd HA.out hxa
   subst hpe
   obtain ⟨⟨s0,s1⟩,hs⟩:∃ s,rsP (a,b) (gI B k) = s:=⟨_,rfl⟩
   have hsn:(rsL A B).take (k+1) = (rsL A B).take k ++ [(s0,s1)]:=by rw [← hs]; exact hsn
   obtain ⟨x0,x1⟩:=rdx ⟨wr,HB.out⟩
   dsimp only at x0 x1
   have HSN:=Lib.hid hsn
   have HBX:=Lib.hid (HB.out.alloc hsr (.cells #[.int .i64 a,.int .i64 b] 66))
   have KR1:=Lib.hid (KR.out k a b s0 s1 (wr.alloc (.cells #[.int .i64 a,.int .i64 b] 66)) (by rw [HL.out]; exact hlt) (HBV.out.grow HBX.out) (HEB.out.grow HBX.out) hva hs)
   have HR:=Lib.hid (HR.out.alloc (.cells #[.int .i64 a,.int .i64 b] 66))
   have hnw:Blk (wr.alloc (.cells #[.int .i64 a,.int .i64 b] 66)) wr.heap.size (.cells #[.int .i64 a,.int .i64 b] 66):=World.alloc_heap_new wr _
   have z0:=heapN_cellj hnw (k:=0) rfl
   have z1:=heapN_cellj hnw (k:=1) rfl
   have HB:=Lib.hid HBX.out
   clear hxa hxb hsn hs rdx hva hab hbx hnw KR HBX
   go_wp2_with (fail)
   refine KR1.out.mono ?_
   rintro e w8 ⟨rfl,hB8⟩
   clear KR1 x0 x1 z0 z1
   have HR8:=Lib.hid (own_keptN HR.out hB8)
   have HB8:=Lib.hid (HB.out.trans (hB8.mono HB.out.size))
   have HNB:=Lib.hid (two_at (s0,s1) (World.alloc_heap_new w8 (.cells #[.int .i64 s0,.int .i64 s1] 66)))
   have HR9:=Lib.hid (HR8.out.alloc (.cells #[.int .i64 s0,.int .i64 s1] 66))
   have HB9:=Lib.hid (HB8.out.alloc HB8.out.size (.cells #[.int .i64 s0,.int .i64 s1] 66))
   clear hB8 HR HB HR8 HB8
   go_wp2_with (at_builtin; refine wpList_append_own _ rfl (.tmp 18) (.tmp 23) 23 rfl w.heap.size 66 i0 (.agg #[.int .i64 0,.int .i64 0]) 2 16 Tryz.underlying23 hi hz0 hz1 hz2 rfl (by decide) (.slice pv k cv) k _ rfl HR9.out ⟨w8.heap.size,0,none⟩ 1 1 (encB (s0,s1)) rfl rfl HNB.out (one_b _) (by unfold maxLen; omega) (by omega) HB9.out.size ?_)
   intro v' w10 hown' hgrow _
   have hB10:=Below.grown HB9.out hgrow HB9.out.size (fun i hi=>(HR9.out.lt i hi).1)
   have HR10:=Lib.hid hown'
   have HB10:=Lib.hid hB10
   clear hown' hgrow hB10 HR9 HB9
   go_wp2_with (fail)
   go_roundw
   case rel=>exact ⟨k+1,by go_num,by omega,Lib.hid (by rw [HSN.out,cr_snoc]; exact HR10.out),HB10⟩
   case measure=>simp [intOf]; omega
  ·obtain rfl:k = A.length:=by omega
   have i2:¬ (A.length:Int) < A.length:=by omega
   go_wp2_with (fail)
   go_ret
   have h:=HR.out
   rw [List.take_of_length_le (by rw [rsL_len HL.out]; exact Nat.le_refl _)] at h
   exact ⟨_,_,rfl,h,HB.out⟩
theorem restr_ok (va vb:Value) (A B:List (Int × Int)) (eb:Nat) (w:World) (ha:Vx w va A) (hb:Vx w vb B) (hE_:Blk w eb (.cells #[vb] 23)) (hl:B.length = A.length) (hsm:A.length ≤ 1000) (hva:AV A) (hvb:AV B) :
  Calls Tryz.prog 145 #[va,.pointer (some ⟨eb,0,none⟩)] w fun e w'=>∃ p c,e = .returned (.slice p A.length c)∧w'.ownsRow w.heap.size 66 2 (.slice p A.length c) A.length (cr encB (rsL A B))∧Below w.heap.size w w':=by
 have KM:=Lib.hid (map2_ok va vb A B eb w ha hb hE_ hl hsm hva hvb)
 obtain ⟨p,c,rfl⟩:=ha.cut
 clear ha hb hE_ hl hva hvb
 go_enter Tryz.func145,Tryz.ntmps145
 go_wp2_with (fail)
 refine KM.out.mono ?_
 rintro e w8 ⟨p8,c8,rfl,ho8,hB8⟩
 have HO:=Lib.hid ho8
 have HB:=Lib.hid hB8
 clear ho8 hB8
 go_wp2_with (fail)
 go_ret
 exact ⟨_,_,rfl,HO.out,HB.out⟩
end Go.Proofs.YtdfdpghdjlgghaaGreat
