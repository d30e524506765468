/-
 Cd
-/
import Derived.Test.YtdfdpghdjlgghaaGreatKds
import Derived.Test.YtdfdpghdjlgghaaGreatKdza
import Derived.Test.YtdfdpghdjlgghaaGreatKdzc
import Derived.Test.YtdfdpghdjlgghaaGreatKdzf
import Derived.Maps.AppendAt
namespace Go.Proofs.YtdfdpghdjlgghaaGreat
open Go.ChangeShapes Go.WideShapes Go.ChangeAt Go.RowKit
set_option linter.unusedVariables false
set_option linter.unusedSimpArgs false
set_option maxRecDepth 100000
attribute [local irreducible] Calls
section
variable {B eb:Nat} {W W':World} {k:Nat} {v rv vb:Value} {S Z:List (List (Int × Int))} {R:List (Int × Int)} {us rus:List Value}
structure ExtT (B eb:Nat) (W:World) (k:Nat) (v vb:Value) (S:List (List (Int × Int))) (R:List (Int × Int)) (us:List Value) (rv:Value) (Z:List (List (Int × Int))) (rus:List Value):Prop where
 out:OwT encB 2 66 23 B W rv Z rus
 inp:W.ownsRow B 23 1 v S.length us
 tab:v.ownBlock = none ∨ v.ownBlock ≠ rv.ownBlock
 row:∀ j r,k ≤ j→S[j]? = some r→∃ u,us[j]? = some u∧W.ownsRow B 66 2 u r.length (cr encB r)
 far:∀ (i j:Nat) (u x:Value),us[i]? = some u→us[j]? = some x→i ≠ j→u.ownBlock = none ∨ u.ownBlock ≠ x.ownBlock
 sep:∀ j u,k ≤ j→us[j]? = some u→∀ y ∈ rus,u.ownBlock = none ∨ u.ownBlock ≠ y.ownBlock
 val:W.ownsRow B 66 2 vb R.length (cr encB R)
 vfar:∀ u ∈ us,vb.ownBlock = none ∨ vb.ownBlock ≠ u.ownBlock
 box:W.heap[eb]? = some (.cells #[vb] 23 (0,0))
 bfar:∀ u ∈ us,u.ownBlock ≠ some eb
 rfar:rv.ownBlock ≠ some eb
theorem ExtT.lenU (h:ExtT B eb W k v vb S R us rv Z rus):us.length = S.length:=by have:=h.inp.1; simpa using this
theorem ExtT.grow (h:ExtT B eb W k v vb S R us rv Z rus) (hB:Below W.heap.size W W'):ExtT B eb W' k v vb S R us rv Z rus :=
 ⟨h.out.grow hB,ot_kept h.inp hB,h.tab,fun j r hj hr=>by
  obtain ⟨u,h1,h2⟩:=h.row j r hj hr
  exact ⟨u,h1,ot_kept h2 hB⟩,h.far,h.sep,ot_kept h.val hB,h.vfar,(hB.block eb (Array.getElem?_eq_some_iff.1 h.box).1).trans h.box,h.bfar,h.rfar⟩
theorem ExtT.one (h:ExtT B eb W k v vb S R us rv Z rus) {r:List (Int × Int)} {u u':Value} (hr:S[k]? = some r) (hu:us[k]? = some u) (hg:W.grownBy W' u.ownBlock)
  (hat:u'.ownBlock = u.ownBlock ∨ ∃ b,u'.ownBlock = some b∧W.heap.size ≤ b) :
  ExtT B eb W' (k+1) v vb S R us rv Z rus∧(∀ y ∈ rus,y.ownBlock = none ∨ y.ownBlock ≠ u'.ownBlock)∧(∀ j y,k+1 ≤ j→us[j]? = some y→y.ownBlock = none ∨ y.ownBlock ≠ u'.ownBlock):=by
 obtain ⟨u0,e0,hrow⟩:=h.row k r (Nat.le_refl _) hr
 rw [hu] at e0
 obtain rfl:=Option.some.inj e0
 have hk:=(List.getElem?_eq_some_iff.1 hr).1
 have new:∀ (y:Value) (c:Nat),y.ownBlock = some c→c < W.heap.size→(∃ b,u'.ownBlock = some b∧W.heap.size ≤ b)→y.ownBlock ≠ u'.ownBlock:=fun y c hy hc ⟨b,e1,e2⟩ e3=>by
  rw [hy,e1] at e3
  have:=Option.some.inj e3
  omega
 refine ⟨⟨h.out.other hg (ot_ne (by decide) h.out.out hrow) (fun y hy=>ob_sym (h.sep k u (Nat.le_refl _) hu y hy)),h.inp.kept hg (ot_ne (by decide) h.inp hrow),h.tab,fun j s hj hs=>?_,h.far,fun j y hj hy=>h.sep j y (by omega) hy,h.val.kept hg (h.vfar u (List.mem_of_getElem? hu)),h.vfar,?_,h.bfar,h.rfar⟩,fun y hy=>?_,fun j y hj hy=>?_⟩
 ·obtain ⟨y,h1,h2⟩:=h.row j s (by omega) hs
  exact ⟨y,h1,h2.kept hg (h.far j k y u h1 hu (by omega))⟩
 ·exact (hg.block eb (Array.getElem?_eq_some_iff.1 h.box).1 (fun e=>h.bfar u (List.mem_of_getElem? hu) e.symm)).trans h.box
 ·rcases e:y.ownBlock with _ | c
  ·exact .inl rfl
  ·refine .inr ?_
   rw [← e]
   rcases hat with e1 | e1
   ·rw [e1]
    rcases ob_sym (h.sep k u (Nat.le_refl _) hu y hy) with e2 | e2
    ·rw [e] at e2; cases e2
    ·exact e2
   ·obtain ⟨s,_,hs⟩:=h.out.mem hy
    exact new y c e (hs.lt c e).2 e1
 ·rcases e:y.ownBlock with _ | c
  ·exact .inl rfl
  ·refine .inr ?_
   rw [← e]
   rcases hat with e1 | e1
   ·rw [e1]
    rcases h.far j k y u hy hu (by omega) with e2 | e2
    ·rw [e] at e2; cases e2
    ·exact e2
   ·have hj:=(List.getElem?_eq_some_iff.1 hy).1
    obtain ⟨z,h1,h2⟩:=h.row j (S[j]'(by rw [← h.lenU]; exact hj)) (by omega) (List.getElem?_eq_getElem _)
    rw [hy] at h1
    obtain rfl:=Option.some.inj h1
    exact new y c e (h2.lt c e).2 e1
theorem ExtT.add (h:ExtT B eb W k v vb S R us rv Z rus) {z:List (Int × Int)} {u rv':Value} (hu:W.ownsRow B 66 2 u z.length (cr encB z)) (hnr:∀ y ∈ rus,y.ownBlock = none ∨ y.ownBlock ≠ u.ownBlock) (hns:∀ j y,k ≤ j→us[j]? = some y→y.ownBlock = none ∨ y.ownBlock ≠ u.ownBlock)
  (heb:eb < W.heap.size) (ho:W'.ownsRow B 23 1 rv' (Z.length+1) (rus ++ [u])) (hg:W.grownBy W' rv.ownBlock) (hat:rv'.ownBlock = rv.ownBlock ∨ rv'.ownBlock = some W.heap.size) :
  ExtT B eb W' k v vb S R us rv' (Z ++ [z]) (rus ++ [u]):=by
 refine ⟨h.out.snoc (by decide) hu hnr ho hg,h.inp.kept hg h.tab,?_,fun j s hj hs=>?_,h.far,fun j y hj hy x hx=>?_,h.val.kept hg (ot_ne (by decide) h.val h.out.out),h.vfar,?_,h.bfar,?_⟩
 ·rcases hat with e | e
  ·rw [e]; exact h.tab
  ·rw [e]
   rcases e2:v.ownBlock with _ | b
   ·exact .inl rfl
   ·refine .inr fun e3=>?_
    have:=(h.inp.lt b e2).2
    have:=Option.some.inj e3
    omega
 ·obtain ⟨y,h1,h2⟩:=h.row j s hj hs
  exact ⟨y,h1,h2.kept hg (ot_ne (by decide) h2 h.out.out)⟩
 ·rcases List.mem_append.1 hx with h1 | h1
  ·exact h.sep j y hj hy x h1
  ·obtain rfl:=List.mem_singleton.1 h1
   exact hns j y hj hy
 ·exact (hg.block eb heb (fun e=>h.rfar e.symm)).trans h.box
 ·rcases hat with e | e
  ·rw [e]; exact h.rfar
  ·rw [e]
   intro e3
   have:=Option.some.inj e3
   omega
end
set_option maxHeartbeats 8000000 in
theorem ext1_ok (k:Nat) (u vb:Value) (G R:List (Int × Int)) (B eb:Nat) (w:World) (hk:k < R.length) (hsm:G.length ≤ 1000) (hu:w.ownsRow B 66 2 u G.length (cr encB G)) (hb:Vx w vb R) (hE_:w.heap[eb]? = some (.cells #[vb] 23 (0,0))) (hB:B ≤ w.heap.size) :
  Calls Tryz.prog 151 #[.int .i64 k,u,.pointer (some ⟨eb,0,none⟩)] w fun e w'=>∃ u',e = .returned u'∧w'.ownsRow B 66 2 u' (G.length+1) (cr encB G ++ encB (gI R k))∧w.grownBy w' u.ownBlock∧(u'.ownBlock = u.ownBlock ∨ ∃ b,u'.ownBlock = some b∧w.heap.size ≤ b):=by
 obtain ⟨i0,hi,hz0,hz1,hz2⟩:=info_parts info_ivB
 have hx:=g_of hk
 obtain ⟨⟨c,d⟩,hcd⟩:∃ t,gI R k = t:=⟨_,rfl⟩
 rw [hcd] at hx ⊢
 obtain ⟨p,cb,rfl⟩:=hb.cut
 obtain ⟨bb,ob,rfl,hbb,rd⟩:=vx_rd hb hx
 obtain ⟨x0,x1⟩:=rd ⟨w,Below.refl _ _⟩
 dsimp only at x0 x1
 have e0:=heapN_cellj hE_ (k:=0) rfl
 have i1:(k:Int) < R.length:=by omega
 obtain ⟨pu,cu,rfl⟩:=own_slice hu
 have HO:=Lib.hid (hu.alloc (.cells #[.int .i64 c,.int .i64 d] 66))
 have HN:=Lib.hid (two_at (c,d) (World.alloc_heap_new w (.cells #[.int .i64 c,.int .i64 d] 66)))
 have hsz:(w.alloc (.cells #[.int .i64 c,.int .i64 d] 66)).heap.size = w.heap.size+1:=by simp
 have HSZ:=Lib.hid hsz
 have HBZ:=Lib.hid hB
 have HG:=Lib.hid (gb_below (show Below w.heap.size w (w.alloc (.cells #[.int .i64 c,.int .i64 d] 66)) from (Below.refl _ _).alloc (Nat.le_refl _) _) (Value.slice pu G.length cu).ownBlock)
 clear hx hcd hb hbb rd hE_ hu hsz hB
 go_enter Tryz.func151,Tryz.ntmps151
 go_wp2_with (at_builtin; refine wpList_append_own_at _ rfl (.tmp 6) (.tmp 11) 23 rfl B 66 i0 (.agg #[.int .i64 0,.int .i64 0]) 2 16 Tryz.underlying23 hi hz0 hz1 hz2 rfl (by decide) (.slice pu G.length cu) G.length _ rfl HO.out ⟨w.heap.size,0,none⟩ 1 1 (encB (c,d)) rfl rfl HN.out (one_b _) (by unfold maxLen; omega) (by omega) (by have:=HBZ.out; have:=HSZ.out; omega) ?_)
 intro v' w10 hown hgrow _ hat
 have HOW:=Lib.hid hown
 have HGR:=Lib.hid (gb_trans HG.out hgrow)
 have HAT:=Lib.hid (show v'.ownBlock = (Value.slice pu G.length cu).ownBlock ∨ ∃ b,v'.ownBlock = some b∧w.heap.size ≤ b from hat.imp id fun e=>⟨_,e,by have:=HSZ.out; omega⟩)
 clear hown hgrow hat x0 x1 e0
 go_wp2_with (fail)
 go_ret
 exact ⟨_,rfl,HOW.out,HGR.out,HAT.out⟩
def KeepU (us:List Value) (w w':World):Prop:=∀ j,j < w.heap.size→(∀ u ∈ us,u.ownBlock ≠ some j)→w'.heap[j]? = w.heap[j]?
theorem one_sv (w:World) (x:Value) (h:x.oneCell' = true):∀ u ∈ [x],u.oneCell' = true:=fun u hu=>by
 obtain rfl:=List.mem_singleton.1 hu
 exact h
set_option maxHeartbeats 16000000 in
theorem map3_ok (v vb:Value) (S:List (List (Int × Int))) (R:List (Int × Int)) (us:List Value) (B eb:Nat) (w:World) (hl:R.length = S.length) (hsm:S.length ≤ 1000) (hrow:∀ r ∈ S,r.length ≤ 1000) (hB:B ≤ w.heap.size)
  (hT:∀ w6,Below w.heap.size w w6→∀ rv,w6.ownsRow w.heap.size 23 1 rv 0 []→rv.ownBlock = some w.heap.size→ExtT B eb w6 0 v vb S R us rv [] []) (heb:eb < w.heap.size) :
  Calls Tryz.prog 150 #[v,.func (.func 151) #[] #[.pointer (some ⟨eb,0,none⟩)]] w fun e w'=>∃ rv rus,e = .returned rv∧OwT encB 2 66 23 B w' rv (extI S R) rus∧Below B w w'∧KeepU us w w':=by
 obtain ⟨j0,hj,hy0,hy1,hy2⟩:=info_parts info_ivs
 obtain ⟨w6,hw6⟩:∃ w6,w.alloc (.cells (madeCells (Value.slice none 0 0).cells (S.length * 1)) 23) = w6:=⟨_,rfl⟩
 have qmk:(Instr.makeSlice 157 (.int .i64 0) (.int .i64 (S.length:Int))).run Tryz.prog w = .ok (.slice (some ⟨w.heap.size,0,none⟩) 0 S.length) w6:=by
  have:=run_make (P:=Tryz.prog) w 157 23 j0 _ Tryz.underlying157 hj hy0 .i64 .i64 0 S.length (Int.le_refl _) (by omega) (by rw [hy2]; omega) (by omega)
  rw [hy1] at this
  simpa [← hw6] using this
 have hr6:w6.ownsRow w.heap.size 23 1 (.slice (some ⟨w.heap.size,0,none⟩) 0 S.length) 0 []:=by
  rw [← hw6]
  exact World.ownsRow_made w _ S.length (Nat.le_refl _) (by unfold maxLen; omega) (size_madeCells _ _)
 have hb6:Below w.heap.size w w6:=by rw [← hw6]; exact (Below.refl _ w).alloc (Nat.le_refl _) _
 have HT6:=Lib.hid (hT w6 hb6 _ hr6 rfl)
 have hinp:=(hT w6 hb6 _ hr6 rfl).inp
 obtain ⟨pv,cv,rfl⟩:=own_slice hinp
 have HB6:=Lib.hid (hb6.mono hB)
 have HSZ6:=Lib.hid hb6.size
 have HK6:=Lib.hid (show KeepU us w w6 from fun j hj _=>hb6.block j hj)
 have HV6:=Lib.hid (show ∀ b,(Value.slice (some ⟨w.heap.size,0,none⟩) 0 S.length).ownBlock = some b→w.heap.size ≤ b from fun b e=>by obtain rfl:=Option.some.inj e; exact Nat.le_refl _)
 have HL:=Lib.hid hl
 have HRW:=Lib.hid hrow
 have HEB:=Lib.hid heb
 have HBZ:=Lib.hid hB
 have KE:=Lib.hid (fun (k:Nat) u G w h1 h2 h3 h4 h5 h6=>ext1_ok k u vb G R B eb w h1 h2 h3 h4 h5 h6)
 clear hw6 hr6 hb6 hT hinp hl hrow heb hB
 go_enter Tryz.func150,Tryz.ntmps150
 go_wp2_with (fail)
 clear qmk
 go_loopw [5,13] (fun z i wr=>∃ k:Nat,i = .int .i64 k∧k ≤ S.length∧(∃ rus,Hid (ExtT B eb wr k (.slice pv S.length cv) vb S R us z ((extI S R).take k) rus))∧Hid (Below B w wr)∧Hid (w.heap.size ≤ wr.heap.size)∧Hid (KeepU us w wr)∧Hid (∀ b,z.ownBlock = some b→w.heap.size ≤ b)) (fun z i _=>S.length - (intOf i).toNat)
 case atStart=>exact ⟨0,rfl,Nat.zero_le _,⟨_,HT6⟩,HB6,HSZ6,HK6,HV6⟩
 case round =>
  clear HT6 HB6 HSZ6 HK6 HV6
  obtain ⟨k,rfl,hk,⟨rus,HT⟩,HB,HSZ,HK,HV⟩:=hrel
  have hout:=HT.out.out.out
  have htl:((extI S R).take k).length = k:=by rw [List.length_take,extI_len HL.out]; omega
  rw [htl] at hout
  obtain ⟨pz,cz,rfl⟩:=own_slice hout
  clear hout
  by_cases hlt:k < S.length
  ·have i2:(k:Int) < S.length:=by omega
   have hxa:=gR_of hlt
   have hxr:=g_of (l:=R) (i:=k) (by rw [HL.out]; exact hlt)
   obtain ⟨u,hu1,hu2⟩:=HT.out.row k _ (Nat.le_refl _) hxa
   obtain ⟨O,hO⟩:∃ O,pv = some ⟨O,0,none⟩:=by
    obtain ⟨O,c,e,_⟩:=ot_cut HT.out.inp (by omega)
    cases e
    exact ⟨O,rfl⟩
   subst hO
   have hcu:wr.cell? ⟨O,k,none⟩ = some u:=by rw [HT.out.inp.cellAt k (by omega)]; exact hu1
   have hvb:=HT.out.val
   have hvx:Vx wr vb R:=Rx.own encB_len hvb (by rw [HL.out]; unfold maxLen; omega)
   have hsz:=HSZ.out
   have KE1:=Lib.hid (KE.out k u (gR S k) wr (by rw [HL.out]; exact hlt) (HRW.out _ (List.mem_of_getElem? hxa)) hu2 hvx HT.out.box (Nat.le_trans HBZ.out hsz))
   have HSN:=Lib.hid (extI_snoc hxa hxr)
   obtain ⟨pu,cu,rfl⟩:=own_slice hu2
   have HXA:=Lib.hid hxa
   have HU1:=Lib.hid hu1
   have HLU:=Lib.hid hu2
   clear hvb hvx hxa hxr hu1 hu2 KE
   generalize gR S k = G at *
   generalize gI R k = x at *
   go_wp2_with (fail)
   refine KE1.out.mono ?_
   rintro e w8 ⟨u',rfl,ho8,hg8,hat8⟩
   obtain ⟨ht8,hf1,hf2⟩:=HT.out.one HXA.out HU1.out hg8 hat8
   have hlz:(G ++ [x]).length = G.length+1:=by simp
   have hoz:w8.ownsRow B 66 2 u' (G ++ [x]).length (cr encB (G ++ [x])):=by rw [hlz,cr_snoc]; exact ho8
   obtain ⟨pu',cu',rfl⟩:=own_slice ho8
   have hB8:Below B w w8:=Below.grown HB.out hg8 (Nat.le_trans HBZ.out hsz) (fun i hi=>(HLU.out.lt i hi).1)
   have hs8:w.heap.size ≤ w8.heap.size:=Nat.le_trans hsz hg8.size
   obtain ⟨W9,hW9⟩:∃ W9,w8.alloc (.cells #[.slice pu' (G.length+1) cu'] 23) = W9:=⟨_,rfl⟩
   have hb9:Below w8.heap.size w8 W9:=by rw [← hW9]; exact (Below.refl _ _).alloc (Nat.le_refl _) _
   have hn9:∀ j y,[Value.slice pu' (G.length+1) cu'][j]? = some y→W9.cell? ((⟨w8.heap.size,0,none⟩:Addr).add j) = some y:=by rw [← hW9]; exact cell_one_new w8 _ _
   have HN9:=Lib.hid hn9
   have HT9:=Lib.hid (ht8.grow hb9)
   have HO9:=Lib.hid (ot_kept hoz hb9)
   have HF1:=Lib.hid hf1
   have HF2:=Lib.hid hf2
   have HB9:=Lib.hid (hB8.trans (hb9.mono (Nat.le_trans HBZ.out hs8)))
   have HS9:=Lib.hid (Nat.le_trans hs8 hb9.size)
   have hown9:=(ht8.grow hb9).out.out
   rw [htl] at hown9
   have HOWN9:=Lib.hid hown9
   have HTL:=Lib.hid htl
   have HK9:=Lib.hid (show KeepU us w W9 from fun j hj hn=>((hb9.block j (Nat.lt_of_lt_of_le hj hs8)).trans (hg8.block j (Nat.lt_of_lt_of_le hj hsz) (fun e=>hn _ (List.mem_of_getElem? HU1.out) e.symm))).trans (HK.out j hj hn))
   have hv9:∀ (p:Option Addr) (n c:Nat),¬ (p = none)→(Value.slice p n c ≠ .slice none 0 0):=fun p n c hp e=>hp (by cases e; rfl)
   clear ho8 hg8 hat8 ht8 hf1 hf2 hlz hoz hB8 hs8 hb9 hn9 hown9 HT HB HSZ HXA HU1 HLU KE1 hcu hsz htl HK hv9
   go_wp2_with (at_builtin; refine wpList_append_own_at _ rfl (.tmp 18) (.tmp 23) 157 rfl B 23 j0 (.slice none 0 0) 1 24 Tryz.underlying157 hj hy0 hy1 hy2 rfl (by decide) (.slice pz k cz) k _ rfl HOWN9.out ⟨w8.heap.size,0,none⟩ 1 1 [.slice pu' (G.length+1) cu'] rfl rfl HN9.out (one_sv w _ rfl) (by unfold maxLen; omega) (by omega) (Nat.le_trans HBZ.out HS9.out) ?_)
   intro v' w10 hown' hgrow _ hat
   have ht10:=HT9.out.add HO9.out HF1.out HF2.out (Nat.lt_of_lt_of_le HEB.out HS9.out) (by rw [HTL.out]; exact hown') hgrow hat
   rw [← HSN.out] at ht10
   have HT10:=Lib.hid ht10
   have HB10:=Lib.hid (Below.grown HB9.out hgrow (Nat.le_trans HBZ.out HS9.out) (fun i hi=>Nat.le_trans HBZ.out (HV.out i hi)))
   have HS10:=Lib.hid (Nat.le_trans HS9.out hgrow.size)
   have HK10:=Lib.hid (show KeepU us w w10 from fun j hj hn=>(hgrow.block j (Nat.lt_of_lt_of_le hj HS9.out) (fun e=>absurd (HV.out j e.symm) (by omega))).trans (HK9.out j hj hn))
   have HV10:=Lib.hid (show ∀ b,v'.ownBlock = some b→w.heap.size ≤ b from fun b e=>by
    rcases hat with h | h
    ·exact HV.out b (h ▸ e)
    ·rw [h] at e; obtain rfl:=Option.some.inj e; exact HS9.out)
   clear hown' hgrow hat ht10 HT9 HO9 HF1 HF2 HOWN9 HN9 HB9 HS9 HK9 HV hW9
   go_wp2_with (fail)
   go_roundw
   case rel=>exact ⟨k+1,by go_num,by omega,⟨_,HT10⟩,HB10,HS10,HK10,HV10⟩
   case measure=>simp [intOf]; omega
  ·obtain rfl:k = S.length:=by omega
   have i2:¬ (S.length:Int) < S.length:=by omega
   go_wp2_with (fail)
   go_ret
   have h:=HT.out.out
   rw [List.take_of_length_le (by rw [extI_len HL.out]; exact Nat.le_refl _)] at h
   exact ⟨_,rfl,⟨_,h⟩,HB.out,HK.out⟩
set_option maxHeartbeats 8000000 in
theorem extended_ok (v vr:Value) (S:List (List (Int × Int))) (R:List (Int × Int)) (us:List Value) (B:Nat) (w:World) (hl:R.length = S.length) (hsm:S.length ≤ 1000) (hrow:∀ r ∈ S,r.length ≤ 1000) (hB:B ≤ w.heap.size)
  (hT:OwT encB 2 66 23 B w v S us) (hr:w.ownsRow B 66 2 vr R.length (cr encB R)) (hfar:∀ u ∈ us,vr.ownBlock = none ∨ vr.ownBlock ≠ u.ownBlock) :
  Calls Tryz.prog 122 #[v,vr] w fun e w'=>∃ rv rus,e = .returned rv∧OwT encB 2 66 23 B w' rv (extI S R) rus∧Below B w w'∧KeepU us w w':=by
 obtain ⟨pv,cv,rfl⟩:=own_slice hT.out
 obtain ⟨pr,cr',rfl⟩:=own_slice hr
 rw [hl] at hr hfar ⊢
 obtain ⟨W1,hW1⟩:∃ W1,w.alloc (.cells #[.slice pr S.length cr'] 23) = W1:=⟨_,rfl⟩
 have hb1:Below w.heap.size w W1:=by rw [← hW1]; exact (Below.refl _ _).alloc (Nat.le_refl _) _
 have hx1:W1.heap[w.heap.size]? = some (.cells #[.slice pr S.length cr'] 23 (0,0)):=by rw [← hW1]; exact World.alloc_heap_new w _
 have hs1:W1.heap.size = w.heap.size+1:=by rw [← hW1]; simp
 have x0:=heapN_cellj hx1 (k:=0) rfl
 have lt:∀ u ∈ us,∀ b,u.ownBlock = some b→b < w.heap.size:=fun u hu b hb=>by
  obtain ⟨r,_,h⟩:=hT.mem hu
  exact (h.lt b hb).2
 have KM:=Lib.hid (map3_ok (.slice pv S.length cv) (.slice pr S.length cr') S R us B w.heap.size W1 hl hsm hrow (by omega) (fun w6 hb6 rv hrv hrb=>by
  have h6:=hb1.trans (hb6.mono (by omega))
  have hT6:=hT.grow h6
  refine ⟨⟨own_base hrv (by omega),fun i r hi=>(by simp at hi),fun i j u x hi=>(by simp at hi)⟩,hT6.out,?_,fun j r _ hj=>hT6.row j r hj,hT6.far,fun j u _ _ y hy=>(by cases hy),(by rw [hl]; exact own_keptN hr h6),hfar,(hb6.block _ (by omega)).trans hx1,fun u hu e=>(by have:=lt u hu _ e; omega),(by rw [hrb]; intro e; have:=Option.some.inj e; omega)⟩
  rcases e:(Value.slice pv S.length cv).ownBlock with _ | b
  ·exact .inl rfl
  ·refine .inr fun e2=>?_
   rw [hrb] at e2
   have:=Option.some.inj e2
   have:=(hT.out.lt b e).2
   omega) (by omega))
 have HB1:=Lib.hid hb1
 have HS1:=Lib.hid hs1
 have HBZ:=Lib.hid hB
 clear hl hsm hrow hB hT hr hfar hb1 hx1 hs1 lt
 go_enter Tryz.func122,Tryz.ntmps122
 go_wp2_with (fail)
 refine KM.out.mono ?_
 rintro e w8 ⟨rv,rus,rfl,h1,h2,h3⟩
 have H1:=Lib.hid h1
 have H2:=Lib.hid ((HB1.out.mono HBZ.out).trans h2)
 have H3:=Lib.hid (show KeepU us w w8 from fun j hj hn=>(h3 j (by have:=HS1.out; omega) hn).trans (HB1.out.block j hj))
 clear h1 h2 h3 KM hW1 x0
 go_wp2_with (fail)
 go_ret
 exact ⟨_,_,rfl,H1.out,H2.out,H3.out⟩
end Go.Proofs.YtdfdpghdjlgghaaGreat
