/-
 Ci
-/
import Derived.Test.YtdfdpghdjlgghaaGreatKda
import Derived.Test.YtdfdpghdjlgghaaGreatKdb
import Derived.Test.YtdfdpghdjlgghaaGreatKdj
import Derived.Test.YtdfdpghdjlgghaaGreatKds
import Derived.Test.YtdfdpghdjlgghaaGreatKdu
import Derived.Test.YtdfdpghdjlgghaaGreatKdzb
import Derived.Test.YtdfdpghdjlgghaaGreatKdzk
import Derived.OwnWalkIn
namespace Go.Proofs.YtdfdpghdjlgghaaGreat
open Go.ChangeShapes Go.WideShapes Go.ChangeAt Go.RowKit Go.Shelf
set_option linter.unusedVariables false
set_option linter.unusedSimpArgs false
set_option maxRecDepth 100000
attribute [local go_sem] Oper.semAt_some
attribute [local go_sem ↓] run_min_two
attribute [local irreducible] Calls
theorem cand_ok (o fi le mo wi F:Int) (w:World):Calls Tryz.prog 51 #[.agg #[.int .i64 o,.int .i64 fi,.int .i64 le,.int .i64 mo,.int .i64 wi],.int .i64 F] w fun e w'=>e = .returned (.func (.func 91) #[] #[.pointer (some ⟨w.heap.size+1,0,none⟩),.pointer (some ⟨w.heap.size,0,none⟩)])∧w' = (w.alloc (.cells #[.int .i64 o,.int .i64 fi,.int .i64 le,.int .i64 mo,.int .i64 wi] 25)).alloc (.cells #[.int .i64 F] 2):=by
 go_enter Tryz.func51,Tryz.ntmps51
 go_wp2_with (fail)
 go_ret
 exact ⟨rfl,rfl⟩
set_option maxHeartbeats 16000000 in
theorem cand_seq (n:Nat) (hn:2 ≤ n) (o fi le mo wi F:Int) (b1 b2:Nat) (w:World) (hF:Blk w b1 (.cells #[.int .i64 F] 2)) (hC:Blk w b2 (.cells #[.int .i64 o,.int .i64 fi,.int .i64 le,.int .i64 mo,.int .i64 wi] 25)) (f0:0 ≤ F) (f1:F < 4294967296) (hl:1 ≤ le) (hl2:le ≤ 4294967296) :
  SeqN Tryz.prog n 91 #[.pointer (some ⟨b1,0,none⟩),.pointer (some ⟨b2,0,none⟩)] (cntF le 40 F) (fun i xs W=>xs = #[.int .i64 (hlv F i)]) w:=by
 intro l J Jx W hW hlw hJl hJB hJxB hY hJ0
 obtain ⟨M,hM⟩:∃ M,cntF le 40 F = M:=⟨_,rfl⟩
 rw [hM] at hY ⊢
 have hM1:0 < M:=by
  rw [← hM]
  show 0 < if F / 2 < le then 1 else cntF le 39 (F / 2)+1
  split <;> omega
 have HM:=Lib.hid (show cntF le (40 - 0) (hlv F 0) = M - 0 from hM)
 have HM1:=Lib.hid hM1
 have HF:=Lib.hid hF
 have HC:=Lib.hid hC
 have HW:=Lib.hid hW
 have HY:=Lib.hid hY
 have HJB:=Lib.hid hJB
 have HJL:=Lib.hid hJl
 have HJXB:=Lib.hid hJxB
 have HJ0:=Lib.hid hJ0
 have HB:=Lib.hid (fun k=>hlv_bd f0 k)
 have KS:=Lib.hid (fun h w a b=>shrink_ok o fi le mo wi h w a b hl hl2)
 have HE:=Lib.hid (fun k (hk:k < 40)=>cnt_at (least:=le) (h:=F) hk)
 have HMO:=Lib.hid (fun k (hk:¬ hlv F k / 2 < le)=>adv_more (k:=k) f0 f1 hl hk)
 have HF1:=Lib.hid f1
 have HLE:=Lib.hid hl
 clear hF hC f0 f1 hl hl2 hM hM1 hW hY hJB hJl hJxB hJ0
 have x0:=heapN_cellj (HF.out.grow HW.out) (k:=0) rfl
 refine callsIn_of_wp Tryz.func91 rfl trivial ?_ rfl
 simp only [Tryz.ntmps91,List.size_toArray,List.length_cons,List.length_nil,Nat.reduceAdd,Nat.reduceSub,Array.replicate_succ,Array.replicate_zero,List.push_toArray,List.append_toArray,List.nil_append,List.cons_append]
 gi_wp2
 gi_loopw [4,5] (fun h e wr=>∃ k:Nat,(Hid (k < M∧k < 40)∧h = .int .i64 (hlv F k)∧e = .int .i64 0∧Hid (cntF le (40 - k) (hlv F k) = M - k) ∨ k = M∧h = .int .i64 0∧e = .int .i64 130)∧Hid (J k wr)∧Hid (Below w.heap.size w wr)) (fun h e _=>if intOf e = 0 then (intOf h).toNat+1 else 0)
 case atStart=>exact ⟨0,.inl ⟨⟨HM1.out,by decide⟩,rfl,rfl,HM⟩,HJ0,HW⟩
 case round =>
  obtain ⟨k,hk,HJ,HB0⟩:=hrel
  rcases hk with ⟨hk,rfl,rfl,HN⟩ | ⟨rfl,rfl,rfl⟩
  ·obtain ⟨hk1,hk2⟩:=hk.out
   have YY:=Lib.hid (HY.out k _ _ hk1 HJ.out rfl)
   obtain ⟨fn,tmps,assign,body,hy',hR⟩:=YY.out
   have HR:=Lib.hid hR
   have HLO:=Lib.hid (HJL.out _ _ HJ.out)
   have HN2:=Lib.hid ((HE.out k hk2).symm.trans HN.out)
   have HH:=Lib.hid (HB.out k)
   have HMK:=Lib.hid (HMO.out k)
   have HHN:hlv F (k+1) = hlv F k / 2:=rfl
   have HHN:=Lib.hid HHN
   obtain ⟨hh,hhe⟩:∃ hh,hlv F k = hh:=⟨_,rfl⟩
   rw [hhe] at hy' HN2 HH HMK HHN ⊢
   have HHE:=Lib.hid hhe
   clear hR YY HN HE HMO HB HY
   clear hhe
   gi_wp2
   refine ⟨fun _=>by omega,HR.out.mono ?_⟩
   rintro e w8 (⟨rfl,hJ8,hg8⟩ | ⟨rfl,hJ8⟩)
   ·have hb8:Below w.heap.size w w8:=gb_old hg8 hlw HB0.out HB0.out.size
    have c0:=heapN_cellj (HC.out.grow hb8) (k:=0) rfl
    have c1:=heapN_cellj (HC.out.grow hb8) (k:=1) rfl
    have c2:=heapN_cellj (HC.out.grow hb8) (k:=2) rfl
    have c3:=heapN_cellj (HC.out.grow hb8) (k:=3) rfl
    have c4:=heapN_cellj (HC.out.grow hb8) (k:=4) rfl
    have HJ8:=Lib.hid hJ8
    have HB8:=Lib.hid hb8
    have h0:=HH.out
    have KS1:=Lib.hid (KS.out hh w8 h0.1 (by have:=HF1.out; omega))
    clear hJ8 hg8 hb8 h0 HR hy' HB0 HJ x0
    by_cases hd:hh / 2 < le
    ·rw [if_pos hd] at KS1
     have hM:M = k+1:=by
      have:=HN2.out
      rw [if_pos hd] at this
      omega
     have HMM:=Lib.hid hM
     have HD:=Lib.hid hd
     clear hd hM
     gi_wp2_with (fail)
     refine ⟨trivial,fun _=>by omega,(callsIn_wide.2 KS1.out).mono ?_⟩
     rintro e w9 ⟨rfl,hB9⟩
     have HJ9:=Lib.hid (HJB.out _ _ _ HJ8.out hB9)
     have HB9:=Lib.hid (HB8.out.trans (hB9.mono HB8.out.size))
     clear hB9 c0 c1 c2 c3 c4
     gi_wp2
     go_roundw
     case rel=>exact ⟨k+1,.inr ⟨HMM.out.symm,rfl,rfl⟩,HJ9,HB9⟩
     case measure=>simp [intOf]
    ·rw [if_neg hd] at KS1
     have h2:=HN2.out
     rw [if_neg hd] at h2
     have HN3:=Lib.hid (show cntF le (40 - (k+1)) (hlv F (k+1)) = M - (k+1) by omega)
     have HK3:=Lib.hid (show k+1 < 40 from HMK.out (by omega))
     have hpos:0 < cntF le (40 - (k+1)) (hlv F (k+1)):=by
      obtain ⟨d,hd⟩:∃ d,40 - (k+1) = d+1:=⟨40 - (k+1) - 1,by have:=HK3.out; omega⟩
      rw [hd]
      show 0 < if hlv F (k+1) / 2 < le then 1 else cntF le d (hlv F (k+1) / 2)+1
      split <;> omega
     have h3:=HN3.out
     rw [h3] at hpos
     have HK4:=Lib.hid (show k+1 < M from Nat.lt_of_sub_pos hpos)
     have HD:=Lib.hid (show 0 ≤ hh / 2∧hh / 2 < hh by have:=HH.out; have:=HLE.out; omega)
     clear hd h2 h3 hpos
     gi_wp2_with (fail)
     refine ⟨trivial,fun _=>by omega,(callsIn_wide.2 KS1.out).mono ?_⟩
     rintro e w9 ⟨rfl,hB9⟩
     have HJ9:=Lib.hid (HJB.out _ _ _ HJ8.out hB9)
     have HB9:=Lib.hid (HB8.out.trans (hB9.mono HB8.out.size))
     clear hB9 c0 c1 c2 c3 c4
     gi_wp2
     go_roundw
     case rel=>exact ⟨k+1,.inl ⟨⟨HK4.out,HK3.out⟩,by rw [HHN.out],rfl,HN3⟩,HJ9,HB9⟩
     case measure =>
      have:=HD.out
      simp [intOf]
      omega
   ·gi_wp2
    first
     | (go_end0; exact ⟨⟨_,rfl⟩,.inr ⟨_,hJ8⟩⟩)
     | (refine bodyPost_ret (results_none rfl _ _ _) rfl ?_; exact ⟨⟨_,rfl⟩,.inr ⟨_,hJ8⟩⟩)
  ·gi_wp2
   refine ⟨fun f h=>(by cases h),?_⟩
   gi_wp2
   go_end0
   exact ⟨⟨_,rfl⟩,.inl HJ.out⟩
def AdV (B0:Nat) (W:World) (T F Hq mo:Int) (X:List (Int × Int)) (R:Option (Int × Sg)) (s:Value) (nx er:Int):Prop :=
 match R with
 | none=>s = .agg #[.int .i64 0,.int .i64 0,.slice none 0 0,.slice none 0 0,.slice none 0 0,.slice none 0 0]∧nx = 0∧er = 130
 | some (h,g)=>SgV B0 W T h X (some g) s∧nx = min (2 * (if h = F then Hq else h)) mo∧er = 0
def AdP (stp:Int→Option Sg) (le wi F:Int) (M:Nat) (R:Option (Int × Sg)) (i:Nat):Prop :=
 (i < M∧i < 40∧advF stp le wi (40 - i) (hlv F i) = R∧cntF le (40 - i) (hlv F i) = M - i) ∨ (i = M∧R = none)
theorem AdP.next {stp:Int→Option Sg} {le wi F:Int} {M:Nat} {R:Option (Int × Sg)} {i:Nat} (f0:0 ≤ F) (f1:F < 4294967296) (hl:1 ≤ le) (h:AdP stp le wi F M R i) (hi:i < M) (hn:tryC stp wi (hlv F i) = none):AdP stp le wi F M R (i+1):=by
 rcases h with ⟨_,h2,h3,h4⟩ | ⟨h1,_⟩
 ·rw [adv_at f0 f1 hl h2,hn] at h3
  rw [cnt_at h2] at h4
  by_cases hd:hlv F i / 2 < le
  ·simp only [if_pos hd] at h3 h4
   exact .inr ⟨by omega,h3.symm⟩
  ·simp only [if_neg hd] at h3 h4
   have h5:=adv_more f0 f1 hl hd
   have hpos:0 < cntF le (40 - (i+1)) (hlv F (i+1)):=by
    obtain ⟨d,hd⟩:∃ d,40 - (i+1) = d+1:=⟨40 - (i+1) - 1,by omega⟩
    rw [hd]
    show 0 < if hlv F (i+1) / 2 < le then 1 else cntF le d (hlv F (i+1) / 2)+1
    split <;> omega
   have h6:cntF le (40 - (i+1)) (hlv F (i+1)) = M - (i+1):=by omega
   rw [h6] at hpos
   exact .inl ⟨Nat.lt_of_sub_pos hpos,h5,h3,h6⟩
 ·omega
theorem AdP.hit {stp:Int→Option Sg} {le wi F:Int} {M:Nat} {R:Option (Int × Sg)} {i:Nat} {s:Sg} (f0:0 ≤ F) (f1:F < 4294967296) (hl:1 ≤ le) (h:AdP stp le wi F M R i) (hi:i < M) (hn:tryC stp wi (hlv F i) = some s):R = some (hlv F i,s):=by
 rcases h with ⟨_,h2,h3,h4⟩ | ⟨h1,_⟩
 ·rw [adv_at f0 f1 hl h2,hn] at h3
  exact h3.symm
 ·omega
theorem VxF.same {B:Nat} {W W':World} {v:Value} {l:List (Int × Int)} (h:VxF B W v l) (hs:W.heap.size ≤ W'.heap.size) (hk:∀ k,B ≤ k→k < W.heap.size→W'.heap[k]? = W.heap[k]?):VxF B W' v l:=by
 refine ⟨?_,h.2⟩
 obtain ⟨h1,p,c,rfl,h2⟩:=h.1
 refine ⟨h1,p,c,rfl,fun i x hx=>?_⟩
 obtain ⟨b,o,rfl,h3,h4⟩:=h2 i x hx
 have hb:B ≤ b:=h.2 b rfl
 refine ⟨b,o,rfl,Nat.lt_of_lt_of_le h3 hs,fun j z hz=>?_⟩
 have:=h4 j z hz
 unfold World.cell? at this ⊢
 rw [hk b hb h3]
 exact this
theorem SgV.same {B0:Nat} {W W':World} {T H:Int} {X:List (Int × Int)} {o:Option Sg} {v:Value} (h:SgV B0 W T H X o v) (hs:W.heap.size ≤ W'.heap.size) (hk:∀ k,B0 ≤ k→k < W.heap.size→W'.heap[k]? = W.heap[k]?):SgV B0 W' T H X o v:=by
 match o,h with
 | none,h=>exact h
 | some (B,V,E),⟨a,b,c,d,e,f,g,i,h1,h2,h3,h4,h5⟩=>exact ⟨a,b,c,d,e,f,g,i,h1,h2.same hs hk,h3.same hs hk,h4.same hs hk,h5.same hs hk⟩
theorem heap_keep {W:World} {X k:Nat} (v:Value) (h:k ≠ X):(W.setCell ⟨X,0,none⟩ v).heap[k]? = W.heap[k]?:=by
 unfold World.setCell
 simp [Array.getElem?_modify,Ne.symm h]
theorem SgV.put {B0:Nat} {W:World} {T H:Int} {X:List (Int × Int)} {og:Option Sg} {v:Value} {k:Nat} {o o':Obj} (h:SgV B0 W T H X og v) (hk:W.heap[k]? = some o) (hn:o.isCells = false):SgV B0 (W.putObj k o') T H X og v:=by
 match og,h with
 | none,h=>exact h
 | some (B,V,E),⟨a,b,c,d,e,f,g,i,h1,h2,h3,h4,h5⟩=>exact ⟨a,b,c,d,e,f,g,i,h1,vxf_put h2 hk hn,vxf_put h3 hk hn,vxf_put h4 hk hn,vxf_put h5 hk hn⟩
theorem stp_av {N T H:Int} {L:List Is} {O:List Int} {X B V E:List (Int × Int)} {K:Nat} (htv:tvB N L O = true) (hXN:(X.length:Int) = N) (hvx:AV X) (ht1:-1048576 ≤ T) (ht2:T ≤ 1048576) (h0:0 ≤ H) (h1:H ≤ 1000000) (h:stpI L O X T H K = some (B,V,E)):AV B∧AV V∧AV E∧B.length = X.length∧V.length = X.length∧E.length = X.length:=by
 unfold stpI at h
 cases hq:encR (imgT L O T H X) X with
 | none=>rw [hq] at h; cases h
 | some D =>
  rw [hq] at h
  obtain ⟨f1,f2,_⟩:=encl_facts htv hXN hvx ht1 ht2 h0 h1 hq
  have hH:VI H H:=.inr ⟨⟨by omega,by omega⟩,⟨by omega,by omega⟩,Int.le_refl _⟩
  have htt:VI T T:=.inr ⟨⟨by omega,by omega⟩,⟨by omega,by omega⟩,Int.le_refl _⟩
  have hDN:(D.length:Int) = N:=by omega
  have h':(if bndB (encA L O X D T H (0,H) K) && bndB (encA L O X D T H (H,H) K) then some (D,encA L O X D T H (0,H) K,encA L O X D T H (H,H) K) else none) = some (B,V,E):=h
  split at h'
  ·simp only [Option.some.injEq,Prod.mk.injEq] at h'
   obtain ⟨rfl,rfl,rfl⟩:=h'
   exact ⟨f2,encA_av htv hXN hDN hvx f2 htt (time_vi ht1 ht2 h0 h1) (num_vi h0 h1),encA_av htv hXN hDN hvx f2 htt (time_vi ht1 ht2 h0 h1) hH,f1,encA_len f1,encA_len f1⟩
  ·cases h'
theorem wpListIn_store_row {Fe:Fence} {n:Nat} {P:Program} {ops:Array Oper} {rest:List Oper} {o:Oper} {a:Act} {w:World} {Q:Exit→Act→World→Prop} (hgd:o.guard = none) (ty:TypeId) (x y:Operand) (ho:o.op = .store ty x y)
  (g:Nat) (cells:Array Value) (hx:a.eval x = .pointer (some ⟨g,0,none⟩)) (hy:a.eval y = .agg cells)
  (t:TypeId) (old:Array Value) (hg:w.heap[g]? = some (.cells old t (0,0))) (hi:(P.info? ty).map (·.size) = some cells.size)
  (hold:old.size = cells.size) (h1:cells.all (·.oneCell') = true)
  (h:wpListIn Fe n P ops Q rest (a.put o.dst undef) (w.setRow g cells)):wpListIn Fe n P ops Q (o :: rest) a w:=by
 refine wpListIn_plain hgd fun K hK=>?_
 unfold Oper.wpIn
 refine ⟨?_,?_⟩
 ·simp [Oper.about,ho]
 ·rw [Oper.semAt_plain Fe _ _ (by rw [ho]; intro c hc'; cases hc'),exec_store_row ty x y ho g cells hx hy t old hg hi hold h1,Oper.uponIn_skip]
  exact hK _ _ h
set_option maxHeartbeats 16000000 in
theorem adv_in (n:Nat) (hn:4 ≤ n) (N T La Hq F fi le mo wi:Int) (K:Nat) (vl vo vx:Value) (L:List Is) (O:List Int) (X:List (Int × Int)) (w:World) (hl:Ix w vl L) (ho:Px w vo O) (hx:Vx w vx X) (htv:tvB N L O = true) (hN1:NmL L) (hXN:(X.length:Int) = N) (hvx:AV X) (ht1:-1048576 ≤ T) (ht2:T ≤ 1048576) (hK:K+1 ≤ 8)
  (hF:min Hq (La - T) = F) (f1:1 ≤ F) (f2:F ≤ 1000000) (hq0:0 ≤ Hq) (hq:Hq ≤ 4294967295) (hla1:-4294967296 ≤ La) (hla2:La ≤ 4294967296) (hle:1 ≤ le) (hle2:le ≤ 4294967296) (hmo:-4294967296 ≤ mo∧mo ≤ 4294967296) (R:Option (Int × Sg)) (hR:advI (fun h=>stpI L O X T h K) le wi F = R) :
  CallsIn Fence.wide n Tryz.prog 15 #[.agg #[.int .i64 N,vl,vo],vx,.agg #[.int .i64 K,.int .i64 fi,.int .i64 le,.int .i64 mo,.int .i64 wi,.int .i64 T,.int .i64 La,.int .i64 Hq]] w fun e w'=>∃ s nx er,e = .returned (.tuple #[s,.int .i64 nx,.int .i64 er])∧AdV w.heap.size w' T F Hq mo X R s nx er∧Below w.heap.size w w':=by
 obtain ⟨pl,cl,rfl⟩:=hl.cut
 obtain ⟨po,co,rfl⟩:=ho.cut
 obtain ⟨px,cx,rfl⟩:=hx.cut
 obtain ⟨M,hM⟩:∃ M,cntF le 40 F = M:=⟨_,rfl⟩
 have hM1:0 < M:=by
  rw [← hM]
  show 0 < if F / 2 < le then 1 else cntF le 39 (F / 2)+1
  split <;> omega
 have f0:0 ≤ F:=by omega
 have f3:F < 4294967296:=by omega
 have HP0:=Lib.hid (show AdP (fun h=>stpI L O X T h K) le wi F M R 0 from .inl ⟨hM1,by decide,hR,hM⟩)
 have KI:=Lib.hid (fun h w a b c r (h0:0 ≤ h) (h1:h ≤ 1000000) hr=>IntervalStep_ok N T h (.slice pl L.length cl) (.slice po O.length co) (.slice px X.length cx) L O X K w a b c htv hN1 hXN hvx ht1 ht2 h0 h1 hK r hr)
 have KN:=Lib.hid (fun i (P:AdP (fun h=>stpI L O X T h K) le wi F M R i) hi hn=>AdP.next f0 f3 hle P hi hn)
 have KH:=Lib.hid (fun i s (P:AdP (fun h=>stpI L O X T h K) le wi F M R i) hi hn=>AdP.hit (s:=s) f0 f3 hle P hi hn)
 have HBD:=Lib.hid (fun i=>hlv_bd f0 i)
 have KAV:=Lib.hid (fun h B V E (h0:0 ≤ h) (h1:h ≤ 1000000) e=>stp_av (H:=h) (B:=B) (V:=V) (E:=E) (K:=K) htv hXN hvx ht1 ht2 h0 h1 e)
 have HLT:=Lib.hid (fun i=>hlv_lt f1 i)
 have AS:=Lib.hid (fun (b1 b2:Nat) (w':World) (a:Blk w' b1 (.cells #[.int .i64 F] 2)) (b:Blk w' b2 (.cells #[.int .i64 K,.int .i64 fi,.int .i64 le,.int .i64 mo,.int .i64 wi] 25))=>cand_seq (n - 1) (by omega) K fi le mo wi F b1 b2 w' a b f0 f3 hle hle2)
 rw [hM] at AS
 have KC:=Lib.hid (fun w=>cand_ok K fi le mo wi F w)
 have HF2:=Lib.hid f2
 have hE:Below w.heap.size w (((((((w.alloc (.cells #[.int .i64 N,.slice pl L.length cl,.slice po O.length co] 35)).alloc (.cells #[.slice px X.length cx] 23)).alloc (.cells #[.int .i64 K,.int .i64 fi,.int .i64 le,.int .i64 mo,.int .i64 wi,.int .i64 T,.int .i64 La,.int .i64 Hq] 27)).alloc (.cells #[.int .i64 0,.int .i64 0,.slice none 0 0,.slice none 0 0,.slice none 0 0,.slice none 0 0] 39)).alloc (.cells #[.int .i64 0] 2)).alloc (.cells #[.int .i64 0] 40)).alloc (.cells #[.int .i64 F] 2)):=allocs_below [.cells #[.int .i64 N,.slice pl L.length cl,.slice po O.length co] 35,.cells #[.slice px X.length cx] 23,.cells #[.int .i64 K,.int .i64 fi,.int .i64 le,.int .i64 mo,.int .i64 wi,.int .i64 T,.int .i64 La,.int .i64 Hq] 27,.cells #[.int .i64 0,.int .i64 0,.slice none 0 0,.slice none 0 0,.slice none 0 0,.slice none 0 0] 39,.cells #[.int .i64 0] 2,.cells #[.int .i64 0] 40,.cells #[.int .i64 F] 2] w
 have HTP:=Lib.hid (show Blk (((((((w.alloc (.cells #[.int .i64 N,.slice pl L.length cl,.slice po O.length co] 35)).alloc (.cells #[.slice px X.length cx] 23)).alloc (.cells #[.int .i64 K,.int .i64 fi,.int .i64 le,.int .i64 mo,.int .i64 wi,.int .i64 T,.int .i64 La,.int .i64 Hq] 27)).alloc (.cells #[.int .i64 0,.int .i64 0,.slice none 0 0,.slice none 0 0,.slice none 0 0,.slice none 0 0] 39)).alloc (.cells #[.int .i64 0] 2)).alloc (.cells #[.int .i64 0] 40)).alloc (.cells #[.int .i64 F] 2)) (w.heap.size) (.cells #[.int .i64 N,.slice pl L.length cl,.slice po O.length co] 35) from allocs_at [.cells #[.int .i64 N,.slice pl L.length cl,.slice po O.length co] 35,.cells #[.slice px X.length cx] 23,.cells #[.int .i64 K,.int .i64 fi,.int .i64 le,.int .i64 mo,.int .i64 wi,.int .i64 T,.int .i64 La,.int .i64 Hq] 27,.cells #[.int .i64 0,.int .i64 0,.slice none 0 0,.slice none 0 0,.slice none 0 0,.slice none 0 0] 39,.cells #[.int .i64 0] 2,.cells #[.int .i64 0] 40,.cells #[.int .i64 F] 2] w 0 _ rfl)
 have HX1:=Lib.hid (show Blk (((((((w.alloc (.cells #[.int .i64 N,.slice pl L.length cl,.slice po O.length co] 35)).alloc (.cells #[.slice px X.length cx] 23)).alloc (.cells #[.int .i64 K,.int .i64 fi,.int .i64 le,.int .i64 mo,.int .i64 wi,.int .i64 T,.int .i64 La,.int .i64 Hq] 27)).alloc (.cells #[.int .i64 0,.int .i64 0,.slice none 0 0,.slice none 0 0,.slice none 0 0,.slice none 0 0] 39)).alloc (.cells #[.int .i64 0] 2)).alloc (.cells #[.int .i64 0] 40)).alloc (.cells #[.int .i64 F] 2)) (w.heap.size+1) (.cells #[.slice px X.length cx] 23) from allocs_at [.cells #[.int .i64 N,.slice pl L.length cl,.slice po O.length co] 35,.cells #[.slice px X.length cx] 23,.cells #[.int .i64 K,.int .i64 fi,.int .i64 le,.int .i64 mo,.int .i64 wi,.int .i64 T,.int .i64 La,.int .i64 Hq] 27,.cells #[.int .i64 0,.int .i64 0,.slice none 0 0,.slice none 0 0,.slice none 0 0,.slice none 0 0] 39,.cells #[.int .i64 0] 2,.cells #[.int .i64 0] 40,.cells #[.int .i64 F] 2] w 1 _ rfl)
 have HRQ:=Lib.hid (show Blk (((((((w.alloc (.cells #[.int .i64 N,.slice pl L.length cl,.slice po O.length co] 35)).alloc (.cells #[.slice px X.length cx] 23)).alloc (.cells #[.int .i64 K,.int .i64 fi,.int .i64 le,.int .i64 mo,.int .i64 wi,.int .i64 T,.int .i64 La,.int .i64 Hq] 27)).alloc (.cells #[.int .i64 0,.int .i64 0,.slice none 0 0,.slice none 0 0,.slice none 0 0,.slice none 0 0] 39)).alloc (.cells #[.int .i64 0] 2)).alloc (.cells #[.int .i64 0] 40)).alloc (.cells #[.int .i64 F] 2)) (w.heap.size+1+1) (.cells #[.int .i64 K,.int .i64 fi,.int .i64 le,.int .i64 mo,.int .i64 wi,.int .i64 T,.int .i64 La,.int .i64 Hq] 27) from allocs_at [.cells #[.int .i64 N,.slice pl L.length cl,.slice po O.length co] 35,.cells #[.slice px X.length cx] 23,.cells #[.int .i64 K,.int .i64 fi,.int .i64 le,.int .i64 mo,.int .i64 wi,.int .i64 T,.int .i64 La,.int .i64 Hq] 27,.cells #[.int .i64 0,.int .i64 0,.slice none 0 0,.slice none 0 0,.slice none 0 0,.slice none 0 0] 39,.cells #[.int .i64 0] 2,.cells #[.int .i64 0] 40,.cells #[.int .i64 F] 2] w 2 _ rfl)
 have HZ:=Lib.hid (show Blk (((((((w.alloc (.cells #[.int .i64 N,.slice pl L.length cl,.slice po O.length co] 35)).alloc (.cells #[.slice px X.length cx] 23)).alloc (.cells #[.int .i64 K,.int .i64 fi,.int .i64 le,.int .i64 mo,.int .i64 wi,.int .i64 T,.int .i64 La,.int .i64 Hq] 27)).alloc (.cells #[.int .i64 0,.int .i64 0,.slice none 0 0,.slice none 0 0,.slice none 0 0,.slice none 0 0] 39)).alloc (.cells #[.int .i64 0] 2)).alloc (.cells #[.int .i64 0] 40)).alloc (.cells #[.int .i64 F] 2)) (w.heap.size+1+1+1) (.cells #[.int .i64 0,.int .i64 0,.slice none 0 0,.slice none 0 0,.slice none 0 0,.slice none 0 0] 39) from allocs_at [.cells #[.int .i64 N,.slice pl L.length cl,.slice po O.length co] 35,.cells #[.slice px X.length cx] 23,.cells #[.int .i64 K,.int .i64 fi,.int .i64 le,.int .i64 mo,.int .i64 wi,.int .i64 T,.int .i64 La,.int .i64 Hq] 27,.cells #[.int .i64 0,.int .i64 0,.slice none 0 0,.slice none 0 0,.slice none 0 0,.slice none 0 0] 39,.cells #[.int .i64 0] 2,.cells #[.int .i64 0] 40,.cells #[.int .i64 F] 2] w 3 _ rfl)
 have HZ7:=Lib.hid (show Blk (((((((w.alloc (.cells #[.int .i64 N,.slice pl L.length cl,.slice po O.length co] 35)).alloc (.cells #[.slice px X.length cx] 23)).alloc (.cells #[.int .i64 K,.int .i64 fi,.int .i64 le,.int .i64 mo,.int .i64 wi,.int .i64 T,.int .i64 La,.int .i64 Hq] 27)).alloc (.cells #[.int .i64 0,.int .i64 0,.slice none 0 0,.slice none 0 0,.slice none 0 0,.slice none 0 0] 39)).alloc (.cells #[.int .i64 0] 2)).alloc (.cells #[.int .i64 0] 40)).alloc (.cells #[.int .i64 F] 2)) (w.heap.size+1+1+1+1) (.cells #[.int .i64 0] 2) from allocs_at [.cells #[.int .i64 N,.slice pl L.length cl,.slice po O.length co] 35,.cells #[.slice px X.length cx] 23,.cells #[.int .i64 K,.int .i64 fi,.int .i64 le,.int .i64 mo,.int .i64 wi,.int .i64 T,.int .i64 La,.int .i64 Hq] 27,.cells #[.int .i64 0,.int .i64 0,.slice none 0 0,.slice none 0 0,.slice none 0 0,.slice none 0 0] 39,.cells #[.int .i64 0] 2,.cells #[.int .i64 0] 40,.cells #[.int .i64 F] 2] w 4 _ rfl)
 have HZ8:=Lib.hid (show Blk (((((((w.alloc (.cells #[.int .i64 N,.slice pl L.length cl,.slice po O.length co] 35)).alloc (.cells #[.slice px X.length cx] 23)).alloc (.cells #[.int .i64 K,.int .i64 fi,.int .i64 le,.int .i64 mo,.int .i64 wi,.int .i64 T,.int .i64 La,.int .i64 Hq] 27)).alloc (.cells #[.int .i64 0,.int .i64 0,.slice none 0 0,.slice none 0 0,.slice none 0 0,.slice none 0 0] 39)).alloc (.cells #[.int .i64 0] 2)).alloc (.cells #[.int .i64 0] 40)).alloc (.cells #[.int .i64 F] 2)) (w.heap.size+1+1+1+1+1) (.cells #[.int .i64 0] 40) from allocs_at [.cells #[.int .i64 N,.slice pl L.length cl,.slice po O.length co] 35,.cells #[.slice px X.length cx] 23,.cells #[.int .i64 K,.int .i64 fi,.int .i64 le,.int .i64 mo,.int .i64 wi,.int .i64 T,.int .i64 La,.int .i64 Hq] 27,.cells #[.int .i64 0,.int .i64 0,.slice none 0 0,.slice none 0 0,.slice none 0 0,.slice none 0 0] 39,.cells #[.int .i64 0] 2,.cells #[.int .i64 0] 40,.cells #[.int .i64 F] 2] w 5 _ rfl)
 have HFB:=Lib.hid (show Blk (((((((w.alloc (.cells #[.int .i64 N,.slice pl L.length cl,.slice po O.length co] 35)).alloc (.cells #[.slice px X.length cx] 23)).alloc (.cells #[.int .i64 K,.int .i64 fi,.int .i64 le,.int .i64 mo,.int .i64 wi,.int .i64 T,.int .i64 La,.int .i64 Hq] 27)).alloc (.cells #[.int .i64 0,.int .i64 0,.slice none 0 0,.slice none 0 0,.slice none 0 0,.slice none 0 0] 39)).alloc (.cells #[.int .i64 0] 2)).alloc (.cells #[.int .i64 0] 40)).alloc (.cells #[.int .i64 F] 2)) (w.heap.size+1+1+1+1+1+1) (.cells #[.int .i64 F] 2) from allocs_at [.cells #[.int .i64 N,.slice pl L.length cl,.slice po O.length co] 35,.cells #[.slice px X.length cx] 23,.cells #[.int .i64 K,.int .i64 fi,.int .i64 le,.int .i64 mo,.int .i64 wi,.int .i64 T,.int .i64 La,.int .i64 Hq] 27,.cells #[.int .i64 0,.int .i64 0,.slice none 0 0,.slice none 0 0,.slice none 0 0,.slice none 0 0] 39,.cells #[.int .i64 0] 2,.cells #[.int .i64 0] 40,.cells #[.int .i64 F] 2] w 6 _ rfl)
 have HW:=Lib.hid hE
 have HL:=Lib.hid (hl.grow hE)
 have HO:=Lib.hid (ho.grow hE)
 have HX:=Lib.hid (hx.grow hE)
 have HSZ:=Lib.hid (show (((((((w.alloc (.cells #[.int .i64 N,.slice pl L.length cl,.slice po O.length co] 35)).alloc (.cells #[.slice px X.length cx] 23)).alloc (.cells #[.int .i64 K,.int .i64 fi,.int .i64 le,.int .i64 mo,.int .i64 wi,.int .i64 T,.int .i64 La,.int .i64 Hq] 27)).alloc (.cells #[.int .i64 0,.int .i64 0,.slice none 0 0,.slice none 0 0,.slice none 0 0,.slice none 0 0] 39)).alloc (.cells #[.int .i64 0] 2)).alloc (.cells #[.int .i64 0] 40)).alloc (.cells #[.int .i64 F] 2)).heap.size = w.heap.size+7 from by simp)
 have c0:=heapN_cellj HRQ.out (k:=0) rfl
 have c1:=heapN_cellj HRQ.out (k:=1) rfl
 have c2:=heapN_cellj HRQ.out (k:=2) rfl
 have c3:=heapN_cellj HRQ.out (k:=3) rfl
 have c4:=heapN_cellj HRQ.out (k:=4) rfl
 have c5:=heapN_cellj (allocs_at [.cells #[.int .i64 N,.slice pl L.length cl,.slice po O.length co] 35,.cells #[.slice px X.length cx] 23,.cells #[.int .i64 K,.int .i64 fi,.int .i64 le,.int .i64 mo,.int .i64 wi,.int .i64 T,.int .i64 La,.int .i64 Hq] 27,.cells #[.int .i64 0,.int .i64 0,.slice none 0 0,.slice none 0 0,.slice none 0 0,.slice none 0 0] 39,.cells #[.int .i64 0] 2,.cells #[.int .i64 0] 40] w 2 _ rfl) (k:=5) rfl
 have c6:=heapN_cellj (allocs_at [.cells #[.int .i64 N,.slice pl L.length cl,.slice po O.length co] 35,.cells #[.slice px X.length cx] 23,.cells #[.int .i64 K,.int .i64 fi,.int .i64 le,.int .i64 mo,.int .i64 wi,.int .i64 T,.int .i64 La,.int .i64 Hq] 27,.cells #[.int .i64 0,.int .i64 0,.slice none 0 0,.slice none 0 0,.slice none 0 0,.slice none 0 0] 39,.cells #[.int .i64 0] 2,.cells #[.int .i64 0] 40] w 2 _ rfl) (k:=6) rfl
 have c7:=heapN_cellj (allocs_at [.cells #[.int .i64 N,.slice pl L.length cl,.slice po O.length co] 35,.cells #[.slice px X.length cx] 23,.cells #[.int .i64 K,.int .i64 fi,.int .i64 le,.int .i64 mo,.int .i64 wi,.int .i64 T,.int .i64 La,.int .i64 Hq] 27,.cells #[.int .i64 0,.int .i64 0,.slice none 0 0,.slice none 0 0,.slice none 0 0,.slice none 0 0] 39,.cells #[.int .i64 0] 2,.cells #[.int .i64 0] 40] w 2 _ rfl) (k:=7) rfl
 have u0:=heapN_cellj HFB.out (k:=0) rfl
 clear hE hl ho hx htv hXN hvx hK hR hM hM1 f0 f3 f1 f2
 refine callsIn_of_wp_marks Tryz.func15 rfl trivial ?_ rfl
 simp only [Tryz.ntmps15,List.size_toArray,List.length_cons,List.length_nil,Nat.reduceAdd,Nat.reduceSub,Array.replicate_succ,Array.replicate_zero,List.push_toArray,List.append_toArray,List.nil_append,List.cons_append]
 gi_wp2_with (fail)
 generalize hW7:World.alloc (World.alloc (World.alloc (World.alloc (World.alloc (World.alloc (World.alloc w _) _) _) _) _) _) _ = W7 at *
 clear hW7 c0 c1 c2 c3 c4 c5 c6 c7 u0 hF
 refine ⟨trivial,fun _=>by omega,(callsIn_wide.2 (KC.out _)).mono ?_⟩
 rintro e w9 ⟨rfl,rfl⟩
 obtain ⟨W9,hW9⟩:∃ W9,(W7.alloc (.cells #[.int .i64 K,.int .i64 fi,.int .i64 le,.int .i64 mo,.int .i64 wi] 25)).alloc (.cells #[.int .i64 F] 2) = W9:=⟨_,rfl⟩
 have hb9:Below W7.heap.size W7 W9:=by rw [← hW9]; exact allocs_below [.cells #[.int .i64 K,.int .i64 fi,.int .i64 le,.int .i64 mo,.int .i64 wi] 25,.cells #[.int .i64 F] 2] W7
 have B2:=Lib.hid (show Blk W9 W7.heap.size (.cells #[.int .i64 K,.int .i64 fi,.int .i64 le,.int .i64 mo,.int .i64 wi] 25) from by rw [← hW9]; exact allocs_at [.cells #[.int .i64 K,.int .i64 fi,.int .i64 le,.int .i64 mo,.int .i64 wi] 25,.cells #[.int .i64 F] 2] W7 0 _ rfl)
 have B1:=Lib.hid (show Blk W9 (W7.heap.size+1) (.cells #[.int .i64 F] 2) from by rw [← hW9]; exact allocs_at [.cells #[.int .i64 K,.int .i64 fi,.int .i64 le,.int .i64 mo,.int .i64 wi] 25,.cells #[.int .i64 F] 2] W7 1 _ rfl)
 rw [hW9]
 have HB9:=Lib.hid (below_then HW.out hb9)
 have TP9:=Lib.hid (HTP.out.grow hb9)
 have X9:=Lib.hid (HX1.out.grow hb9)
 have RQ9:=Lib.hid (HRQ.out.grow hb9)
 have Z9:=Lib.hid (show W9.heap[w.heap.size+1+1+1]? = some (.cells #[.int .i64 0,.int .i64 0,.slice none 0 0,.slice none 0 0,.slice none 0 0,.slice none 0 0] 39 (0,0)) from HZ.out.grow hb9)
 have Z79:=Lib.hid (show Boxed W9 (w.heap.size+1+1+1+1) 2 (.int .i64 0) from HZ7.out.grow hb9)
 have Z89:=Lib.hid (show Boxed W9 (w.heap.size+1+1+1+1+1) 40 (.int .i64 0) from HZ8.out.grow hb9)
 have F9:=Lib.hid (HFB.out.grow hb9)
 have L9:=Lib.hid (HL.out.grow hb9)
 have O9:=Lib.hid (HO.out.grow hb9)
 have XX9:=Lib.hid (HX.out.grow hb9)
 have hs9:w.heap.size+7 ≤ W9.heap.size:=by have:=hb9.size; have:=HSZ.out; omega
 have HS9:=Lib.hid hs9
 clear hW9 hb9 hs9 HTP HX1 HRQ HZ HZ7 HZ8 HFB HL HO HX HW HSZ KC
 gi_wp2_with (fail)
 refine rf_nat n (by omega) (gf:=91) (lb:=#[.pointer (some ⟨W7.heap.size+1,0,none⟩),.pointer (some ⟨W7.heap.size,0,none⟩)]) rfl (enters_of Tryz.func91 (by kernel_rfl) rfl) M _ ?hYs
  (fun k=>AdP (fun h=>stpI L O X T h K) le wi F M R k)
  (fun c i W=>Below w.heap.size w W∧c = .ret∧∃ h g cs nx,R = some (h,g)∧SgV (w.heap.size+7) W T h X (some g) (.agg cs)∧W.heap[w.heap.size+1+1+1]? = some (.cells cs 39 (0,0))∧Boxed W (w.heap.size+1+1+1+1) 2 (.int .i64 nx)∧Boxed W (w.heap.size+1+1+1+1+1) 40 (.int .i64 0)∧nx = min (2 * (if h = F then Hq else h)) mo)
  (AS.out _ _ W9 B1.out B2.out) ?hIx ?hIxB
  (fun i xs a' W=>xs = #[.int .i64 (hlv F i)]∧a' = { tmps:=#[.agg #[.int .i64 N,.slice pl L.length cl,.slice po O.length co],.slice px X.length cx,.agg #[.int .i64 K,.int .i64 fi,.int .i64 le,.int .i64 mo,.int .i64 wi,.int .i64 T,.int .i64 La,.int .i64 Hq],.pointer (some ⟨w.heap.size,0,none⟩),.pointer (some ⟨w.heap.size+1,0,none⟩),.pointer (some ⟨w.heap.size+1+1,0,none⟩),.pointer (some ⟨w.heap.size+1+1+1,0,none⟩),.pointer (some ⟨w.heap.size+1+1+1+1,0,none⟩),.pointer (some ⟨w.heap.size+1+1+1+1+1,0,none⟩),.pointer (some ⟨w.heap.size+1+1+1+1+1+1,0,none⟩),.int .i64 (hlv F i),undef,undef,.pointer (some ⟨w.heap.size+1+1,7,none⟩),.int .i64 Hq,.pointer (some ⟨w.heap.size+1+1,6,none⟩),.int .i64 La,.pointer (some ⟨w.heap.size+1+1,5,none⟩),.int .i64 T,.int .i64 (La - T),.int .i64 F,.pointer (some ⟨w.heap.size+1+1,0,none⟩),.agg #[.int .i64 K,.int .i64 fi,.int .i64 le,.int .i64 mo,.int .i64 wi],.int .i64 F,.func (.func 91) #[] #[.pointer (some ⟨W7.heap.size+1,0,none⟩),.pointer (some ⟨W7.heap.size,0,none⟩)],.int .i64 (hlv F i),undef,undef,undef,undef,undef,undef,undef,undef,undef,undef,undef,undef,undef,undef,undef,undef,undef,undef,undef,undef,undef,undef,undef,undef,undef,undef,undef,undef,undef,undef,undef,undef,undef],defers:=[] }) ?hAx HP0.out ?hassign ?hbody ?hdone ?hstop
 case hYs=>rintro i xs W rfl; rfl
 case hIx =>
  rintro c i A k o o' ⟨hB,rfl,h,g,cs,nx,e1,e2,e3,e4,e5,e6⟩ hk ho hn
  have h9:=HS9.out
  exact ⟨hB.grown (grownBy_putObj' A k o') hB.size (fun j e=>by cases e; omega),rfl,h,g,cs,nx,e1,e2.put ho hn,(World.putObj_heap_other (by omega)).trans e3,(World.putObj_heap_other (by omega)).trans e4,(World.putObj_heap_other (by omega)).trans e5,e6⟩
 case hIxB =>
  rintro c i A B ⟨hB,rfl,h,g,cs,nx,e1,e2,e3,e4,e5,e6⟩ hAB
  exact ⟨below_then hB hAB,rfl,h,g,cs,nx,e1,e2.grow hAB,(hAB.block _ (Array.getElem?_eq_some_iff.1 e3).1).trans e3,(hAB.block _ e4.lt).trans e4,(hAB.block _ e5.lt).trans e5,e6⟩
 case hAx =>
  rintro i xs a' A k o o' ⟨rfl,e3⟩ hk ho hn
  exact ⟨rfl,e3⟩
 case hassign =>
  rintro l i xs W Kk rfl hKk
  gi_wp2
  exact hKk _ _ (Below.refl _ _) ⟨by trivial,rfl⟩
 case hbody =>
  rintro l i xs a' W hl ⟨r0,hr0⟩ hp hi hB ⟨rfl,rfl⟩
  have hbd:=HBD.out i
  have hlt:=HLT.out
  obtain ⟨r,hr⟩:∃ r,stpI L O X T (hlv F i) K = r:=⟨_,rfl⟩
  have KI1:=Lib.hid (KI.out (hlv F i) W (L9.out.grow hB) (O9.out.grow hB) (XX9.out.grow hB) r hbd.1 (Int.le_trans hbd.2 HF2.out) hr)
  have HBB:=Lib.hid (HB9.out.trans (hB.mono HB9.out.size))
  have c0:=heapN_cellj (RQ9.out.grow hB) (k:=0) rfl
  have c5:=heapN_cellj (RQ9.out.grow hB) (k:=5) rfl
  have t0:=heapN_cellj (TP9.out.grow hB) (k:=0) rfl
  have t1:=heapN_cellj (TP9.out.grow hB) (k:=1) rfl
  have t2:=heapN_cellj (TP9.out.grow hB) (k:=2) rfl
  have v0:=heapN_cellj (X9.out.grow hB) (k:=0) rfl
  have HRR:=Lib.hid hr
  have HP:=Lib.hid hp
  have HI:=Lib.hid hi
  have HB:=Lib.hid hB
  have HBD1:=Lib.hid hbd
  clear hr hp hi hB hbd hlt hr0 KI
  gi_wp2_with (fail)
  refine ⟨trivial,fun h=>(by cases h),(CallsIn.inRound l (callsIn_wide.2 KI1.out)).mono ?_⟩
  rintro e w10 ⟨s,rfl,hs,hB10⟩
  have HB10:=Lib.hid hB10
  clear KI1 c0 c5 t0 t1 t2 v0 hB10
  cases r with
  | none =>
   have hs':s = .agg #[.int .i64 0,.int .i64 0,.slice none 0 0,.slice none 0 0,.slice none 0 0,.slice none 0 0]:=hs
   subst hs'
   clear hs
   have hn:tryC (fun h=>stpI L O X T h K) wi (hlv F i) = none:=by
    unfold tryC
    simp only [HRR.out]
   have HNX:=Lib.hid (KN.out i HP.out HI.out hn)
   clear hn
   gi_wp2_with (fail)
   refine ⟨trivial,?_⟩
   gi_wp2_with (fail)
   exact ⟨HB10.out.alloc HB10.out.size _,HNX.out⟩
  | some g =>
   obtain ⟨B,V,E⟩:=g
   obtain ⟨avB,avV,avE,lB,lV,lE⟩:=KAV.out (hlv F i) B V E HBD1.out.1 (Int.le_trans HBD1.out.2 HF2.out) HRR.out
   obtain ⟨p1,q1,p2,q2,p3,q3,p4,q4,hse,k1,k2,k3,k4⟩:=hs
   subst hse
   obtain ⟨W11,hW11⟩:∃ W11,w10.alloc (.cells #[.int .i64 T,.int .i64 (hlv F i),.slice p1 X.length q1,.slice p2 B.length q2,.slice p3 V.length q3,.slice p4 E.length q4] 39) = W11:=⟨_,rfl⟩
   have hb11:Below w10.heap.size w10 W11:=by rw [← hW11]; exact (Below.refl _ _).alloc (Nat.le_refl _) _
   have hx11:W11.heap[w10.heap.size]? = some (.cells #[.int .i64 T,.int .i64 (hlv F i),.slice p1 X.length q1,.slice p2 B.length q2,.slice p3 V.length q3,.slice p4 E.length q4] 39 (0,0)):=by rw [← hW11]; exact World.alloc_heap_new w10 _
   have hBW:Below W.heap.size W W11:=HB10.out.trans (hb11.mono HB10.out.size)
   have hBW9:Below W9.heap.size W9 W11:=HB.out.trans (hBW.mono HB.out.size)
   have c0:=heapN_cellj (RQ9.out.grow hBW9) (k:=0) rfl
   have c1:=heapN_cellj (RQ9.out.grow hBW9) (k:=1) rfl
   have c2:=heapN_cellj (RQ9.out.grow hBW9) (k:=2) rfl
   have c3:=heapN_cellj (RQ9.out.grow hBW9) (k:=3) rfl
   have c4:=heapN_cellj (RQ9.out.grow hBW9) (k:=4) rfl
   have s0:=heapN_cellj hx11 (k:=0) rfl
   have s1:=heapN_cellj hx11 (k:=1) rfl
   have s2:=heapN_cellj hx11 (k:=2) rfl
   have s3:=heapN_cellj hx11 (k:=3) rfl
   have s4:=heapN_cellj hx11 (k:=4) rfl
   have s5:=heapN_cellj hx11 (k:=5) rfl
   have KA1:=Lib.hid (accept_ok K fi le mo wi T (hlv F i) (.slice p1 X.length q1) (.slice p2 B.length q2) (.slice p3 V.length q3) (.slice p4 E.length q4) V E W11 (k3.1.grow hb11) (k4.1.grow hb11) avV avE)
   obtain ⟨b,hb⟩:∃ b,accB wi E V = b:=⟨_,rfl⟩
   rw [hb] at KA1
   have htry:tryC (fun h=>stpI L O X T h K) wi (hlv F i) = if b = true then some (B,V,E) else none:=by
    unfold tryC
    simp only [HRR.out,hb]
   have K11:=Lib.hid (And.intro (k1.grow hb11) (And.intro (k2.grow hb11) (And.intro (k3.grow hb11) (k4.grow hb11))))
   have HX11:=Lib.hid hx11
   have HTRY:=Lib.hid htry
   have HBW:=Lib.hid hBW
   have HBW9:=Lib.hid hBW9
   have HSW:=Lib.hid (show w.heap.size+7 ≤ W.heap.size from Nat.le_trans HS9.out HB.out.size)
   clear avB avV avE lB lV lE k1 k2 k3 k4 hb11 hx11 hBW hBW9 hb htry
   gi_wp2_with (fail)
   refine ⟨trivial,fun h=>(by cases h),(CallsIn.inRound l (callsIn_wide.2 KA1.out)).mono ?_⟩
   rintro e w12 ⟨rfl,hB12⟩
   have HB12:=Lib.hid hB12
   clear KA1 hB12 hW11 c0 c1 c2 c3 c4 s0 s1 s2 s3 s4 s5
   cases b with
   | false =>
    have hn:tryC (fun h=>stpI L O X T h K) wi (hlv F i) = none:=by rw [HTRY.out]; rfl
    have HNX:=Lib.hid (KN.out i HP.out HI.out hn)
    clear hn
    gi_wp2_with (fail)
    exact ⟨HBW.out.trans (HB12.out.mono HBW.out.size),HNX.out⟩
   | true =>
    have hn:tryC (fun h=>stpI L O X T h K) wi (hlv F i) = some (B,V,E):=by rw [HTRY.out]; rfl
    have HHIT:=Lib.hid (KH.out i (B,V,E) HP.out HI.out hn)
    have HB12W:=Lib.hid (HBW.out.trans (HB12.out.mono HBW.out.size))
    have HB129:=Lib.hid (HBW9.out.trans (HB12.out.mono HBW9.out.size))
    have hx12:w12.heap[w10.heap.size]? = some (.cells #[.int .i64 T,.int .i64 (hlv F i),.slice p1 X.length q1,.slice p2 B.length q2,.slice p3 V.length q3,.slice p4 E.length q4] 39 (0,0)):=(HB12.out.block _ (Array.getElem?_eq_some_iff.1 HX11.out).1).trans HX11.out
    have HX12:=Lib.hid (show Blk w12 w10.heap.size (.cells #[.int .i64 T,.int .i64 (hlv F i),.slice p1 X.length q1,.slice p2 B.length q2,.slice p3 V.length q3,.slice p4 E.length q4] 39) from hx12)
    have u0:=heapN_cellj (F9.out.grow HB129.out) (k:=0) rfl
    have c7:=heapN_cellj (RQ9.out.grow HB129.out) (k:=7) rfl
    obtain ⟨hh,hhe⟩:∃ hh,hlv F i = hh:=⟨_,rfl⟩
    have hcase:(hh = F) ∨ (hh < F):=by
     rw [← hhe]
     cases i with
     | zero=>exact .inl rfl
     | succ k=>exact .inr (HLT.out k)
    have HHE:=Lib.hid hhe
    rw [hhe] at HX12 HHIT ⊢
    have HZC:=Lib.hid (show w12.heap[w.heap.size+1+1+1]? = some (.cells #[.int .i64 0,.int .i64 0,.slice none 0 0,.slice none 0 0,.slice none 0 0,.slice none 0 0] 39 (0,0)) from (HB129.out.block _ (Array.getElem?_eq_some_iff.1 Z9.out).1).trans Z9.out)
    have HZ7:=Lib.hid (show Boxed w12 (w.heap.size+1+1+1+1) 2 (.int .i64 0) from (HB129.out.block _ Z79.out.lt).trans Z79.out)
    have HZ8:=Lib.hid (show Boxed w12 (w.heap.size+1+1+1+1+1) 40 (.int .i64 0) from (HB129.out.block _ Z89.out.lt).trans Z89.out)
    have HB12K:=Lib.hid HB12.out
    have HHB:=Lib.hid (show 0 ≤ hh∧hh ≤ 1000000 by rw [← hhe]; exact ⟨HBD1.out.1,Int.le_trans HBD1.out.2 HF2.out⟩)
    clear hn hx12 hhe KN KH HBW HBW9 HB12
    rcases hcase with rfl | hcase
    ·have h1q:0 ≤ Hq:=hq0
     have KG:=Lib.hid (fun w=>grow_ok K fi le mo wi (Hq) w h1q (by omega) hmo)
     obtain ⟨nx,hnx⟩:∃ nx,min (2 * (Hq)) mo = nx:=⟨_,rfl⟩
     rw [hnx] at KG
     have HNXE:=Lib.hid (show nx = min (2 * (if hh = hh then Hq else hh)) mo from by rw [if_pos rfl]; exact hnx.symm)
     have RQ12:=Lib.hid (RQ9.out.grow HB129.out)
     clear hnx
     gi_wp2_with (fail)
     clear u0 c7
     have s0:=fun g:Grown w12=>heapN_cellj (HX12.out.grow g.h) (k:=0) rfl
     have s1:=fun g:Grown w12=>heapN_cellj (HX12.out.grow g.h) (k:=1) rfl
     have s2:=fun g:Grown w12=>heapN_cellj (HX12.out.grow g.h) (k:=2) rfl
     have s3:=fun g:Grown w12=>heapN_cellj (HX12.out.grow g.h) (k:=3) rfl
     have s4:=fun g:Grown w12=>heapN_cellj (HX12.out.grow g.h) (k:=4) rfl
     have s5:=fun g:Grown w12=>heapN_cellj (HX12.out.grow g.h) (k:=5) rfl
     have c0:=fun g:Grown w12=>heapN_cellj (RQ12.out.grow g.h) (k:=0) rfl
     have c1:=fun g:Grown w12=>heapN_cellj (RQ12.out.grow g.h) (k:=1) rfl
     have c2:=fun g:Grown w12=>heapN_cellj (RQ12.out.grow g.h) (k:=2) rfl
     have c3:=fun g:Grown w12=>heapN_cellj (RQ12.out.grow g.h) (k:=3) rfl
     have c4:=fun g:Grown w12=>heapN_cellj (RQ12.out.grow g.h) (k:=4) rfl
     refine region_pred_in (F:=Fence.wide.inRound l) 5 (lk [(53,fun z_ _=>z_ = .agg #[.int .i64 T,.int .i64 hh,.slice p1 X.length q1,.slice p2 B.length q2,.slice p3 V.length q3,.slice p4 E.length q4]),(54,fun z_ _=>z_ = .pointer (some ⟨w.heap.size+1+1,0,none⟩)),(55,fun z_ _=>z_ = .agg #[.int .i64 (K:Int),.int .i64 fi,.int .i64 le,.int .i64 mo,.int .i64 wi]),(56,fun z_ _=>z_ = .int .i64 Hq),(57,fun z_ _=>z_ = .int .i64 nx)]) (round_fn l) rfl (round_call l) (by kernel_rfl) (by kernel_rfl) (lk_steady _ ⟨steady_eq _,steady_eq _,steady_eq _,steady_eq _,steady_eq _,trivial⟩) ?_ ?_
     ·refine ⟨?_,?_,?_,?_,?_,trivial⟩
      ·refine ob_plain [11] rfl rfl fun aa g h=>?_
       have yy0:=seen_out (v:=.pointer (some ⟨w10.heap.size,0,none⟩)) rfl rfl h.1
       exact tvS (by simp [go_sem,yy0,s0 g,s1 g,s2 g,s3 g,s4 g,s5 g]) rfl
      ·refine ob_plain [5] rfl rfl fun aa g h=>?_
       have yy0:=seen_out (v:=.pointer (some ⟨w.heap.size+1+1,0,none⟩)) rfl rfl h.1
       exact tvS (by simp [go_sem,yy0]) rfl
      ·refine ob_plain [54] rfl rfl fun aa g h=>?_
       obtain ⟨_,yy0,rfl⟩:=seen_in rfl h.1
       exact tvS (by simp [go_sem,yy0,c0 g,c1 g,c2 g,c3 g,c4 g]) rfl
      ·refine ob_plain [10] rfl rfl fun aa g h=>?_
       have yy0:=seen_out (v:=.int .i64 Hq) rfl rfl h.1
       exact tvS (by simp [go_sem,yy0]) rfl
      ·refine ob_plain [55,56] rfl rfl fun aa g h=>?_
       obtain ⟨_,yy0,rfl⟩:=seen_in rfl h.1
       obtain ⟨_,yy1,rfl⟩:=seen_in rfl h.2.1
       refine tupon_enter (f:=46) (args:=#[.agg #[.int .i64 (K:Int),.int .i64 fi,.int .i64 le,.int .i64 mo,.int .i64 wi],.int .i64 Hq]) (by simp [go_sem,yy0,yy1]) rfl ?_
       exact (KG.out g.w).mono fun e w' ⟨he,hB⟩=>⟨_,he,hB,rfl⟩
     rintro w13 hB13 _ rfl _ rfl _ rfl _ rfl _ rfl
     simp only [Act.put,List.setIfInBounds_toArray,List.set_cons_succ,List.set_cons_zero,finP,List.drop_succ_cons,List.drop_zero,List.take_zero,List.filterMap_nil]
     have hz3:w13.heap[w.heap.size+1+1+1]? = some (.cells #[.int .i64 0,.int .i64 0,.slice none 0 0,.slice none 0 0,.slice none 0 0,.slice none 0 0] 39 (0,0)):=(hB13.block _ (Array.getElem?_eq_some_iff.1 HZC.out).1).trans HZC.out
     have hz7:Boxed w13 (w.heap.size+1+1+1+1) 2 (.int .i64 0):=(hB13.block _ HZ7.out.lt).trans HZ7.out
     have hz8:Boxed w13 (w.heap.size+1+1+1+1+1) 40 (.int .i64 0):=(hB13.block _ HZ8.out.lt).trans HZ8.out
     have hB13W:=HB12W.out.trans (hB13.mono HB12W.out.size)
     have hB139:=HB129.out.trans (hB13.mono HB129.out.size)
     have k13:=K11.out
     have hup:Below W11.heap.size W11 w13:=HB12K.out.trans (hB13.mono HB12K.out.size)
     have K13:=Lib.hid (And.intro (k13.1.grow hup) (And.intro (k13.2.1.grow hup) (And.intro (k13.2.2.1.grow hup) (k13.2.2.2.grow hup))))
     obtain ⟨W14,hW14⟩:∃ W14,w13.setRow (w.heap.size+1+1+1) #[.int .i64 T,.int .i64 hh,.slice p1 X.length q1,.slice p2 B.length q2,.slice p3 V.length q3,.slice p4 E.length q4] = W14:=⟨_,rfl⟩
     have o14:∀ k,k ≠ w.heap.size+1+1+1→W14.heap[k]? = w13.heap[k]?:=fun k hk=>by rw [← hW14]; exact setRow_other w13 _ k _ hk
     have z14:W14.heap[w.heap.size+1+1+1]? = some (.cells #[.int .i64 T,.int .i64 hh,.slice p1 X.length q1,.slice p2 B.length q2,.slice p3 V.length q3,.slice p4 E.length q4] 39 (0,0)):=by rw [← hW14]; exact setRow_heap w13 _ _ _ _ _ hz3
     have s14:W14.heap.size = w13.heap.size:=by rw [← hW14]; exact setRow_size _ _ _
     have b4:Boxed W14 (w.heap.size+1+1+1+1) 2 (.int .i64 0):=(o14 _ (by omega)).trans hz7
     have b5:Boxed W14 (w.heap.size+1+1+1+1+1) 40 (.int .i64 0):=(o14 _ (by omega)).trans hz8
     have qq1:=b4.cell
     have qq2:=b4.frozen
     have qq3:=(b5.other (B':=w.heap.size+1+1+1+1) (by omega) (.int .i64 nx)).cell
     have qq4:=(b5.other (B':=w.heap.size+1+1+1+1) (by omega) (.int .i64 nx)).frozen
     have hbW14:Below w.heap.size w W14:=by rw [← hW14]; exact below_row (X:=w.heap.size+1+1+1) (below_then HB9.out hB139) (by omega) _
     have B45:=Lib.hid (And.intro b4 b5)
     have O14:=Lib.hid o14
     have Z14:=Lib.hid z14
     have S14:=Lib.hid s14
     have HBW14:=Lib.hid hbW14
     have HB13W:=Lib.hid hB13W
     clear b4 b5 o14 z14 s14 hz7 hz8 hB13W hB139 k13 hup hbW14 s0 s1 s2 s3 s4 s5 c0 c1 c2 c3 c4
     gi_wp2_with (refine wpListIn_store_row rfl 39 (.tmp 6) (.tmp 53) rfl (w.heap.size+1+1+1) #[.int .i64 T,.int .i64 hh,.slice p1 X.length q1,.slice p2 B.length q2,.slice p3 V.length q3,.slice p4 E.length q4] rfl rfl 39 _ hz3 (by kernel_rfl) rfl (by first | rfl | decide | simp [Value.oneCell']) ?_; rw [hW14])
     obtain ⟨b4,b5⟩:=B45.out
     have h4:=(b4.set (.int .i64 nx)).other (B':=w.heap.size+1+1+1+1+1) (by omega) (.int .i64 0)
     have h5:=(b5.other (B':=w.heap.size+1+1+1+1) (by omega) (.int .i64 nx)).set (.int .i64 0)
     have hot:∀ k,k ≠ w.heap.size+1+1+1→k ≠ w.heap.size+1+1+1+1→k ≠ w.heap.size+1+1+1+1+1→((W14.setCell ⟨w.heap.size+1+1+1+1,0,none⟩ (.int .i64 nx)).setCell ⟨w.heap.size+1+1+1+1+1,0,none⟩ (.int .i64 0)).heap[k]? = w13.heap[k]?:=fun k n3 n4 n5=>((heap_keep _ n5).trans (heap_keep _ n4)).trans (O14.out k n3)
     have hsz:((W14.setCell ⟨w.heap.size+1+1+1+1,0,none⟩ (.int .i64 nx)).setCell ⟨w.heap.size+1+1+1+1+1,0,none⟩ (.int .i64 0)).heap.size = w13.heap.size:=by rw [World.size_setCell,World.size_setCell,S14.out]
     have h9:=HSW.out
     have hWs:=HB13W.out.size
     obtain ⟨m1,m2,m3,m4⟩:=K13.out
     have hkk:∀ k,w.heap.size+7 ≤ k→k < w13.heap.size→((W14.setCell ⟨w.heap.size+1+1+1+1,0,none⟩ (.int .i64 nx)).setCell ⟨w.heap.size+1+1+1+1+1,0,none⟩ (.int .i64 0)).heap[k]? = w13.heap[k]?:=fun k hk _=>hot k (by omega) (by omega) (by omega)
     have fb:∀ {v:Value} {l:List (Int × Int)},VxF W.heap.size w13 v l→VxF (w.heap.size+7) ((W14.setCell ⟨w.heap.size+1+1+1+1,0,none⟩ (.int .i64 nx)).setCell ⟨w.heap.size+1+1+1+1+1,0,none⟩ (.int .i64 0)) v l:=fun h=>(h.mono h9).same (by rw [hsz]; exact Nat.le_refl _) hkk
     have hbig:=HS9.out
     refine ⟨⟨by rw [hsz]; exact hWs,fun k o hk h1 h2=>((hot k (by omega) (by omega) (by omega)).trans (HB13W.out.block k (Array.getElem?_eq_some_iff.1 h1).1)).trans h1⟩,(HBW14.out.setCell (p:=⟨w.heap.size+1+1+1+1,0,none⟩) (by dsimp only; omega) _).setCell (p:=⟨w.heap.size+1+1+1+1+1,0,none⟩) (by dsimp only; omega) _,by trivial,hh,(B,V,E),_,nx,?_,⟨p1,_,p2,_,p3,_,p4,_,rfl,fb m1,fb m2,fb m3,fb m4⟩,?_,h4,h5,by first | exact HNXE.out | (have h:=HNXE.out; simpa using h)⟩
     ·exact HHIT.out
     ·exact ((heap_keep _ (by omega)).trans (heap_keep _ (by omega))).trans Z14.out
    ·have hh0:0 ≤ hh∧hh < 4294967296:=by have:=HHB.out; omega
     have hne:¬ hh = F:=by omega
     have KG:=Lib.hid (fun w=>grow_ok K fi le mo wi (hh) w hh0.1 hh0.2 hmo)
     obtain ⟨nx,hnx⟩:∃ nx,min (2 * (hh)) mo = nx:=⟨_,rfl⟩
     rw [hnx] at KG
     have HNXE:=Lib.hid (show nx = min (2 * (if hh = F then Hq else hh)) mo from by rw [if_neg hne]; exact hnx.symm)
     have RQ12:=Lib.hid (RQ9.out.grow HB129.out)
     clear hnx
     gi_wp2_with (fail)
     clear u0 c7
     have s0:=fun g:Grown w12=>heapN_cellj (HX12.out.grow g.h) (k:=0) rfl
     have s1:=fun g:Grown w12=>heapN_cellj (HX12.out.grow g.h) (k:=1) rfl
     have s2:=fun g:Grown w12=>heapN_cellj (HX12.out.grow g.h) (k:=2) rfl
     have s3:=fun g:Grown w12=>heapN_cellj (HX12.out.grow g.h) (k:=3) rfl
     have s4:=fun g:Grown w12=>heapN_cellj (HX12.out.grow g.h) (k:=4) rfl
     have s5:=fun g:Grown w12=>heapN_cellj (HX12.out.grow g.h) (k:=5) rfl
     have c0:=fun g:Grown w12=>heapN_cellj (RQ12.out.grow g.h) (k:=0) rfl
     have c1:=fun g:Grown w12=>heapN_cellj (RQ12.out.grow g.h) (k:=1) rfl
     have c2:=fun g:Grown w12=>heapN_cellj (RQ12.out.grow g.h) (k:=2) rfl
     have c3:=fun g:Grown w12=>heapN_cellj (RQ12.out.grow g.h) (k:=3) rfl
     have c4:=fun g:Grown w12=>heapN_cellj (RQ12.out.grow g.h) (k:=4) rfl
     refine region_pred_in (F:=Fence.wide.inRound l) 5 (lk [(53,fun z_ _=>z_ = .agg #[.int .i64 T,.int .i64 hh,.slice p1 X.length q1,.slice p2 B.length q2,.slice p3 V.length q3,.slice p4 E.length q4]),(54,fun z_ _=>z_ = .pointer (some ⟨w.heap.size+1+1,0,none⟩)),(55,fun z_ _=>z_ = .agg #[.int .i64 (K:Int),.int .i64 fi,.int .i64 le,.int .i64 mo,.int .i64 wi]),(56,fun z_ _=>z_ = .int .i64 hh),(57,fun z_ _=>z_ = .int .i64 nx)]) (round_fn l) rfl (round_call l) (by kernel_rfl) (by kernel_rfl) (lk_steady _ ⟨steady_eq _,steady_eq _,steady_eq _,steady_eq _,steady_eq _,trivial⟩) ?_ ?_
     ·refine ⟨?_,?_,?_,?_,?_,trivial⟩
      ·refine ob_plain [11] rfl rfl fun aa g h=>?_
       have yy0:=seen_out (v:=.pointer (some ⟨w10.heap.size,0,none⟩)) rfl rfl h.1
       exact tvS (by simp [go_sem,yy0,s0 g,s1 g,s2 g,s3 g,s4 g,s5 g]) rfl
      ·refine ob_plain [5] rfl rfl fun aa g h=>?_
       have yy0:=seen_out (v:=.pointer (some ⟨w.heap.size+1+1,0,none⟩)) rfl rfl h.1
       exact tvS (by simp [go_sem,yy0]) rfl
      ·refine ob_plain [54] rfl rfl fun aa g h=>?_
       obtain ⟨_,yy0,rfl⟩:=seen_in rfl h.1
       exact tvS (by simp [go_sem,yy0,c0 g,c1 g,c2 g,c3 g,c4 g]) rfl
      ·refine ob_plain [10] rfl rfl fun aa g h=>?_
       have yy0:=seen_out (v:=.int .i64 hh) rfl rfl h.1
       exact tvS (by simp [go_sem,yy0]) rfl
      ·refine ob_plain [55,56] rfl rfl fun aa g h=>?_
       obtain ⟨_,yy0,rfl⟩:=seen_in rfl h.1
       obtain ⟨_,yy1,rfl⟩:=seen_in rfl h.2.1
       refine tupon_enter (f:=46) (args:=#[.agg #[.int .i64 (K:Int),.int .i64 fi,.int .i64 le,.int .i64 mo,.int .i64 wi],.int .i64 hh]) (by simp [go_sem,yy0,yy1]) rfl ?_
       exact (KG.out g.w).mono fun e w' ⟨he,hB⟩=>⟨_,he,hB,rfl⟩
     rintro w13 hB13 _ rfl _ rfl _ rfl _ rfl _ rfl
     simp only [Act.put,List.setIfInBounds_toArray,List.set_cons_succ,List.set_cons_zero,finP,List.drop_succ_cons,List.drop_zero,List.take_zero,List.filterMap_nil]
     have hz3:w13.heap[w.heap.size+1+1+1]? = some (.cells #[.int .i64 0,.int .i64 0,.slice none 0 0,.slice none 0 0,.slice none 0 0,.slice none 0 0] 39 (0,0)):=(hB13.block _ (Array.getElem?_eq_some_iff.1 HZC.out).1).trans HZC.out
     have hz7:Boxed w13 (w.heap.size+1+1+1+1) 2 (.int .i64 0):=(hB13.block _ HZ7.out.lt).trans HZ7.out
     have hz8:Boxed w13 (w.heap.size+1+1+1+1+1) 40 (.int .i64 0):=(hB13.block _ HZ8.out.lt).trans HZ8.out
     have hB13W:=HB12W.out.trans (hB13.mono HB12W.out.size)
     have hB139:=HB129.out.trans (hB13.mono HB129.out.size)
     have k13:=K11.out
     have hup:Below W11.heap.size W11 w13:=HB12K.out.trans (hB13.mono HB12K.out.size)
     have K13:=Lib.hid (And.intro (k13.1.grow hup) (And.intro (k13.2.1.grow hup) (And.intro (k13.2.2.1.grow hup) (k13.2.2.2.grow hup))))
     obtain ⟨W14,hW14⟩:∃ W14,w13.setRow (w.heap.size+1+1+1) #[.int .i64 T,.int .i64 hh,.slice p1 X.length q1,.slice p2 B.length q2,.slice p3 V.length q3,.slice p4 E.length q4] = W14:=⟨_,rfl⟩
     have o14:∀ k,k ≠ w.heap.size+1+1+1→W14.heap[k]? = w13.heap[k]?:=fun k hk=>by rw [← hW14]; exact setRow_other w13 _ k _ hk
     have z14:W14.heap[w.heap.size+1+1+1]? = some (.cells #[.int .i64 T,.int .i64 hh,.slice p1 X.length q1,.slice p2 B.length q2,.slice p3 V.length q3,.slice p4 E.length q4] 39 (0,0)):=by rw [← hW14]; exact setRow_heap w13 _ _ _ _ _ hz3
     have s14:W14.heap.size = w13.heap.size:=by rw [← hW14]; exact setRow_size _ _ _
     have b4:Boxed W14 (w.heap.size+1+1+1+1) 2 (.int .i64 0):=(o14 _ (by omega)).trans hz7
     have b5:Boxed W14 (w.heap.size+1+1+1+1+1) 40 (.int .i64 0):=(o14 _ (by omega)).trans hz8
     have qq1:=b4.cell
     have qq2:=b4.frozen
     have qq3:=(b5.other (B':=w.heap.size+1+1+1+1) (by omega) (.int .i64 nx)).cell
     have qq4:=(b5.other (B':=w.heap.size+1+1+1+1) (by omega) (.int .i64 nx)).frozen
     have hbW14:Below w.heap.size w W14:=by rw [← hW14]; exact below_row (X:=w.heap.size+1+1+1) (below_then HB9.out hB139) (by omega) _
     have B45:=Lib.hid (And.intro b4 b5)
     have O14:=Lib.hid o14
     have Z14:=Lib.hid z14
     have S14:=Lib.hid s14
     have HBW14:=Lib.hid hbW14
     have HB13W:=Lib.hid hB13W
     clear b4 b5 o14 z14 s14 hz7 hz8 hB13W hB139 k13 hup hbW14 s0 s1 s2 s3 s4 s5 c0 c1 c2 c3 c4
     gi_wp2_with (refine wpListIn_store_row rfl 39 (.tmp 6) (.tmp 53) rfl (w.heap.size+1+1+1) #[.int .i64 T,.int .i64 hh,.slice p1 X.length q1,.slice p2 B.length q2,.slice p3 V.length q3,.slice p4 E.length q4] rfl rfl 39 _ hz3 (by kernel_rfl) rfl (by first | rfl | decide | simp [Value.oneCell']) ?_; rw [hW14])
     obtain ⟨b4,b5⟩:=B45.out
     have h4:=(b4.set (.int .i64 nx)).other (B':=w.heap.size+1+1+1+1+1) (by omega) (.int .i64 0)
     have h5:=(b5.other (B':=w.heap.size+1+1+1+1) (by omega) (.int .i64 nx)).set (.int .i64 0)
     have hot:∀ k,k ≠ w.heap.size+1+1+1→k ≠ w.heap.size+1+1+1+1→k ≠ w.heap.size+1+1+1+1+1→((W14.setCell ⟨w.heap.size+1+1+1+1,0,none⟩ (.int .i64 nx)).setCell ⟨w.heap.size+1+1+1+1+1,0,none⟩ (.int .i64 0)).heap[k]? = w13.heap[k]?:=fun k n3 n4 n5=>((heap_keep _ n5).trans (heap_keep _ n4)).trans (O14.out k n3)
     have hsz:((W14.setCell ⟨w.heap.size+1+1+1+1,0,none⟩ (.int .i64 nx)).setCell ⟨w.heap.size+1+1+1+1+1,0,none⟩ (.int .i64 0)).heap.size = w13.heap.size:=by rw [World.size_setCell,World.size_setCell,S14.out]
     have h9:=HSW.out
     have hWs:=HB13W.out.size
     obtain ⟨m1,m2,m3,m4⟩:=K13.out
     have hkk:∀ k,w.heap.size+7 ≤ k→k < w13.heap.size→((W14.setCell ⟨w.heap.size+1+1+1+1,0,none⟩ (.int .i64 nx)).setCell ⟨w.heap.size+1+1+1+1+1,0,none⟩ (.int .i64 0)).heap[k]? = w13.heap[k]?:=fun k hk _=>hot k (by omega) (by omega) (by omega)
     have fb:∀ {v:Value} {l:List (Int × Int)},VxF W.heap.size w13 v l→VxF (w.heap.size+7) ((W14.setCell ⟨w.heap.size+1+1+1+1,0,none⟩ (.int .i64 nx)).setCell ⟨w.heap.size+1+1+1+1+1,0,none⟩ (.int .i64 0)) v l:=fun h=>(h.mono h9).same (by rw [hsz]; exact Nat.le_refl _) hkk
     have hbig:=HS9.out
     refine ⟨⟨by rw [hsz]; exact hWs,fun k o hk h1 h2=>((hot k (by omega) (by omega) (by omega)).trans (HB13W.out.block k (Array.getElem?_eq_some_iff.1 h1).1)).trans h1⟩,(HBW14.out.setCell (p:=⟨w.heap.size+1+1+1+1,0,none⟩) (by dsimp only; omega) _).setCell (p:=⟨w.heap.size+1+1+1+1+1,0,none⟩) (by dsimp only; omega) _,by trivial,hh,(B,V,E),_,nx,?_,⟨p1,_,p2,_,p3,_,p4,_,rfl,fb m1,fb m2,fb m3,fb m4⟩,?_,h4,h5,by first | exact HNXE.out | (have h:=HNXE.out; simpa using h)⟩
     ·exact HHIT.out
     ·exact ((heap_keep _ (by omega)).trans (heap_keep _ (by omega))).trans Z14.out
 case hdone =>
  rintro W hp hB hK
  have hnone:R = none:=by
   rcases hp with ⟨h,_⟩ | ⟨_,h⟩
   ·omega
   ·exact h
  subst hnone
  have h9:=HS9.out
  have z3:W.heap[w.heap.size+1+1+1]? = some (.cells #[.int .i64 0,.int .i64 0,.slice none 0 0,.slice none 0 0,.slice none 0 0,.slice none 0 0] 39 (0,0)):=(hB.block _ (Array.getElem?_eq_some_iff.1 Z9.out).1).trans Z9.out
  have z4:Boxed W (w.heap.size+1+1+1+1) 2 (.int .i64 0):=(hB.block _ Z79.out.lt).trans Z79.out
  have z5:Boxed W (w.heap.size+1+1+1+1+1) 40 (.int .i64 0):=(hB.block _ Z89.out.lt).trans Z89.out
  have HBW:=Lib.hid (HB9.out.trans (hB.mono HB9.out.size))
  obtain ⟨W14,hW14⟩:∃ W14,W.setRow (w.heap.size+1+1+1) #[.int .i64 0,.int .i64 0,.slice none 0 0,.slice none 0 0,.slice none 0 0,.slice none 0 0] = W14:=⟨_,rfl⟩
  have o14:∀ k,k ≠ w.heap.size+1+1+1→W14.heap[k]? = W.heap[k]?:=fun k hk=>by rw [← hW14]; exact setRow_other W _ k _ hk
  have z14:W14.heap[w.heap.size+1+1+1]? = some (.cells #[.int .i64 0,.int .i64 0,.slice none 0 0,.slice none 0 0,.slice none 0 0,.slice none 0 0] 39 (0,0)):=by rw [← hW14]; exact setRow_heap W _ _ _ _ _ z3
  have s14:W14.heap.size = W.heap.size:=by rw [← hW14]; exact setRow_size _ _ _
  have b4:Boxed W14 (w.heap.size+1+1+1+1) 2 (.int .i64 0):=(o14 _ (by omega)).trans z4
  have b5:Boxed W14 (w.heap.size+1+1+1+1+1) 40 (.int .i64 0):=(o14 _ (by omega)).trans z5
  have qq1:=b4.cell
  have qq2:=b4.frozen
  have qq3:=(b5.other (B':=w.heap.size+1+1+1+1) (by omega) (.int .i64 0)).cell
  have qq4:=(b5.other (B':=w.heap.size+1+1+1+1) (by omega) (.int .i64 0)).frozen
  have hbW14:Below w.heap.size w W14:=by rw [← hW14]; exact below_row (X:=w.heap.size+1+1+1) (HBW.out) (by omega) _
  have hk14:W14.heap[W9.heap.size]? = some (.deferred (some [])):=(o14 _ (by omega)).trans hK
  have B45:=Lib.hid (And.intro b4 b5)
  have Z14:=Lib.hid z14
  have HK14:=Lib.hid hk14
  have HBW14:=Lib.hid hbW14
  clear b4 b5 o14 z14 s14 z4 z5 hbW14 hk14 hB hK hp
  gi_wp2_with (refine wpListIn_store_row rfl 39 (.tmp 6) (.tmp 58) rfl (w.heap.size+1+1+1) #[.int .i64 0,.int .i64 0,.slice none 0 0,.slice none 0 0,.slice none 0 0,.slice none 0 0] rfl rfl 39 _ z3 (by kernel_rfl) rfl (by first | rfl | decide | simp [Value.oneCell']) ?_; rw [hW14])
  obtain ⟨b4,b5⟩:=B45.out
  have h4:=(b4.set (.int .i64 0)).other (B':=w.heap.size+1+1+1+1+1) (by omega) (.int .i64 130)
  have h5:=(b5.other (B':=w.heap.size+1+1+1+1) (by omega) (.int .i64 0)).set (.int .i64 130)
  have z3':=((heap_keep (X:=w.heap.size+1+1+1+1+1) (.int .i64 130) (by omega)).trans (heap_keep (X:=w.heap.size+1+1+1+1) (.int .i64 0) (by omega))).trans Z14.out
  have hK':=((heap_keep (X:=w.heap.size+1+1+1+1+1) (.int .i64 130) (by omega)).trans (heap_keep (X:=w.heap.size+1+1+1+1) (.int .i64 0) (by omega))).trans HK14.out
  have hBs:=(HBW14.out.setCell (p:=⟨w.heap.size+1+1+1+1,0,none⟩) (by dsimp only; omega) (.int .i64 0)).setCell (p:=⟨w.heap.size+1+1+1+1+1,0,none⟩) (by dsimp only; omega) (.int .i64 130)
  have y3:(((W14.setCell ⟨w.heap.size+1+1+1+1,0,none⟩ (.int .i64 0)).setCell ⟨w.heap.size+1+1+1+1+1,0,none⟩ (.int .i64 130)).putObj W9.heap.size (.deferred none)).heap[w.heap.size+1+1+1]? = some (.cells #[.int .i64 0,.int .i64 0,.slice none 0 0,.slice none 0 0,.slice none 0 0,.slice none 0 0] 39 (0,0)):=(World.putObj_heap_other (by omega)).trans z3'
  have x0:=heapN_cellj y3 (k:=0) rfl
  have x1:=heapN_cellj y3 (k:=1) rfl
  have x2:=heapN_cellj y3 (k:=2) rfl
  have x3:=heapN_cellj y3 (k:=3) rfl
  have x4:=heapN_cellj y3 (k:=4) rfl
  have x5:=heapN_cellj y3 (k:=5) rfl
  have x6:=cell_kept h4.cell (grownBy_putObj' _ W9.heap.size (.deferred none)) (fun r e=>by cases e; exact ⟨_,hK',rfl⟩)
  have x7:=cell_kept h5.cell (grownBy_putObj' _ W9.heap.size (.deferred none)) (fun r e=>by cases e; exact ⟨_,hK',rfl⟩)
  refine ⟨by simp,.inl ⟨_,_,rfl,run_takeDeferred hK',?_⟩⟩
  exact ⟨.tuple #[.agg #[.int .i64 0,.int .i64 0,.slice none 0 0,.slice none 0 0,.slice none 0 0,.slice none 0 0],.int .i64 0,.int .i64 130],by simp [results,Tryz.f15,go_sem,x0,x1,x2,x3,x4,x5,x6,x7],.agg #[.int .i64 0,.int .i64 0,.slice none 0 0,.slice none 0 0,.slice none 0 0,.slice none 0 0],0,130,rfl,⟨rfl,rfl,rfl⟩,hBs.grown (grownBy_putObj' _ W9.heap.size (.deferred none)) hBs.size (fun j e=>by cases e; omega)⟩
 case hstop =>
  rintro c i W ⟨hB,rfl,h,⟨B,V,E⟩,cs,nx,e1,⟨p1,q1,p2,q2,p3,q3,p4,q4,hcs,k1,k2,k3,k4⟩,e3,e4,e5,e6⟩ hK
  injection hcs with hcs
  subst hcs e1
  have h9:=HS9.out
  have HBW:=Lib.hid hB
  have E6:=Lib.hid e6
  clear hB e6
  gi_wp2
  have y3:(W.putObj W9.heap.size (.deferred none)).heap[w.heap.size+1+1+1]? = some (.cells #[.int .i64 T,.int .i64 h,.slice p1 X.length q1,.slice p2 B.length q2,.slice p3 V.length q3,.slice p4 E.length q4] 39 (0,0)):=(World.putObj_heap_other (by omega)).trans e3
  have x0:=heapN_cellj y3 (k:=0) rfl
  have x1:=heapN_cellj y3 (k:=1) rfl
  have x2:=heapN_cellj y3 (k:=2) rfl
  have x3:=heapN_cellj y3 (k:=3) rfl
  have x4:=heapN_cellj y3 (k:=4) rfl
  have x5:=heapN_cellj y3 (k:=5) rfl
  have x6:=cell_kept e4.cell (grownBy_putObj' _ W9.heap.size (.deferred none)) (fun r e=>by cases e; exact ⟨_,hK,rfl⟩)
  have x7:=cell_kept e5.cell (grownBy_putObj' _ W9.heap.size (.deferred none)) (fun r e=>by cases e; exact ⟨_,hK,rfl⟩)
  refine ⟨by simp,.inl ⟨_,_,rfl,run_takeDeferred hK,?_⟩⟩
  exact ⟨.tuple #[.agg #[.int .i64 T,.int .i64 h,.slice p1 X.length q1,.slice p2 B.length q2,.slice p3 V.length q3,.slice p4 E.length q4],.int .i64 nx,.int .i64 0],by simp [results,Tryz.f15,go_sem,x0,x1,x2,x3,x4,x5,x6,x7],_,nx,0,rfl,⟨⟨p1,q1,p2,q2,p3,q3,p4,q4,rfl,(vxf_put k1 hK rfl).mono (by omega),(vxf_put k2 hK rfl).mono (by omega),(vxf_put k3 hK rfl).mono (by omega),(vxf_put k4 hK rfl).mono (by omega)⟩,E6.out,rfl⟩,HBW.out.grown (grownBy_putObj' _ W9.heap.size (.deferred none)) HBW.out.size (fun j e=>by cases e; omega)⟩
theorem Advance_ok (N T La Hq F fi le mo wi:Int) (K:Nat) (vl vo vx:Value) (L:List Is) (O:List Int) (X:List (Int × Int)) (w:World) (hl:Ix w vl L) (ho:Px w vo O) (hx:Vx w vx X) (htv:tvB N L O = true) (hN1:NmL L) (hXN:(X.length:Int) = N) (hvx:AV X) (ht1:-1048576 ≤ T) (ht2:T ≤ 1048576) (hK:K+1 ≤ 8)
  (hF:min Hq (La - T) = F) (f1:1 ≤ F) (f2:F ≤ 1000000) (hq0:0 ≤ Hq) (hq:Hq ≤ 4294967295) (hla1:-4294967296 ≤ La) (hla2:La ≤ 4294967296) (hle:1 ≤ le) (hle2:le ≤ 4294967296) (hmo:-4294967296 ≤ mo∧mo ≤ 4294967296) (R:Option (Int × Sg)) (hR:advI (fun h=>stpI L O X T h K) le wi F = R) :
  Calls Tryz.prog 15 #[.agg #[.int .i64 N,vl,vo],vx,.agg #[.int .i64 K,.int .i64 fi,.int .i64 le,.int .i64 mo,.int .i64 wi,.int .i64 T,.int .i64 La,.int .i64 Hq]] w fun e w'=>∃ s nx er,e = .returned (.tuple #[s,.int .i64 nx,.int .i64 er])∧AdV w.heap.size w' T F Hq mo X R s nx er∧Below w.heap.size w w' :=
 (callsIn_wide (n:=5)).1 (adv_in 5 (by decide) N T La Hq F fi le mo wi K vl vo vx L O X w hl ho hx htv hN1 hXN hvx ht1 ht2 hK hF f1 f2 hq0 hq hla1 hla2 hle hle2 hmo R hR)
end Go.Proofs.YtdfdpghdjlgghaaGreat
