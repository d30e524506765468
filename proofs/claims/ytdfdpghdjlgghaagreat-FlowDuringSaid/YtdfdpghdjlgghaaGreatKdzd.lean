/-
 Sj
-/
import Derived.Test.YtdfdpghdjlgghaaGreatKdo
import Derived.Test.YtdfdpghdjlgghaaGreatKdzc
namespace Go.Proofs.YtdfdpghdjlgghaaGreat
open Go.ChangeShapes Go.WideShapes Go.ChangeAt Go.RowKit Go.Shelf
set_option linter.unusedVariables false
set_option linter.unusedSimpArgs false
set_option maxRecDepth 100000
attribute [local go_sem] Oper.semAt_some
attribute [local irreducible] Calls
def zsB (la:List (Int × Int)):List (Nat × (Int × Int)):=(List.range la.length).map fun j=>(la.length - 1 - j,gI la (la.length - 1 - j))
theorem zsB_len (la:List (Int × Int)):(zsB la).length = la.length:=by simp [zsB]
theorem zsB_at {la:List (Int × Int)} {k:Nat} (h:k < la.length):(zsB la)[k]? = some (la.length - 1 - k,gI la (la.length - 1 - k)):=by simp [zsB,h]
abbrev VZ:={z:Nat × (Int × Int) // VI z.2.1 z.2.2}
theorem vz_map:∀ (l:List (Nat × (Int × Int))),(∀ z ∈ l,VI z.2.1 z.2.2)→∃ zs:List VZ,zs.map Subtype.val = l
 | [],_=>⟨[],rfl⟩
 | z :: l,h=>by
  obtain ⟨zs,e⟩:=vz_map l fun y hy=>h y (List.mem_cons_of_mem _ hy)
  exact ⟨⟨z,h z List.mem_cons_self⟩ :: zs,by rw [List.map_cons,e]⟩
theorem rx_take {α:Type} {enc:α→List Value} {sz:Nat} {w:World} {p:Option Addr} {c m n:Nat} {l:List α} (h:Rx enc sz w (.slice p n c) l) (hm:m ≤ l.length):Rx enc sz w (.slice p m c) (l.take m):=by
 obtain ⟨h1,p',c',e,h2⟩:=h
 cases e
 refine ⟨by rw [List.length_take]; omega,p,c,by rw [List.length_take,Nat.min_eq_left hm],fun i x hx=>?_⟩
 rw [List.getElem?_take] at hx
 split at hx
 ·exact h2 i x hx
 ·cases hx
set_option maxHeartbeats 4000000 in
theorem back1_in (n:Nat) (hn:1 ≤ n) (l x:Nat) (va:Value) (la:List (Int × Int)) (w W:World) (hva:Vx w va la) (hsm:la.length ≤ 1000)
  (hB:Below w.heap.size w W) (hx:Boxed W x 23 va) {α:Type} (val:α→Nat × (Int × Int)) (zs:List α) (hzs:zs.map val = zsB la) (J Jx:List α→World→Prop) (hJ:AbidesFrom W.heap.size J)
  (hY:∀ pre z W1,J pre W1→pre.length < zs.length→YieldAt Fence.wide (n - 1) Tryz.prog l #[.int .i64 ((val z).1:Int),iva (val z).2] W1 fun e W' =>
   (e = .returned (.bool true)∧J (pre ++ [z]) W'∧KpB w.heap.size x x W1 W') ∨ (e = .returned (.bool false)∧Jx (pre ++ [z]) W')) (h0:J [] W) :
  CallsIn Fence.wide n Tryz.prog 225 #[.func (.yield l) #[] #[],.pointer (some ⟨x,0,none⟩)] W fun e W'=>(∃ v,e = .returned v) ∧
   ((∃ ys,ys = zs∧J ys W') ∨ (∃ pre,pre <+: zs∧Jx pre W')):=by
 obtain ⟨p,c,rfl⟩:=hva.cut
 have hx0:=hx.cell
 have hln:zs.length = la.length:=by have:=congrArg List.length hzs; rwa [List.length_map,zsB_len] at this
 have HVA:=Lib.hid hva
 have hw0:IntKind.i64.wrap ((la.length:Int) - 1) = (la.length:Int) - 1:=wrapN _ (by omega) (by omega)
 clear hva
 refine callsIn_of_wp Tryz.func225 rfl trivial ?_ rfl
 simp only [Tryz.ntmps225,List.size_toArray,List.length_cons,List.length_nil,Nat.reduceAdd,Nat.reduceSub,Array.replicate_succ,Array.replicate_zero,List.push_toArray,List.append_toArray,List.nil_append,List.cons_append]
 gi_wp2
 clear hw0
 gi_loopw [3] (fun i wr=>∃ (k:Nat) (q:Int),k ≤ la.length∧i = .int .i64 q∧Hid (q = (la.length:Int) - 1 - k)∧J (zs.take k) wr∧KpB w.heap.size x x W wr) (fun i _=>(intOf i+1).toNat)
 case atStart=>exact ⟨0,_,Nat.zero_le _,rfl,Lib.hid (by simp),h0,Below.refl _ _,rfl,rfl⟩
 case round =>
  obtain ⟨k,q,hk,rfl,HQ,hJs,hnx,hkx,hky⟩:=hrel
  have bx:Boxed wr x 23 _:=hkx.trans hx
  have bx0:=bx.cell
  by_cases hlt:k < la.length
  ·obtain ⟨r,hr⟩:∃ r:Nat,la.length - 1 - k = r:=⟨_,rfl⟩
   obtain ⟨z,hz⟩:∃ z,zs[k]? = some z:=⟨_,List.getElem?_eq_getElem (by rw [hln]; exact hlt)⟩
   have hzv:val z = (r,gI la r):=by
    have h1:=zsB_at hlt
    rw [← hzs,List.getElem?_map,hz,hr] at h1
    exact Option.some.inj h1
   have hqr:q = (r:Int):=by have:=HQ.out; omega
   subst hqr
   have hrl:r < la.length:=by omega
   obtain ⟨b,o,rfl,hb,rd⟩:=vx_rd HVA.out (g_of hrl)
   obtain ⟨c1,c2⟩:=rd ⟨wr,hB.trans hnx⟩
   dsimp only at c1 c2
   have HZ:Hid (zs.take (k+1) = zs.take k ++ [z]):=by
    rw [List.take_add_one,hz]
    rfl
   have i2:(r:Int) < la.length:=by omega
   have i3:(0:Int) ≤ r:=by omega
   obtain ⟨fn,tmps,assign,body,hy',hR⟩:=hY (zs.take k) z wr hJs (by rw [List.length_take]; omega)
   simp only [hzv,iva] at hy'
   have HR:=Lib.hid hR
   have HQ2:=Lib.hid (show (r:Int) = (la.length:Int) - 1 - k from HQ.out)
   have hwr:IntKind.i64.wrap ((r:Int) - 1) = (r:Int) - 1:=wrapN _ (by omega) (by omega)
   clear hz hzv hR rd hY hr HQ
   gi_wp2
   refine HR.out.mono ?_
   rintro e W3 (⟨rfl,hJ3,hk3⟩ | ⟨rfl,hJx3⟩)
   ·gi_wp2
    go_roundw
    case rel=>exact ⟨k+1,_,by omega,rfl,Lib.hid (by have:=HQ2.out; rw [this]; omega),by rw [HZ.out]; exact hJ3,KpB.trans ⟨hnx,hkx,hky⟩ hk3⟩
    case measure=>simp [intOf]
   ·gi_wp2
    refine bodyPost_ret (results_none rfl _ _ _) rfl ?_
    exact ⟨⟨_,rfl⟩,.inr ⟨_,by rw [← HZ.out]; exact List.take_prefix _ _,hJx3⟩⟩
  ·obtain rfl:k = la.length:=by omega
   have i3:¬ (0:Int) ≤ q:=by have:=HQ.out; omega
   gi_wp2
   go_end0
   rw [← hln,List.take_length] at hJs
   exact ⟨⟨_,rfl⟩,.inl hJs⟩
theorem back_stops (n:Nat) (hn:1 ≤ n) (x:Nat) (va:Value) (la:List (Int × Int)) (w W0:World) (hva:Vx w va la) (hsm:la.length ≤ 1000) (hB:Below w.heap.size w W0) (hx:Boxed W0 x 23 va) {α:Type} (val:α→Nat × (Int × Int)) (zs:List α) (hzs:zs.map val = zsB la) :
  SeqStopsK Fence.wide n Tryz.prog 225 #[.pointer (some ⟨x,0,none⟩)] (fun z:α=>#[.int .i64 ((val z).1:Int),iva (val z).2]) (KpB w.heap.size x x)
   (fun ys=>ys = zs) (fun pre=>pre <+: zs) zs.length W0:=fun l J Jx W hW hJ _ hY h0 =>
 back1_in n hn l x va la w W hva hsm (hB.trans (hW.mono hB.size)) ((hW.block _ hx.lt).trans hx) val zs hzs J Jx hJ hY h0
theorem back_in (n:Nat) (a:Option Addr) (la ca:Nat) (w:World) :
  CallsIn Fence.wide n Tryz.prog 198 #[.slice a la ca] w fun e w'=>e = .returned (.func (.func 225) #[] #[.pointer (some ⟨w.heap.size,0,none⟩)]) ∧
   w' = w.alloc (.cells #[.slice a la ca] 23):=by
 refine callsIn_of_wp Tryz.func198 rfl trivial ?_ rfl
 simp only [Tryz.ntmps198,List.size_toArray,List.length_cons,List.length_nil,Nat.reduceAdd,Nat.reduceSub,Array.replicate_succ,Array.replicate_zero,List.push_toArray,List.append_toArray,List.nil_append,List.cons_append]
 gi_wp2
 go_ret
 exact ⟨rfl,rfl⟩
def hoF (h:Int × Int) (v:Int × Int) (z:Nat × (Int × Int)):Int × Int:=opI 7 (opI 9 v h) z.2
theorem zsB_snd (la:List (Int × Int)):(zsB la).map Prod.snd = la.reverse:=by
 apply List.ext_getElem
 ·simp [zsB]
 ·intro i h1 h2
  rw [List.length_map,zsB_len] at h1
  simp only [zsB,List.map_map,List.getElem_map,List.getElem_range,Function.comp,List.getElem_reverse]
  unfold gI
  rw [List.getD_eq_getElem?_getD,List.getElem?_eq_getElem (by omega)]
  rfl
theorem hoI_cons (h c:Int × Int) {r:List (Int × Int)} (hr:r ≠ []):hoI h (c :: r) = opI 7 (opI 9 (hoI h r) h) c:=by
 cases r with
 | nil=>exact absurd rfl hr
 | cons d r=>rfl
theorem hoI_fold (h t:Int × Int):∀ la:List (Int × Int),la.foldr (fun c v=>opI 7 (opI 9 v h) c) t = hoI h (la ++ [t])
 | []=>rfl
 | c :: la=>by rw [List.foldr_cons,hoI_fold h t la,List.cons_append,hoI_cons h c (by simp)]
theorem hoF_all (h t:Int × Int) (la:List (Int × Int)):(zsB la).foldl (hoF h) t = hoI h (la ++ [t]):=by
 have e:∀ (l:List (Nat × (Int × Int))) (u:Int × Int),l.foldl (hoF h) u = (l.map Prod.snd).foldl (fun v c=>opI 7 (opI 9 v h) c) u:=by
  intro l
  induction l with
  | nil=>intro u; rfl
  | cons z l ih=>intro u; rw [List.foldl_cons,ih,List.map_cons,List.foldl_cons]; rfl
 rw [e,zsB_snd,List.foldl_reverse,hoI_fold]
theorem hoF_vi {h:Int × Int} (hh:VI h.1 h.2):∀ (pre:List VZ) {t:Int × Int},VI t.1 t.2→VI ((pre.map Subtype.val).foldl (hoF h) t).1 ((pre.map Subtype.val).foldl (hoF h) t).2
 | [],_,ht=>ht
 | z :: pre,t,ht=>by
  rw [List.map_cons,List.foldl_cons]
  exact hoF_vi hh pre (opI_vi 7 (opI_vi 9 ht hh) z.2)
theorem av_take {l:List (Int × Int)} (h:AV l) (m:Nat):AV (l.take m):=fun p hp=>h p (List.mem_of_mem_take hp)
theorem zsB_vi {la:List (Int × Int)} (h:AV la):∀ z ∈ zsB la,VI z.2.1 z.2.2:=by
 intro z hz
 obtain ⟨j,_,rfl⟩:=List.mem_map.1 hz
 exact gI_vi h _
def CutOk (v:Value):Prop:=∀ p n c,v = .slice p n c→n ≤ c
set_option maxHeartbeats 16000000 in
theorem horner_in (n:Nat) (hn:3 ≤ n) (va:Value) (la:List (Int × Int)) (h0 h1:Int) (w:World) (hva:Vx w va la) (hcap:CutOk va) (hsm:la.length ≤ 1000) (hne:la ≠ []) (hv:AV la) (hvh:VI h0 h1) :
  CallsIn Fence.wide n Tryz.prog 175 #[.agg domV,va,.agg #[.int .i64 h0,.int .i64 h1]] w fun e W'=>e = .returned (iva (hoI (h0,h1) la))∧Below w.heap.size w W':=by
 have hn1:1 ≤ n:=by omega
 obtain ⟨m,hm⟩:∃ m,la.length = m+1:=⟨la.length - 1,by have:=List.length_pos_iff.2 hne; omega⟩
 obtain ⟨p,c,rfl⟩:=hva.cut
 have hc:=hcap _ _ _ rfl
 clear hcap
 rw [hm] at hva hc ⊢
 have hc2:(m:Int) ≤ c:=by omega
 have hml:m < la.length:=by omega
 obtain ⟨ba,oa,rfl,hba,rda⟩:=vx_rd hva (g_of hml)
 obtain ⟨t,ht⟩:∃ t,gI la m = t:=⟨_,rfl⟩
 have vt:VI t.1 t.2:=by rw [← ht]; exact gI_vi hv m
 rw [ht] at rda
 have hsplit:la.take m ++ [t] = la:=by
  have h1:=List.take_add_one (l:=la) (i:=m)
  rw [g_of hml,ht,List.take_of_length_le (by omega)] at h1
  exact h1.symm
 have hres:hoI (h0,h1) la = (zsB (la.take m)).foldl (hoF (h0,h1)) t:=by rw [hoF_all,hsplit]
 obtain ⟨zs,hzs⟩:=vz_map _ (zsB_vi (av_take hv m))
 rw [hres,← hzs]
 have HA:=Lib.hid (rx_take hva (Nat.le_of_lt hml))
 have hlt:(la.take m).length = m:=by rw [List.length_take]; omega
 have HL:=Lib.hid hlt
 obtain ⟨la',hla'⟩:∃ l,la.take m = l:=⟨_,rfl⟩
 rw [hla'] at hzs HA HL
 have HZS:=Lib.hid hzs
 clear hva hsplit hres hzs hlt hla' ht hv hne hml
 obtain ⟨t0,t1⟩:=t
 have hE3:Below w.heap.size w (((w.alloc (.cells domV 201)).alloc (.cells #[.int .i64 h0,.int .i64 h1] 66)).alloc (.cells #[.int .i64 0,.int .i64 0] 66)):=allocs_below [.cells domV 201,.cells #[.int .i64 h0,.int .i64 h1] 66,.cells #[.int .i64 0,.int .i64 0] 66] w
 obtain ⟨f0,f1⟩:=rda ⟨(((w.alloc (.cells domV 201)).alloc (.cells #[.int .i64 h0,.int .i64 h1] 66)).alloc (.cells #[.int .i64 0,.int .i64 0] 66)),hE3⟩
 dsimp only at f0 f1
 refine callsIn_of_wp_marks Tryz.func175 rfl trivial ?_ rfl
 simp only [Tryz.ntmps175,List.size_toArray,List.length_cons,List.length_nil,Nat.reduceAdd,Nat.reduceSub,Array.replicate_succ,Array.replicate_zero,List.push_toArray,List.append_toArray,List.nil_append,List.cons_append]
 gi_wp2_with (refine ⟨trivial,?_⟩; gi_at_call 198; refine (back_in (n - 1) _ _ _ _).mono ?_; rintro e w' ⟨rfl,rfl⟩)
 have hB0:Below w.heap.size w (((((w.alloc (.cells domV 201)).alloc (.cells #[.int .i64 h0,.int .i64 h1] 66)).alloc (.cells #[.int .i64 0,.int .i64 0] 66)).alloc (.cells #[.int .i64 t0,.int .i64 t1] 66)).alloc (.cells #[.slice (some ⟨ba,oa,none⟩) m c] 23)):=allocs_below [.cells domV 201,.cells #[.int .i64 h0,.int .i64 h1] 66,.cells #[.int .i64 0,.int .i64 0] 66,.cells #[.int .i64 t0,.int .i64 t1] 66,.cells #[.slice (some ⟨ba,oa,none⟩) m c] 23] w
 have b0:Blk (((((w.alloc (.cells domV 201)).alloc (.cells #[.int .i64 h0,.int .i64 h1] 66)).alloc (.cells #[.int .i64 0,.int .i64 0] 66)).alloc (.cells #[.int .i64 t0,.int .i64 t1] 66)).alloc (.cells #[.slice (some ⟨ba,oa,none⟩) m c] 23)) (w.heap.size) (.cells domV 201):=allocs_at [.cells domV 201,.cells #[.int .i64 h0,.int .i64 h1] 66,.cells #[.int .i64 0,.int .i64 0] 66,.cells #[.int .i64 t0,.int .i64 t1] 66,.cells #[.slice (some ⟨ba,oa,none⟩) m c] 23] w 0 _ rfl
 have b1:IvBox (((((w.alloc (.cells domV 201)).alloc (.cells #[.int .i64 h0,.int .i64 h1] 66)).alloc (.cells #[.int .i64 0,.int .i64 0] 66)).alloc (.cells #[.int .i64 t0,.int .i64 t1] 66)).alloc (.cells #[.slice (some ⟨ba,oa,none⟩) m c] 23)) (w.heap.size+1) (h0,h1):=allocs_at [.cells domV 201,.cells #[.int .i64 h0,.int .i64 h1] 66,.cells #[.int .i64 0,.int .i64 0] 66,.cells #[.int .i64 t0,.int .i64 t1] 66,.cells #[.slice (some ⟨ba,oa,none⟩) m c] 23] w 1 _ rfl
 have b2:IvBox (((((w.alloc (.cells domV 201)).alloc (.cells #[.int .i64 h0,.int .i64 h1] 66)).alloc (.cells #[.int .i64 0,.int .i64 0] 66)).alloc (.cells #[.int .i64 t0,.int .i64 t1] 66)).alloc (.cells #[.slice (some ⟨ba,oa,none⟩) m c] 23)) (w.heap.size+1+1) (0,0):=allocs_at [.cells domV 201,.cells #[.int .i64 h0,.int .i64 h1] 66,.cells #[.int .i64 0,.int .i64 0] 66,.cells #[.int .i64 t0,.int .i64 t1] 66,.cells #[.slice (some ⟨ba,oa,none⟩) m c] 23] w 2 _ rfl
 have b3:IvBox (((((w.alloc (.cells domV 201)).alloc (.cells #[.int .i64 h0,.int .i64 h1] 66)).alloc (.cells #[.int .i64 0,.int .i64 0] 66)).alloc (.cells #[.int .i64 t0,.int .i64 t1] 66)).alloc (.cells #[.slice (some ⟨ba,oa,none⟩) m c] 23)) (w.heap.size+1+1+1) (t0,t1):=allocs_at [.cells domV 201,.cells #[.int .i64 h0,.int .i64 h1] 66,.cells #[.int .i64 0,.int .i64 0] 66,.cells #[.int .i64 t0,.int .i64 t1] 66,.cells #[.slice (some ⟨ba,oa,none⟩) m c] 23] w 3 _ rfl
 have b4:Boxed (((((w.alloc (.cells domV 201)).alloc (.cells #[.int .i64 h0,.int .i64 h1] 66)).alloc (.cells #[.int .i64 0,.int .i64 0] 66)).alloc (.cells #[.int .i64 t0,.int .i64 t1] 66)).alloc (.cells #[.slice (some ⟨ba,oa,none⟩) m c] 23)) (w.heap.size+1+1+1+1) 23 (.slice (some ⟨ba,oa,none⟩) m c):=allocs_at [.cells domV 201,.cells #[.int .i64 h0,.int .i64 h1] 66,.cells #[.int .i64 0,.int .i64 0] 66,.cells #[.int .i64 t0,.int .i64 t1] 66,.cells #[.slice (some ⟨ba,oa,none⟩) m c] 23] w 4 _ rfl
 have hsz:(((((w.alloc (.cells domV 201)).alloc (.cells #[.int .i64 h0,.int .i64 h1] 66)).alloc (.cells #[.int .i64 0,.int .i64 0] 66)).alloc (.cells #[.int .i64 t0,.int .i64 t1] 66)).alloc (.cells #[.slice (some ⟨ba,oa,none⟩) m c] 23)).heap.size = w.heap.size+5:=by simp
 obtain ⟨W0,hW0⟩:∃ W0,(((((w.alloc (.cells domV 201)).alloc (.cells #[.int .i64 h0,.int .i64 h1] 66)).alloc (.cells #[.int .i64 0,.int .i64 0] 66)).alloc (.cells #[.int .i64 t0,.int .i64 t1] 66)).alloc (.cells #[.slice (some ⟨ba,oa,none⟩) m c] 23)) = W0:=⟨_,rfl⟩
 rw [hW0] at b0 b1 b2 b3 b4 hB0 hsz ⊢
 clear hW0 f0 f1 hE3
 refine wpIn_rangeFunc_ownH rfl hn1 (gf:=225) (lb:=#[.pointer (some ⟨w.heap.size+1+1+1+1,0,none⟩)]) rfl trivial (enters_of Tryz.func225 (by kernel_rfl) rfl)
  (back_stops (n - 1) (by omega) (w.heap.size+1+1+1+1) _ la' w W0 HA.out (by have:=HL.out; omega) hB0 b4 Subtype.val zs HZS.out) KpB.trans (fun W l o o' hl ho hoc _=>kpb_put (by omega) (by omega) (by omega)) (Below.refl _ _) (fun _=>rfl)
  (fun pre W=>(Blk W (w.heap.size) (.cells domV 201)∧IvBox W (w.heap.size+1) (h0,h1)∧IvBox W (w.heap.size+1+1) (0,0)∧IvBox W (w.heap.size+1+1+1) ((pre.map Subtype.val).foldl (hoF (h0,h1)) (t0,t1))∧Boxed W (w.heap.size+1+1+1+1) 23 (.slice (some ⟨ba,oa,none⟩) m c))∧Below w.heap.size w W)
  (fun _ _ _=>False)
  (OwnFrom.and (fun s A B row hs hg hr=>⟨own_block hg hr hs.1,own_block hg hr hs.2.1,own_block hg hr hs.2.2.1,own_block hg hr hs.2.2.2.1,own_block hg hr hs.2.2.2.2⟩) (ownFrom_below (Nat.le_refl _) (by omega)))
  (fun _ _ _ _ _ hs _ _=>hs)
  ⟨⟨b0,b1,b2,b3,b4⟩,hB0⟩
  (fun z a' W=>∃ X,IvBox W X z.1.2∧a' = { tmps:=#[.agg domV,.slice (some ⟨ba,oa,none⟩) (m+1) c,.agg #[.int .i64 h0,.int .i64 h1],.pointer (some ⟨w.heap.size,0,none⟩),undef,.pointer (some ⟨w.heap.size+1,0,none⟩),.pointer (some ⟨w.heap.size+1+1,0,none⟩),.int .i64 (m:Int),.pointer (some ⟨w.heap.size+1+1+1,0,none⟩),undef,.pointer (some ⟨X,0,none⟩),
   .slice (some ⟨ba,oa,none⟩) (m+1) c,.int .i64 ((m:Int)+1),.bool false,undef,undef,undef,undef,.slice (some ⟨ba,oa,none⟩) (m+1) c,.int .i64 ((m:Int)+1),.int .i64 (m:Int),.slice (some ⟨ba,oa,none⟩) (m+1) c,.int .i64 (m:Int),.pointer (some ⟨ba,oa+m * 2,none⟩),.agg #[.int .i64 t0,.int .i64 t1],.slice (some ⟨ba,oa,none⟩) (m+1) c,.int .i64 (m:Int),.slice (some ⟨ba,oa,none⟩) m c,
   .func (.func 225) #[] #[.pointer (some ⟨w.heap.size+1+1+1+1,0,none⟩)],.int .i64 (z.1.1:Int),.agg #[.int .i64 z.1.2.1,.int .i64 z.1.2.2],undef,undef,undef,undef,undef,undef,undef,undef,undef,undef],defers:=[] })
  (fun z a' _ A B row hs hg hr=>by obtain ⟨X,h1,h3⟩:=hs; exact ⟨X,own_block hg hr h1,h3⟩) ?assign ?body ?done ?stop
 case assign =>
  rintro l pre ⟨⟨j,⟨x1,y1⟩⟩,hz⟩ W K hI hK
  simp only [iva]
  gi_wp2
  obtain ⟨⟨i1,i2,i3,i4,i5⟩,i6⟩:=hI
  exact hK _ _ ((KeepsOthers.alloc _ _).from _) ⟨(Below.refl _ W).alloc i6.size _,(i5.alloc _).trans i5.symm,(i5.alloc _).trans i5.symm⟩
   ⟨⟨(Below.heap_alloc _ _ _ (Array.getElem?_eq_some_iff.1 i1).1).trans i1,i2.alloc _,i3.alloc _,i4.alloc _,i5.alloc _⟩,i6.alloc i6.size _⟩ ⟨W.heap.size,IvBox.new W x1 y1,rfl⟩
 case body =>
  rintro l pre ⟨⟨j,⟨x1,y1⟩⟩,hz⟩ a' W hl ⟨r,hr⟩ ⟨⟨c0,c1,c2,c3,c4⟩,hB⟩ ⟨X,hX,rfl⟩ hlt
  have hV1:VI x1 y1:=hz
  have hVs:=hoF_vi (h:=(h0,h1)) hvh pre (t:=(t0,t1)) vt
  have hsn:((pre ++ [⟨(j,(x1,y1)),hz⟩]:List VZ).map Subtype.val).foldl (hoF (h0,h1)) (t0,t1) = opI 7 (opI 9 ((pre.map Subtype.val).foldl (hoF (h0,h1)) (t0,t1)) (h0,h1)) (x1,y1):=by
   rw [List.map_append,List.foldl_append]
   rfl
  generalize (pre.map Subtype.val).foldl (hoF (h0,h1)) (t0,t1) = s at *
  obtain ⟨s1,s2⟩:=s
  obtain ⟨m9,hm9⟩:∃ m9,opI 9 (s1,s2) (h0,h1) = m9:=⟨_,rfl⟩
  have v9:=opI_vi 9 hVs (q:=(h0,h1)) hvh
  rw [hm9] at v9 hsn
  obtain ⟨m0,m1⟩:=m9
  have k1:=fun w=>iv_mul s1 s2 h0 h1 w hVs hvh
  obtain ⟨e0,e1⟩:=Prod.mk.inj ((op_mul s1 s2 h0 h1).symm.trans hm9)
  rw [e0,e1] at k1
  have k2:=fun w=>iv_add m0 m1 x1 y1 w v9 hV1
  obtain ⟨r9,hr9⟩:∃ r9,opI 7 (m0,m1) (x1,y1) = r9:=⟨_,rfl⟩
  rw [hr9] at hsn
  obtain ⟨r0,r1⟩:=r9
  obtain ⟨e2,e3⟩:=Prod.mk.inj ((op_add m0 m1 x1 y1).symm.trans hr9)
  rw [e2,e3] at k2
  have HS:=Lib.hid hsn
  clear hsn e0 e1 e2 e3 hm9 hr9 v9 hVs
  have l0:=(Array.getElem?_eq_some_iff.1 c0).1
  have lX:=hX.lt
  have l1:=c1.lt
  have l3:=c3.lt
  have d4:W.cell? ⟨w.heap.size,4,none⟩ = some (.func (.func 165) #[] #[]):=heapN_cellj c0 (k:=4) rfl
  have d7:W.cell? ⟨w.heap.size,7,none⟩ = some (.func (.func 166) #[] #[]):=heapN_cellj c0 (k:=7) rfl
  have x0':=hX.cell0
  have x1':=hX.cell1
  have g0':=c1.cell0
  have g1':=c1.cell1
  have s0':=c3.cell0
  have s1':=c3.cell1
  dsimp only at x0' x1' g0' g1' s0' s1'
  gi_wp2
  refine region_in (F:=Fence.wide.inRound l) 9 (round_fn l) rfl (round_call l) (by kernel_rfl) (by kernel_rfl) ?_
  refine data_op (.pointer (some ⟨w.heap.size,4,none⟩)) rfl (RQ_pure (fun w=>by simp [go_sem])) ?_
  simp only [Act.put,List.setIfInBounds_toArray,List.set_cons_succ,List.set_cons_zero]
  refine data_op (.func (.func 165) #[] #[]) rfl (RQ_load rfl rfl (fun g=>by simp [go_sem,(g.cell (o:=4) l0).trans d4])) ?_
  simp only [Act.put,List.setIfInBounds_toArray,List.set_cons_succ,List.set_cons_zero]
  refine data_op (.pointer (some ⟨w.heap.size,7,none⟩)) rfl (RQ_pure (fun w=>by simp [go_sem])) ?_
  simp only [Act.put,List.setIfInBounds_toArray,List.set_cons_succ,List.set_cons_zero]
  refine data_op (.func (.func 166) #[] #[]) rfl (RQ_load rfl rfl (fun g=>by simp [go_sem,(g.cell (o:=7) l0).trans d7])) ?_
  simp only [Act.put,List.setIfInBounds_toArray,List.set_cons_succ,List.set_cons_zero]
  refine data_op (.agg #[.int .i64 s1,.int .i64 s2]) rfl (RQ_load rfl rfl (load_iv l3 s0' s1')) ?_
  simp only [Act.put,List.setIfInBounds_toArray,List.set_cons_succ,List.set_cons_zero]
  refine data_op (.agg #[.int .i64 h0,.int .i64 h1]) rfl (RQ_load rfl rfl (load_iv l1 g0' g1')) ?_
  simp only [Act.put,List.setIfInBounds_toArray,List.set_cons_succ,List.set_cons_zero]
  refine data_op (.agg #[.int .i64 m0,.int .i64 m1]) rfl (RQ_call k1 (fun _=>by simp [go_sem])) ?_
  simp only [Act.put,List.setIfInBounds_toArray,List.set_cons_succ,List.set_cons_zero]
  refine data_op (.agg #[.int .i64 x1,.int .i64 y1]) rfl (RQ_load rfl rfl (load_iv lX x0' x1')) ?_
  simp only [Act.put,List.setIfInBounds_toArray,List.set_cons_succ,List.set_cons_zero]
  refine data_op (.agg #[.int .i64 r0,.int .i64 r1]) rfl (RQ_call k2 (fun _=>by simp [go_sem])) ?_
  simp only [Act.put,List.setIfInBounds_toArray,List.set_cons_succ,List.set_cons_zero]
  refine data_end ?_
  intro w5 hB5
  simp only [List.drop_succ_cons,List.drop_zero]
  have d0:Blk w5 (w.heap.size) (.cells domV 201):=(hB5.block _ l0).trans c0
  have d1:IvBox w5 (w.heap.size+1) _:=(hB5.block _ c1.lt).trans c1
  have d2:IvBox w5 (w.heap.size+1+1) _:=(hB5.block _ c2.lt).trans c2
  have d3:IvBox w5 (w.heap.size+1+1+1) _:=(hB5.block _ c3.lt).trans c3
  have d4:Boxed w5 (w.heap.size+1+1+1+1) _ _:=(hB5.block _ c4.lt).trans c4
  have hK5:∀ B,KeepsFrom B W w5:=fun _=>⟨hB5.size,fun k o _ hk _=>(hB5.block k (Array.getElem?_eq_some_iff.1 hk).1).trans hk⟩
  have hB':Below w.heap.size w w5:=hB.trans (hB5.mono hB.size)
  have e0:=d3.cell0
  have e1:=d3.cell1
  have e2:=d3.frozen 0
  have e3:=d3.frozen 1
  gi_wp2
  have hS:=d3.set r0 r1
  have o0:∀ u v k,k ≠ w.heap.size+1+1+1→((w5.setCell ⟨w.heap.size+1+1+1,0,none⟩ u).setCell ⟨w.heap.size+1+1+1,1,none⟩ v).heap[k]? = w5.heap[k]?:=fun u v k h=>(heap_set h).trans (heap_set h)
  refine ⟨(hK5 _).trans (((KeepsOthers.setCell _ _ _).trans (KeepsOthers.setCell _ _ _)).from _),⟨((hB5.mono hB.size).setCell (p:=⟨w.heap.size+1+1+1,0,none⟩) (by dsimp only; omega) _).setCell (p:=⟨w.heap.size+1+1+1,1,none⟩) (by dsimp only; omega) _,?_,?_⟩,⟨?_,?_,?_,?_,?_⟩,
   (hB'.setCell (p:=⟨w.heap.size+1+1+1,0,none⟩) (by dsimp only; omega) _).setCell (p:=⟨w.heap.size+1+1+1,1,none⟩) (by dsimp only; omega) _⟩
  ·exact (o0 _ _ _ (by omega)).trans (d4.trans c4.symm)
  ·exact (o0 _ _ _ (by omega)).trans (d4.trans c4.symm)
  ·exact (o0 _ _ _ (by omega)).trans d0
  ·exact (o0 _ _ _ (by omega)).trans d1
  ·exact (o0 _ _ _ (by omega)).trans d2
  ·rw [HS.out]
   exact hS
  ·exact (o0 _ _ _ (by omega)).trans d4
 case done =>
  rintro D ys W hD rfl ⟨⟨c0,c1,c2,c3,c4⟩,hB⟩ hK
  obtain ⟨s,hse⟩:∃ s,(ys.map Subtype.val).foldl (hoF (h0,h1)) (t0,t1) = s:=⟨_,rfl⟩
  rw [hse] at c3
  have HSE:=Lib.hid hse
  clear hse
  obtain ⟨s1,s2⟩:=s
  have f0:=c2.frozen 0
  have f1:=c2.frozen 1
  have r0:=c2.cell0
  have r1:=c2.cell1
  have s0':=c3.cell0
  have s1':=c3.cell1
  dsimp only at s0' s1' r0 r1
  gi_wp2
  have hK':=((KeepsOthers.setCell W ⟨w.heap.size+1+1,0,none⟩ (.int .i64 s1)).trans (KeepsOthers.setCell _ ⟨w.heap.size+1+1,1,none⟩ (.int .i64 s2))).same D _ hK rfl
  refine ⟨by simp,.inl ⟨_,_,rfl,run_takeDeferred hK',?_⟩⟩
  have hS:=c2.set s1 s2
  have hc0:=cell_kept hS.cell0 (grownBy_putObj' _ D (.deferred none)) (fun r e=>by cases e; exact ⟨_,hK',rfl⟩)
  have hc1:=cell_kept hS.cell1 (grownBy_putObj' _ D (.deferred none)) (fun r e=>by cases e; exact ⟨_,hK',rfl⟩)
  dsimp only at hc0 hc1
  refine ⟨iva (s1,s2),?_,by rw [HSE.out],((hB.setCell (p:=⟨w.heap.size+1+1,0,none⟩) (by dsimp only; omega) _).setCell (p:=⟨w.heap.size+1+1,1,none⟩) (by dsimp only; omega) _).trans (belowK_b (w:=w) (Nat.le_refl _) _ D _ _ (by omega) hK' rfl rfl)⟩
  simp [results,Tryz.f175,go_sem,hc0,hc1,iva]
 case stop =>
  rintro D k pre W hD hpre h _
  exact h.elim
end Go.Proofs.YtdfdpghdjlgghaaGreat
