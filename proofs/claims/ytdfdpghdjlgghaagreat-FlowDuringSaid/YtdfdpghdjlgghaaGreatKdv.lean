/-
 Gc Gd
-/
import Derived.Test.YtdfdpghdjlgghaaGreatKdt
import Derived.Test.YtdfdpghdjlgghaaGreatKdu
import Derived.Lib.LazyBuf
namespace Go.Proofs.YtdfdpghdjlgghaaGreat
open Go.ChangeShapes Go.WideShapes Go.ChangeAt Go.RowKit
set_option linter.unusedVariables false
set_option linter.unusedSimpArgs false
set_option maxRecDepth 100000
attribute [local irreducible] Calls
theorem clone14 (v:Value) (l:List (Int × Int)) (w:World) (hv:Vx w v l) (hne:0 < l.length) (hsm:l.length ≤ 1000) :
  Calls Tryz.prog 66 #[v] w fun e W'=>∃ p c,e = .returned (.slice p l.length c)∧W'.ownsRow w.heap.size 66 2 (.slice p l.length c) l.length (cr encB l)∧Below w.heap.size w W':=by
 refine (clone_iv v l w (vx_bx hv) hne hsm).mono ?_
 rintro e w1 ⟨g,c,rfl,ho,hB⟩
 have hc:cz l = cr encB l:=by
  clear hv hne hsm ho
  induction l with
  | nil=>rfl
  | cons p l ih=>show _ :: _ :: cz l = _; rw [ih]; rfl
 rw [hc] at ho
 exact ⟨_,_,rfl,ho,hB⟩
abbrev OwI (B:Nat) (W:World) (p:Option Addr) (c:Nat) (l:List (Int × Int)):Prop:=W.ownsRow B 66 2 (.slice p l.length c) l.length (cr encB l)
theorem OwI.vx {B:Nat} {W:World} {p:Option Addr} {c:Nat} {l:List (Int × Int)} (h:OwI B W p c l) (hl:l.length ≤ 1000):Vx W (.slice p l.length c) l:=Rx.own encB_len h (by unfold maxLen; omega)
theorem End_nil (p:Option Addr) (c:Nat) (w:World):Calls Tryz.prog 22 #[.slice p 0 c] w fun e w'=>e = .returned (.tuple #[.slice none 0 0,.int .i64 0,.bool false])∧Below w.heap.size w w':=by
 go_enter Tryz.func22,Tryz.ntmps22
 go_wp2_with (fail)
 go_ret3
 exact ⟨rfl,Below.refl _ _⟩
set_option maxHeartbeats 8000000 in
theorem End_ok (p:Option Addr) (c m:Nat) (l:List Sr) (x:Sr) (w:World) (hs:l.length ≤ 256) (hl:Fx w (.slice p (m+1) c) l) (hlen:l.length = m+1) (hx:l[m]? = some x) (hn:0 < x.E.length) (hn6:x.E.length ≤ 6) (h1:-4294967296 ≤ x.t+x.h) (h2:x.t+x.h ≤ 4294967296) :
  Calls Tryz.prog 22 #[.slice p (m+1) c] w fun e w'=>∃ q d,e = .returned (.tuple #[.slice q x.E.length d,.int .i64 (x.t+x.h),.bool true])∧OwI w.heap.size w' q d x.E∧Below w.heap.size w w':=by
 obtain ⟨b,o,hp,hb,rd⟩:=zx_rd hl.1 hx
 have hse:=(hl.2 x (List.mem_of_getElem? hx)).e
 subst hp
 obtain ⟨T,H,fp,pp,up,ep,fc,pc,uc,ec,F,P,U,E⟩:=x
 dsimp only at *
 have KE:=Lib.hid (fun nf np nu w=>end_ok T H fp pp up ep nf fc np pc nu uc E.length ec w h1 h2)
 have KC:=Lib.hid (fun w hv=>clone14 (.slice ep E.length ec) E w hv hn (by omega))
 obtain ⟨x0,x1,x2,x3,x4,x5⟩:=rd ⟨w,Below.refl _ _⟩
 dsimp only at x0 x1 x2 x3 x4 x5
 have HE0:=Lib.hid hse
 obtain ⟨d,hd⟩:∃ d,T+H = d:=⟨_,rfl⟩
 rw [hd] at KE ⊢
 generalize F.length = nf at *
 generalize P.length = np at *
 generalize U.length = nu at *
 have hm1:((m:Int)+1 == 0) = false:=by
  rw [beq_eq_false_iff_ne]
  omega
 have hm2:m+1 ≤ 256:=by omega
 have HN6:=Lib.hid hn6
 clear h1 h2 hd hl hx rd hlen hse hn hn6 hs
 obtain ⟨W0,hW0⟩:∃ W0,w.alloc (.cells #[.int .i64 T,.int .i64 H,.slice fp nf fc,.slice pp np pc,.slice up nu uc,.slice ep E.length ec] 39) = W0:=⟨_,rfl⟩
 have hE:Below w.heap.size w W0:=by rw [← hW0]; exact (Below.refl _ _).alloc (Nat.le_refl _) _
 have HA:=Lib.hid (show Blk W0 w.heap.size (.cells #[.int .i64 T,.int .i64 H,.slice fp nf fc,.slice pp np pc,.slice up nu uc,.slice ep E.length ec] 39) from by rw [← hW0]; exact World.alloc_heap_new w _)
 have HW:=Lib.hid hE
 have HE:=Lib.hid (HE0.out.grow hE)
 clear hE
 go_enter Tryz.func22,Tryz.ntmps22
 go_wp2_with (fail)
 clear hW0 x0 x1 x2 x3 x4 x5
 have a0:=fun g:Grown W0=>heapN_cellj (HA.out.grow g.h) (k:=0) rfl
 have a1:=fun g:Grown W0=>heapN_cellj (HA.out.grow g.h) (k:=1) rfl
 have a2:=fun g:Grown W0=>heapN_cellj (HA.out.grow g.h) (k:=2) rfl
 have a3:=fun g:Grown W0=>heapN_cellj (HA.out.grow g.h) (k:=3) rfl
 have a4:=fun g:Grown W0=>heapN_cellj (HA.out.grow g.h) (k:=4) rfl
 have a5:=fun g:Grown W0=>heapN_cellj (HA.out.grow g.h) (k:=5) rfl
 refine region_pred (lk [(15,fun z_ _=>z_ = .pointer (some ⟨w.heap.size,5,none⟩)),(16,fun z_ _=>z_ = .slice ep E.length ec),(17,fun z_ w'=>∃ p_ c_,z_ = .slice p_ E.length c_∧OwI (w.heap.size) w' p_ c_ E),(18,fun z_ _=>z_ = .agg #[.int .i64 T,.int .i64 H,.slice fp nf fc,.slice pp np pc,.slice up nu uc,.slice ep E.length ec]),(19,fun z_ _=>z_ = .int .i64 d),(2,fun z_ w'=>∃ p_ c_,z_ = .slice p_ E.length c_∧OwI (w.heap.size) w' p_ c_ E),(3,fun z_ _=>z_ = .int .i64 d),(4,fun z_ _=>z_ = .bool true)]) (by kernel_rfl) (by kernel_rfl) (lk_steady _ ⟨steady_eq _,steady_eq _,fun u w1 w2 hb ⟨p,c,e,h⟩=>⟨p,c,e,own_keptN h hb⟩,steady_eq _,steady_eq _,fun u w1 w2 hb ⟨p,c,e,h⟩=>⟨p,c,e,own_keptN h hb⟩,steady_eq _,steady_eq _,trivial⟩) ?_ ?_
 ·refine ⟨?_,?_,?_,?_,?_,?_,?_,?_,trivial⟩
  ·refine ob_plain [5] rfl rfl fun aa g h=>?_
   have yy0:=seen_out (v:=.pointer (some ⟨w.heap.size,0,none⟩)) rfl rfl h.1
   exact tvS (by simp [go_sem,yy0]) rfl
  ·refine ob_plain [15] rfl rfl fun aa g h=>?_
   obtain ⟨_,yy0,rfl⟩:=seen_in rfl h.1
   exact tvS (by simp [go_sem,yy0,a5 g]) rfl
  ·refine ob_plain [16] rfl rfl fun aa g h=>?_
   obtain ⟨_,yy0,rfl⟩:=seen_in rfl h.1
   refine tupon_enter (f:=66) (args:=#[.slice ep E.length ec]) (by simp [go_sem,yy0]) rfl ?_
   exact (KC.out g.w (HE.out.grow g.h)).mono fun e w' ⟨p_,c_,he,ho,hB⟩=>⟨_,he,hB,⟨_,_,rfl,own_base ho (Nat.le_trans HW.out.size g.h.size)⟩⟩
  ·refine ob_plain [5] rfl rfl fun aa g h=>?_
   have yy0:=seen_out (v:=.pointer (some ⟨w.heap.size,0,none⟩)) rfl rfl h.1
   exact tvS (by simp [go_sem,yy0,a0 g,a1 g,a2 g,a3 g,a4 g,a5 g]) rfl
  ·refine ob_plain [18] rfl rfl fun aa g h=>?_
   obtain ⟨_,yy0,rfl⟩:=seen_in rfl h.1
   refine tupon_enter (f:=61) (args:=#[.agg #[.int .i64 T,.int .i64 H,.slice fp nf fc,.slice pp np pc,.slice up nu uc,.slice ep E.length ec]]) (by simp [go_sem,yy0]) rfl ?_
   exact (KE.out nf np nu g.w).mono fun e w' ⟨he,hB⟩=>⟨_,he,hB,rfl⟩
  ·refine ob_plain [17] rfl rfl fun aa g h=>?_
   obtain ⟨_,yy0,⟨p17,c17,rfl,ho17⟩⟩:=seen_in rfl h.1
   exact tupon_value (v:=.slice p17 E.length c17) (by simp [go_sem,yy0]) (Below.refl _ _) ⟨_,_,rfl,ho17⟩
  ·refine ob_plain [19] rfl rfl fun aa g h=>?_
   obtain ⟨_,yy0,rfl⟩:=seen_in rfl h.1
   exact tvS (by simp [go_sem,yy0]) rfl
  ·refine ob_plain [] rfl rfl fun aa g h=>?_
   exact tvS (by simp [go_sem]) rfl
 rintro w5 hB _ rfl _ rfl _ ⟨p17,c17,rfl,ho17⟩ _ rfl _ rfl _ ⟨p2,c2,rfl,ho2⟩ _ rfl _ rfl
 simp only [Act.put,List.setIfInBounds_toArray,List.set_cons_succ,List.set_cons_zero,List.filterMap_nil,finP]
 have HO:=Lib.hid ho2
 have HB9:=Lib.hid (below_then HW.out hB)
 clear hB ho17 ho2 a0 a1 a2 a3 a4 a5
 go_wp2_with (fail)
 go_ret3
 exact ⟨p2,c2,rfl,HO.out,HB9.out⟩
def AtV (B:Nat) (W:World) (o:Option (List (Int × Int))) (v:Value):Prop :=
 match o with
 | none=>v = .slice none 0 0
 | some K=>∃ q d,v = .slice q K.length d∧OwI B W q d K
theorem AtV.grow {B:Nat} {W W':World} {o:Option (List (Int × Int))} {v:Value} (h:AtV B W o v) (hB:Below W.heap.size W W'):AtV B W' o v:=by
 cases o with
 | none=>exact h
 | some K =>
  obtain ⟨q,d,e,h⟩:=h
  exact ⟨q,d,e,own_keptN h hB⟩
set_option maxHeartbeats 8000000 in
theorem At_ok (p:Option Addr) (c m n:Nat) (l:List Sr) (t:Int) (w:World) (hl:Fx w (.slice p (m+1) c) l) (hlen:l.length = m+1) (hF:FlG n l) :
  Calls Tryz.prog 28 #[.slice p (m+1) c,.int .i64 t] w fun e w'=>∃ r v,Fst (ltE t) l r∧e = .returned (.tuple #[v,.bool (atR l t r).isSome])∧AtV w.heap.size w' (atR l t r) v∧Below w.heap.size w w':=by
 have hs:=hF.len
 have HT0:=hF.tm
 have hE:Below w.heap.size w (w.alloc (.cells #[.int .i64 t] 2)):=(Below.refl _ _).alloc (Nat.le_refl _) _
 have HT:=Lib.hid (show Blk (w.alloc (.cells #[.int .i64 t] 2)) w.heap.size (.cells #[.int .i64 t] 2) from World.alloc_heap_new w _)
 have HW:=Lib.hid hE
 have HL:=Lib.hid (hl.grow hE)
 have KF:=Lib.hid (first_ok 70 (fun _ _=>by simp [go_sem]) w.heap.size (.slice p (m+1) c) l (ltE t) _ hs (hF.monLt t) HL.out.1 (fun x hx W hB=>atC_ok x.t x.h x.fp x.pp x.up x.ep x.F.length x.fc x.P.length x.pc x.U.length x.uc x.E.length x.ec t w.heap.size W (HT.out.grow hB) (by have:=HT0 x hx; omega) (by have:=HT0 x hx; omega) _ rfl))
 obtain ⟨xl,hxl⟩:∃ x,l[m]? = some x:=⟨_,List.getElem?_eq_getElem (by omega)⟩
 have hbl:=hF.box xl (List.mem_of_getElem? hxl)
 have htl:=HT0 xl (List.mem_of_getElem? hxl)
 have h1:=hF.n1
 have h6:=hF.n6
 have KE:=Lib.hid (fun w hl=>End_ok p c m l xl w hs hl hlen hxl (by omega) (by omega) (by omega) (by omega))
 have hgl:l.getLast? = some xl:=by rw [List.getLast?_eq_getElem?,hlen]; exact hxl
 have HGL:=Lib.hid hgl
 have HLN:=Lib.hid hlen
 have HFF:=Lib.hid hF
 have HD:=Lib.hid (show xl.t+xl.h = xl.t+xl.h from rfl)
 clear hE hl hF HT0 hxl hgl
 go_enter Tryz.func28,Tryz.ntmps28
 go_wp2_with (fail)
 refine KF.out.mono ?_
 rintro e w5 ⟨r,rfl,hr,hB⟩
 have HR:=Lib.hid hr
 have HL5:=Lib.hid (HL.out.grow hB)
 have HT5:=Lib.hid (HT.out.grow hB)
 have HW5:=Lib.hid (below_then HW.out hB)
 have hrl:=hr.1
 have c0:=heapN_cellj HT5.out (k:=0) rfl
 clear hr hB KF HL HT
 by_cases hlt:r < m+1
 ·obtain ⟨x,hx⟩:∃ x,l[r]? = some x:=⟨_,List.getElem?_eq_getElem (by omega)⟩
  obtain ⟨b,o,hp,hb,rd⟩:=zx_rd HL5.out.1 hx
  have hbx:=HFF.out.box x (List.mem_of_getElem? hx)
  have sx:=HL5.out.2 x (List.mem_of_getElem? hx)
  have har:atR l t r = if t < x.t then none else if t = x.t then some x.F else some x.U:=by unfold atR; rw [hx]
  subst hp
  have hrm:((r:Int) == (m:Int)+1) = false:=by
   rw [beq_eq_false_iff_ne]
   omega
  obtain ⟨T,H,fp,pp,up,ep,fc,pc,uc,ec,F,P,U,E⟩:=x
  dsimp only at *
  have KC1:=Lib.hid (fun w hv=>clone14 (.slice fp F.length fc) F w hv (by omega) (by omega))
  have KC2:=Lib.hid (fun w hv=>clone14 (.slice up U.length uc) U w hv (by omega) (by omega))
  obtain ⟨x0,x1,x2,x3,x4,x5⟩:=rd ⟨w5,Below.refl _ _⟩
  dsimp only at x0 x1 x2 x3 x4 x5
  have HSF:=Lib.hid sx.f
  have HSU:=Lib.hid sx.u
  have HAR:=Lib.hid har
  generalize P.length = np at *
  generalize E.length = ne at *
  obtain ⟨W6,hW6⟩:∃ W6,w5.alloc (.cells #[.int .i64 T,.int .i64 H,.slice fp F.length fc,.slice pp np pc,.slice up U.length uc,.slice ep ne ec] 39) = W6:=⟨_,rfl⟩
  have hb6:Below w5.heap.size w5 W6:=by rw [← hW6]; exact (Below.refl _ _).alloc (Nat.le_refl _) _
  have hs6:Blk W6 w5.heap.size (.cells #[.int .i64 T,.int .i64 H,.slice fp F.length fc,.slice pp np pc,.slice up U.length uc,.slice ep ne ec] 39):=by rw [← hW6]; exact World.alloc_heap_new w5 _
  have HB6:=Lib.hid (below_then HW5.out hb6)
  have y0:=heapN_cellj hs6 (k:=0) rfl
  have y2:=heapN_cellj hs6 (k:=2) rfl
  have y4:=heapN_cellj hs6 (k:=4) rfl
  have z0:=heapN_cellj (HT5.out.grow hb6) (k:=0) rfl
  have HSF6:=Lib.hid (HSF.out.grow hb6)
  have HSU6:=Lib.hid (HSU.out.grow hb6)
  clear rd hx hbx sx har hb6 hs6 h1 h6 hbl htl HL5 HT5 KE HGL HFF hs hlen
  by_cases h1:t < T
  ·rw [if_pos h1] at HAR
   have HAR:=Lib.hid HAR.out
   go_wp2_with (fail)
   go_ret2
   first | exact ⟨r,_,HR.out,by rw [HAR.out]; rfl,by rw [HAR.out]; rfl,HB6.out⟩ | exact ⟨r,HR.out,_,by rw [HAR.out]; rfl,by rw [HAR.out]; rfl,HB6.out⟩
  ·rw [if_neg h1] at HAR
   by_cases h2:t = T
   ·rw [if_pos h2] at HAR
    subst h2
    go_wp2_with (fail)
    refine (KC1.out _ HSF6.out).mono ?_
    rintro e w7 ⟨q,d,rfl,ho,hB⟩
    have HO:=Lib.hid (own_base ho HB6.out.size)
    have HB7:=Lib.hid (below_then HB6.out hB)
    clear ho hB
    go_wp2_with (fail)
    go_ret2
    first | exact ⟨r,_,HR.out,by rw [HAR.out]; rfl,by rw [HAR.out]; exact ⟨_,_,rfl,HO.out⟩,HB7.out⟩ | exact ⟨r,HR.out,_,by rw [HAR.out]; rfl,by rw [HAR.out]; exact ⟨_,_,rfl,HO.out⟩,HB7.out⟩
   ·rw [if_neg h2] at HAR
    have h3:(t == T) = false:=by rw [beq_eq_false_iff_ne]; exact h2
    go_wp2_with (fail)
    refine (KC2.out _ HSU6.out).mono ?_
    rintro e w7 ⟨q,d,rfl,ho,hB⟩
    have HO:=Lib.hid (own_base ho HB6.out.size)
    have HB7:=Lib.hid (below_then HB6.out hB)
    clear ho hB
    go_wp2_with (fail)
    go_ret2
    first | exact ⟨r,_,HR.out,by rw [HAR.out]; rfl,by rw [HAR.out]; exact ⟨_,_,rfl,HO.out⟩,HB7.out⟩ | exact ⟨r,HR.out,_,by rw [HAR.out]; rfl,by rw [HAR.out]; exact ⟨_,_,rfl,HO.out⟩,HB7.out⟩
 ·obtain rfl:r = m+1:=by omega
  have har:atR l t (m+1) = if t = xl.t+xl.h then some xl.E else none:=by
   unfold atR
   rw [List.getElem?_eq_none (by rw [HLN.out]; exact Nat.le_refl _),HGL.out]
  have HAR:=Lib.hid har
  have KE5:=Lib.hid (KE.out w5 HL5.out)
  obtain ⟨d,hd⟩:∃ d,xl.t+xl.h = d:=⟨_,rfl⟩
  rw [hd] at KE5 HAR htl
  clear har hd KE HL5 HGL HFF hs hlen HLN hlt h1 h6 hbl htl HD hrl
  go_wp2_with (fail)
  refine KE5.out.mono ?_
  rintro e w6 ⟨q,dd,rfl,ho,hB⟩
  have HO:=Lib.hid (own_base ho HW5.out.size)
  have HB6:=Lib.hid (below_then HW5.out hB)
  have z0:=heapN_cellj (HT5.out.grow hB) (k:=0) rfl
  clear ho hB c0 HT5
  by_cases h1:t = d
  ·rw [if_pos h1] at HAR
   subst h1
   go_wp2_with (fail)
   go_ret2
   first | exact ⟨m+1,_,HR.out,by rw [HAR.out]; rfl,by rw [HAR.out]; exact ⟨_,_,rfl,HO.out⟩,HB6.out⟩ | exact ⟨m+1,HR.out,_,by rw [HAR.out]; rfl,by rw [HAR.out]; exact ⟨_,_,rfl,HO.out⟩,HB6.out⟩
  ·rw [if_neg h1] at HAR
   have h3:(t == d) = false:=by rw [beq_eq_false_iff_ne]; exact h1
   go_wp2_with (fail)
   go_ret2
   first | exact ⟨m+1,_,HR.out,by rw [HAR.out]; rfl,by rw [HAR.out]; rfl,HB6.out⟩ | exact ⟨m+1,HR.out,_,by rw [HAR.out]; rfl,by rw [HAR.out]; rfl,HB6.out⟩
end Go.Proofs.YtdfdpghdjlgghaaGreat
namespace Go.Proofs.YtdfdpghdjlgghaaGreat
open Go.ChangeShapes Go.WideShapes Go.ChangeAt Go.RowKit
set_option linter.unusedVariables false
set_option linter.unusedSimpArgs false
set_option maxRecDepth 100000
attribute [local irreducible] Calls
def DuH (W:World) (h:Value) (o:Option (List (Int × Int))):Prop :=
 match o with
 | none=>h = .slice none 0 0
 | some K=>Vx W h K
theorem DuH.grow {W W':World} {h:Value} {o:Option (List (Int × Int))} (H:DuH W h o) (hB:Below W.heap.size W W'):DuH W' h o:=by
 cases o with
 | none=>exact H
 | some K=>exact Rx.grow H hB
theorem DuH.sl {W:World} {h:Value} {o:Option (List (Int × Int))} (H:DuH W h o):∀ k n,h ≠ .int k n:=by
 cases o with
 | none =>
  intro k n e
  have h1:h = .slice none 0 0:=H
  rw [h1] at e
  cases e
 | some K =>
  obtain ⟨p,c,e⟩:=Rx.cut H
  intro k n e2
  rw [e] at e2
  cases e2
theorem DuH.set {W:World} {h u:Value} {o:Option (List (Int × Int))} {X:Nat} {t:TypeId} (H:DuH W h o) (hX:Boxed W X t u) (hu:∀ k n,u ≠ .int k n) (y:Value):DuH (W.setCell ⟨X,0,none⟩ y) h o:=by
 cases o with
 | none=>exact H
 | some K=>exact vx_setb H hX hu y
theorem hulO_av {r:List (List (Int × Int))} {H:List (Int × Int)} (hr:∀ x ∈ r,AV x) (h:hulO r = some H):AV H:=by
 have key:∀ (r:List (List (Int × Int))) (b:List (Int × Int)),AV b→(∀ x ∈ r,AV x)→AV (r.foldl hulL b):=by
  intro r
  induction r with
  | nil=>exact fun b hb _=>hb
  | cons a r ih=>exact fun b hb H=>ih (hulL b a) (hul_vi hb (H a (by simp))) (fun x hx=>H x (by simp [hx]))
 match r,h with
 | b :: r,h =>
  obtain rfl:=Option.some.inj h
  exact key r b (hr b (by simp)) (fun x hx=>hr x (by simp [hx]))
theorem boxed_set14 {W:World} {X:Nat} {t:TypeId} {u:Value} (hX:Boxed W X t u) (y:Value):Boxed (W.setCell ⟨X,0,none⟩ y) X t y:=by
 unfold Boxed at *
 have:=cellsT_setN (o:=0) (u:=y) hX
 simpa using this
theorem blk_set14 {W:World} {X Y:Nat} {o:Obj} (h:Blk W Y o) (hne:Y ≠ X) (y:Value):Blk (W.setCell ⟨X,0,none⟩ y) Y o:=by
 unfold Blk World.setCell at *
 simp [Array.getElem?_modify,Ne.symm hne]
 exact h
def hulN (o:Option (List (Int × Int))) (b:List (Int × Int)):List (Int × Int):=match o with | none=>b | some H=>hulL H b
set_option maxHeartbeats 8000000 in
theorem dadd_ok (vb h:Value) (b:List (Int × Int)) (o:Option (List (Int × Int))) (X:Nat) (w:World) (hX:Boxed w X 23 h) (hb:Vx w vb b) (ab:AV b) (h1:1 ≤ b.length) (h6:b.length ≤ 6) (hh:DuH w h o) (ho:∀ K,o = some K→AV K∧K.length = b.length) :
  Calls Tryz.prog 71 #[vb,.pointer (some ⟨X,0,none⟩)] w fun e w'=>e = .returned (.tuple #[])∧∃ h' w1,w' = w1.setCell ⟨X,0,none⟩ h'∧Below w.heap.size w w1∧DuH w1 h' (some (hulN o b)):=by
 have c0:=heapN_cellj hX (k:=0) rfl
 cases o with
 | none =>
  obtain rfl:h = .slice none 0 0:=hh
  have EQ:=run_eql_slice_nil (P:=Tryz.prog) w 23 66 none 0 0 Tryz.underlying23
  have KC:=Lib.hid (clone14 vb b w hb (by omega) (by omega))
  have HX:=Lib.hid hX
  clear hX hb ho ab
  go_enter Tryz.func71,Tryz.ntmps71
  go_wp2_with (fail)
  refine KC.out.mono ?_
  rintro e w5 ⟨p,c,rfl,hw5,hB⟩
  have hx5:=(show Boxed w5 X 23 (.slice none 0 0) from Blk.grow (show Blk w X (.cells #[.slice none 0 0] 23) from HX.out) hB)
  have HV:=Lib.hid (OwI.vx (B:=w.heap.size) hw5 (by omega))
  have d0:=heapN_cellj hx5 (k:=0) rfl
  have y0:w5.frozen? ⟨X,0,none⟩ = false:=by simp [World.frozen?,show w5.heap[X]? = _ from hx5]
  have HB:=Lib.hid hB
  clear KC hw5 hB hx5 c0
  go_wp2_with (fail)
  exact bodyPost_ret (results_none rfl _ _ _) rfl ⟨rfl,_,w5,rfl,HB.out,HV.out⟩
 | some K =>
  obtain ⟨hk1,hk2⟩:=ho K rfl
  obtain ⟨pk,ck,rfl⟩:=Rx.cut (show Vx w h K from hh)
  obtain ⟨bk,ok,rfl,hbk,-⟩:=vx_rd (x:=K[0].1) (y:=K[0].2) (show Vx w _ K from hh) (List.getElem?_eq_getElem (show 0 < K.length by omega))
  have EQ:=run_eql_slice_nil (P:=Tryz.prog) w 23 66 (some ⟨bk,ok,none⟩) K.length ck Tryz.underlying23
  have KC:=Lib.hid (hull_vx (.slice (some ⟨bk,ok,none⟩) K.length ck) vb K b w hh hb (by omega) hk1 ab (by omega))
  have HX:=Lib.hid hX
  clear hX hb hh ho ab hk1 hk2 hbk
  go_enter Tryz.func71,Tryz.ntmps71
  go_wp2_with (fail)
  refine KC.out.mono ?_
  rintro e w5 ⟨v,rfl,hw5,hB⟩
  obtain ⟨pv,cv,rfl⟩:=hw5.cut
  have hx5:=(show Boxed w5 X 23 (.slice (some ⟨bk,ok,none⟩) K.length ck) from Blk.grow (show Blk w X (.cells #[.slice (some ⟨bk,ok,none⟩) K.length ck] 23) from HX.out) hB)
  have HV:=Lib.hid hw5
  have d0:=heapN_cellj hx5 (k:=0) rfl
  have y0:w5.frozen? ⟨X,0,none⟩ = false:=by simp [World.frozen?,show w5.heap[X]? = _ from hx5]
  have HB:=Lib.hid hB
  clear KC hw5 hB hx5 c0
  go_wp2_with (fail)
  exact bodyPost_end (v:=.tuple #[]) (by simp [results,Tryz.results71,go_sem]) rfl ⟨rfl,_,w5,rfl,HB.out,HV.out⟩
set_option maxHeartbeats 8000000 in
theorem During_ok (p:Option Addr) (c n:Nat) (l:List Sr) (lo hi:Int) (w:World) (hl:Fx w (.slice p l.length c) l) (hcap:l.length ≤ c) (hF:FlG n l) (hp:∃ b o,p = some ⟨b,o,none⟩) :
  Calls Tryz.prog 29 #[.slice p l.length c,.agg #[.int .i64 lo,.int .i64 hi]] w fun e w'=>∃ r u,Fst (leE lo) l r∧e = .returned (.tuple #[u,.bool (durR l hi r).isSome])∧DuH w' u (durR l hi r)∧Below w.heap.size w w':=by
 have hs:=hF.len
 have HT0:=hF.tm
 obtain ⟨b,o,rfl⟩:=hp
 have hE:Below w.heap.size w (w.alloc (.cells #[.int .i64 lo,.int .i64 hi] 66)):=(Below.refl _ _).alloc (Nat.le_refl _) _
 have HT:=Lib.hid (show Blk (w.alloc (.cells #[.int .i64 lo,.int .i64 hi] 66)) w.heap.size (.cells #[.int .i64 lo,.int .i64 hi] 66) from World.alloc_heap_new w _)
 have hE2:Below w.heap.size w ((w.alloc (.cells #[.int .i64 lo,.int .i64 hi] 66)).alloc (.cells #[.slice none 0 0] 23)):=allocs_below [.cells #[.int .i64 lo,.int .i64 hi] 66,.cells #[.slice none 0 0] 23] w
 have HH2:=Lib.hid (show Blk ((w.alloc (.cells #[.int .i64 lo,.int .i64 hi] 66)).alloc (.cells #[.slice none 0 0] 23)) (w.heap.size+1) (.cells #[.slice none 0 0] 23) from allocs_at [.cells #[.int .i64 lo,.int .i64 hi] 66,.cells #[.slice none 0 0] 23] w 1 _ rfl)
 have HT2:=Lib.hid (show Blk ((w.alloc (.cells #[.int .i64 lo,.int .i64 hi] 66)).alloc (.cells #[.slice none 0 0] 23)) w.heap.size (.cells #[.int .i64 lo,.int .i64 hi] 66) from allocs_at [.cells #[.int .i64 lo,.int .i64 hi] 66,.cells #[.slice none 0 0] 23] w 0 _ rfl)
 have HW:=Lib.hid hE2
 have HL:=Lib.hid (hl.grow hE2)
 have KF:=Lib.hid (first_ok 73 (fun _ _=>by simp [go_sem]) w.heap.size (.slice (some ⟨b,o,none⟩) l.length c) l (leE lo) _ hs (hF.monLe lo) HL.out.1 (fun x hx W hB=>duC_ok x.t x.h x.fp x.pp x.up x.ep x.F.length x.fc x.P.length x.pc x.U.length x.uc x.E.length x.ec lo hi w.heap.size W (HT2.out.grow hB) (by have:=HT0 x hx; omega) (by have:=HT0 x hx; omega) _ rfl))
 have HFF:=Lib.hid hF
 have hl0:=hl
 clear hE hE2 hl hF HT0
 go_enter Tryz.func29,Tryz.ntmps29
 go_wp2_with (fail)
 refine KF.out.mono ?_
 rintro e w5 ⟨r,rfl,hr,hB⟩
 have HR:=Lib.hid hr
 have HL5:=Lib.hid (HL.out.grow hB)
 have HT5:=Lib.hid (HT2.out.grow hB)
 have HH5:=Lib.hid (HH2.out.grow hB)
 have HW5:=Lib.hid (below_then HW.out hB)
 have hrl:=hr.1
 have hrc:r ≤ c:=by omega
 have HL0:=Lib.hid hl0
 obtain ⟨D,hD⟩:∃ D,l.drop r = D:=⟨_,rfl⟩
 have hDl:D.length = l.length - r:=by rw [← hD,List.length_drop]
 have HDB:=Lib.hid (show ∀ x ∈ D,x ∈ l from fun x hx=>List.mem_of_mem_drop (by rw [hD]; exact hx))
 have HDR:Hid (durR l hi r = hulO ((D.takeWhile (fun s=>decide (s.t ≤ hi))).map (·.U))):=Lib.hid (by unfold durR durS; rw [hD])
 have HB1:=Lib.hid (fun x hx=>HFF.out.box x (HDB.out x hx))
 have h16:1 ≤ n∧n ≤ 6:=⟨HFF.out.n1,HFF.out.n6⟩
 have HOK:Hid (∀ (k:Nat) (K:List (Int × Int)),hulO ((D.take k).map (·.U)) = some K→AV K∧K.length = n):=Lib.hid (fun k K e=>by
  have hm:∀ y ∈ (D.take k).map (·.U),y.length = n∧AV y:=by
   intro y hy
   obtain ⟨x,hx,rfl⟩:=List.mem_map.1 hy
   have:=HB1.out x (List.mem_of_mem_take hx)
   exact ⟨this.2.2.1,this.2.2.2.2.2.2.1⟩
  exact ⟨hulO_av (fun y hy=>(hm y hy).2) e,(hulO_some (n:=n) (fun y hy=>(hm y hy).1) e).1⟩)
 clear hl0 hr hB KF HL HT HT2 HH2 HL5 HFF
 rcases (show r = c ∨ r < c by omega) with hrc2 | hrc2
 ·have h0:D.length = 0:=by omega
  obtain rfl:D = []:=List.length_eq_zero_iff.1 h0
  have hnd:l.length - r = 0:=by omega
  clear hD h0 hDl
  go_wp2_with (fail)
  clear hrl hrc hrc2 hcap hs hnd
  go_loopw [17] (fun i wr=>∃ (h:Value),i = .int .i64 0∧Hid (Boxed wr (w.heap.size+1) 23 h)∧Hid (DuH wr h (hulO (((([]:List Sr)).take 0).map (·.U))))∧Hid (Below w.heap.size w wr)) (fun i _=>0)
  case atStart=>exact ⟨.slice none 0 0,rfl,HH5,Lib.hid rfl,HW5⟩
  case round =>
   obtain ⟨h,rfl,HXB,HDU,HB9⟩:=hrel
   have HEND:=Lib.hid (show ([]:List Sr).takeWhile (fun s=>decide (s.t ≤ hi)) = ([]:List Sr).take 0 from rfl)
   cases ho:hulO ((([]:List Sr).take 0).map (·.U)) with
   | none =>
    have hdu:=HDU.out
    rw [ho] at hdu
    obtain rfl:h = .slice none 0 0:=hdu
    have HDV:=Lib.hid (show durR l hi r = none by rw [HDR.out,HEND.out,ho])
    have EQ:=fun w=>run_neq_slice_nil (P:=Tryz.prog) w 23 66 none 0 0 Tryz.underlying23
    have d0:=heapN_cellj HXB.out (k:=0) rfl
    have HBW:=Lib.hid HB9.out
    clear ho HOK HB1 HDB HL0
    go_wp2_with (fail)
    go_quiet (fail)
    go_wp2_with (fail)
    go_ret2
    first | exact ⟨r,_,HR.out,by rw [HDV.out]; rfl,by rw [HDV.out]; rfl,(below_drewN HB9.out _)⟩ | exact ⟨r,HR.out,_,by rw [HDV.out]; rfl,by rw [HDV.out]; rfl,(below_drewN HB9.out _)⟩
   | some K =>
    have hdu:=HDU.out
    rw [ho] at hdu
    have hdu:Vx wr h K:=hdu
    have hk:=(HOK.out 0 K ho).2
    obtain ⟨pk,ck,rfl⟩:=hdu.cut
    obtain ⟨bk,ok,rfl,hbk,-⟩:=vx_rd (x:=K[0].1) (y:=K[0].2) hdu (List.getElem?_eq_getElem (show 0 < K.length by omega))
    have HDV:=Lib.hid (show durR l hi r = some K by rw [HDR.out,HEND.out,ho])
    have EQ:=fun w=>run_neq_slice_nil (P:=Tryz.prog) w 23 66 (some ⟨bk,ok,none⟩) K.length ck Tryz.underlying23
    have d0:=heapN_cellj HXB.out (k:=0) rfl
    have HKV:=Lib.hid hdu
    clear ho hdu HOK HB1 HDB HL0 hbk hk
    go_wp2_with (fail)
    go_quiet (fail)
    go_wp2_with (fail)
    go_ret2
    first | exact ⟨r,_,HR.out,by rw [HDV.out]; rfl,by rw [HDV.out]; exact Rx.grow HKV.out (below_drewN (Below.refl _ _) _),(below_drewN HB9.out _)⟩ | exact ⟨r,HR.out,_,by rw [HDV.out]; rfl,by rw [HDV.out]; exact Rx.grow HKV.out (below_drewN (Below.refl _ _) _),(below_drewN HB9.out _)⟩
 ·have HD:Hid (Fx w (.slice (some ⟨b,o+r * 6,none⟩) (l.length - r) (c - r)) D):=Lib.hid ⟨by rw [← hD]; exact HL0.out.1.drop hrl (fun h=>by first | rfl | omega),fun x hx=>HL0.out.2 x (HDB.out x hx)⟩
  clear hD
  go_wp2_with (fail)
  have hnd:l.length - r ≤ 256:=by omega
  generalize l.length - r = nd at *
  clear hrl hrc hrc2 hcap hs
  go_loopw [17] (fun i wr=>∃ (k:Nat) (h:Value),i = .int .i64 k∧k ≤ nd∧Hid (∀ x ∈ D.take k,x.t ≤ hi)∧Hid (Boxed wr (w.heap.size+1) 23 h)∧Hid (Blk wr w.heap.size (.cells #[.int .i64 lo,.int .i64 hi] 66))∧Hid (DuH wr h (hulO ((D.take k).map (·.U))))∧Hid (Below w.heap.size w wr)) (fun i _=>nd - (intOf i).toNat)
  case atStart=>exact ⟨0,.slice none 0 0,rfl,Nat.zero_le _,Lib.hid (by simp),HH5,HT5,Lib.hid rfl,HW5⟩
  case round =>
   obtain ⟨k,h,rfl,hk,HQ,HXB,HTB,HDU,HB9⟩:=hrel
   by_cases hlt:k < nd
   ·have i2:(k:Int) < nd:=by omega
    obtain ⟨x,hx⟩:∃ x,D[k]? = some x:=⟨_,List.getElem?_eq_getElem (by omega)⟩
    obtain ⟨b',o',hp',hb',rd⟩:=zx_rd (HD.out.grow HB9.out).1 hx
    have hq':b = b'∧o+r * 6 = o':=by simpa using hp'
    have sx:=(HD.out.grow HB9.out).2 x (List.mem_of_getElem? hx)
    have bx:=HB1.out x (List.mem_of_getElem? hx)
    have hnx:∀ y,D[k]? = some y→y = x:=fun y hy=>by rw [hx] at hy; exact (Option.some.inj hy).symm
    have htk:(D.take (k+1)).map (·.U) = (D.take k).map (·.U) ++ [x.U]:=by rw [List.take_add_one,hx,List.map_append]; rfl
    have hmk:x.t ≤ hi→∀ y ∈ D.take (k+1),y.t ≤ hi:=fun ht y hy=>by
     rw [List.take_add_one,hx] at hy
     rcases List.mem_append.1 hy with hy | hy
     ·exact HQ.out y hy
     ·obtain rfl:y = x:=by simpa using hy
      exact ht
    obtain ⟨x0,x1,x2,x3,x4,x5⟩:=rd ⟨wr,Below.refl _ _⟩
    obtain ⟨T,H,fp,pp,up,ep,fc,pc,uc,ec,F,P,U,E⟩:=x
    dsimp only at *
    have HTK:=Lib.hid htk
    have HMK:=Lib.hid hmk
    have HNX:=Lib.hid hnx
    have HBX:=Lib.hid bx
    have HSU:=Lib.hid sx.u
    have HPP:=Lib.hid hp'
    clear htk hmk hnx bx sx rd hx hb' hp'
    obtain ⟨rfl,rfl⟩:=hq'
    generalize F.length = nf at *
    generalize P.length = np at *
    generalize E.length = ne at *
    obtain ⟨W6,hW6⟩:∃ W6,wr.alloc (.cells #[.int .i64 T,.int .i64 H,.slice fp nf fc,.slice pp np pc,.slice up U.length uc,.slice ep ne ec] 39) = W6:=⟨_,rfl⟩
    have hb6:Below wr.heap.size wr W6:=by rw [← hW6]; exact (Below.refl _ _).alloc (Nat.le_refl _) _
    have hs6:Blk W6 wr.heap.size (.cells #[.int .i64 T,.int .i64 H,.slice fp nf fc,.slice pp np pc,.slice up U.length uc,.slice ep ne ec] 39):=by rw [← hW6]; exact World.alloc_heap_new wr _
    have HB9:=Lib.hid (below_then HB9.out hb6)
    have HXB:=Lib.hid (show Boxed W6 (w.heap.size+1) 23 h from Blk.grow (show Blk wr (w.heap.size+1) (.cells #[h] 23) from HXB.out) hb6)
    have HTB:=Lib.hid (HTB.out.grow hb6)
    have HDU:=Lib.hid (HDU.out.grow hb6)
    have HSU:=Lib.hid (HSU.out.grow hb6)
    have y0:=heapN_cellj hs6 (k:=0) rfl
    have y4:=heapN_cellj hs6 (k:=4) rfl
    have z1:=heapN_cellj HTB.out (k:=1) rfl
    clear hb6 hs6
    by_cases hT:hi < T
    ·have HEND:=Lib.hid (show D.takeWhile (fun s=>decide (s.t ≤ hi)) = D.take k from take_while (fun y hy=>decide_eq_true (HQ.out y hy)) (fun y hy=>by rw [HNX.out y hy]; exact decide_eq_false (by dsimp only; omega)))
     clear HTK HMK HNX HBX HSU HPP
     cases ho:hulO ((D.take k).map (·.U)) with
     | none =>
      have hdu:=HDU.out
      rw [ho] at hdu
      obtain rfl:h = .slice none 0 0:=hdu
      have HDV:=Lib.hid (show durR l hi r = none by rw [HDR.out,HEND.out,ho])
      have EQ:=fun w=>run_neq_slice_nil (P:=Tryz.prog) w 23 66 none 0 0 Tryz.underlying23
      have d0:=heapN_cellj HXB.out (k:=0) rfl
      have HBW:=Lib.hid HB9.out
      clear ho HOK HB1 HDB HL0
      go_wp2_with (fail)
      go_quiet (fail)
      go_wp2_with (fail)
      go_ret2
      first | exact ⟨r,_,HR.out,by rw [HDV.out]; rfl,by rw [HDV.out]; rfl,(below_drewN HB9.out _)⟩ | exact ⟨r,HR.out,_,by rw [HDV.out]; rfl,by rw [HDV.out]; rfl,(below_drewN HB9.out _)⟩
     | some K =>
      have hdu:=HDU.out
      rw [ho] at hdu
      have hdu:Vx W6 h K:=hdu
      have hk:=(HOK.out k K ho).2
      obtain ⟨pk,ck,rfl⟩:=hdu.cut
      obtain ⟨bk,ok,rfl,hbk,-⟩:=vx_rd (x:=K[0].1) (y:=K[0].2) hdu (List.getElem?_eq_getElem (show 0 < K.length by omega))
      have HDV:=Lib.hid (show durR l hi r = some K by rw [HDR.out,HEND.out,ho])
      have EQ:=fun w=>run_neq_slice_nil (P:=Tryz.prog) w 23 66 (some ⟨bk,ok,none⟩) K.length ck Tryz.underlying23
      have d0:=heapN_cellj HXB.out (k:=0) rfl
      have HKV:=Lib.hid hdu
      clear ho hdu HOK HB1 HDB HL0 hbk hk
      go_wp2_with (fail)
      go_quiet (fail)
      go_wp2_with (fail)
      go_ret2
      first | exact ⟨r,_,HR.out,by rw [HDV.out]; rfl,by rw [HDV.out]; exact Rx.grow HKV.out (below_drewN (Below.refl _ _) _),(below_drewN HB9.out _)⟩ | exact ⟨r,HR.out,_,by rw [HDV.out]; rfl,by rw [HDV.out]; exact Rx.grow HKV.out (below_drewN (Below.refl _ _) _),(below_drewN HB9.out _)⟩
    ·have hT2:T ≤ hi:=by omega
     have HNQ:=Lib.hid (HMK.out hT2)
     obtain ⟨bx3,bx7,bxl⟩:U.length = n∧AV U∧True:=⟨HBX.out.2.2.1,HBX.out.2.2.2.2.2.2.1,trivial⟩
     have KD:=Lib.hid (dadd_ok (.slice up U.length uc) h U (hulO ((D.take k).map (·.U))) (w.heap.size+1) W6 HXB.out HSU.out bx7 (by omega) (by omega) HDU.out (fun K e=>by rw [bx3]; exact HOK.out k K e))
     have HSL:=Lib.hid HDU.out.sl
     clear bx7 bxl HBX HSU HPP HMK HNX HDU bx3
     go_wp2_with (fail)
     refine KD.out.mono ?_
     rintro e w8 ⟨rfl,h',w7,rfl,hB7,hd7⟩
     have hx7:Boxed w7 (w.heap.size+1) 23 h:=Blk.grow (show Blk W6 (w.heap.size+1) (.cells #[h] 23) from HXB.out) hB7
     have HB8:=Lib.hid (below_then HB9.out hB7)
     have HB9:=Lib.hid (HB8.out.setCell (p:=⟨w.heap.size+1,0,none⟩) (by dsimp only; omega) h')
     have HXB:=Lib.hid (boxed_set14 hx7 h')
     have HTB:=Lib.hid (blk_set14 (HTB.out.grow hB7) (show w.heap.size ≠ w.heap.size+1 by omega) h')
     have hd8:=hd7.set hx7 HSL.out h'
     have HDU:Hid (DuH (w7.setCell ⟨w.heap.size+1,0,none⟩ h') h' (hulO ((D.take (k+1)).map (·.U)))):=Lib.hid (by
      rw [HTK.out,hulO_snoc]
      exact hd8)
     clear hd7 hd8 hx7 hB7 KD HTK hW6 x0 x1 x2 x3 x4 x5 y0 y4 z1
     generalize World.setCell w7 _ h' = w9 at *
     go_wp2_with (fail)
     go_roundw
     case rel=>exact ⟨k+1,h',by go_num,by omega,HNQ,HXB,HTB,HDU,HB9⟩
     case measure=>simp [intOf]; omega
   ·obtain rfl:nd = k:=by omega
    have hall:D.take nd = D:=List.take_of_length_le (by omega)
    have HEND:=Lib.hid (show D.takeWhile (fun s=>decide (s.t ≤ hi)) = D.take nd from take_while (fun y hy=>decide_eq_true (HQ.out y hy)) (fun y hy=>by
     have:=(List.getElem?_eq_some_iff.1 hy).1
     omega))
    clear hall
    cases ho:hulO ((D.take nd).map (·.U)) with
    | none =>
     have hdu:=HDU.out
     rw [ho] at hdu
     obtain rfl:h = .slice none 0 0:=hdu
     have HDV:=Lib.hid (show durR l hi r = none by rw [HDR.out,HEND.out,ho])
     have EQ:=fun w=>run_neq_slice_nil (P:=Tryz.prog) w 23 66 none 0 0 Tryz.underlying23
     have d0:=heapN_cellj HXB.out (k:=0) rfl
     have HBW:=Lib.hid HB9.out
     clear ho HOK HB1 HDB HL0
     go_wp2_with (fail)
     go_quiet (fail)
     go_wp2_with (fail)
     go_ret2
     first | exact ⟨r,_,HR.out,by rw [HDV.out]; rfl,by rw [HDV.out]; rfl,(below_drewN HB9.out _)⟩ | exact ⟨r,HR.out,_,by rw [HDV.out]; rfl,by rw [HDV.out]; rfl,(below_drewN HB9.out _)⟩
    | some K =>
     have hdu:=HDU.out
     rw [ho] at hdu
     have hdu:Vx wr h K:=hdu
     have hk:=(HOK.out nd K ho).2
     obtain ⟨pk,ck,rfl⟩:=hdu.cut
     obtain ⟨bk,ok,rfl,hbk,-⟩:=vx_rd (x:=K[0].1) (y:=K[0].2) hdu (List.getElem?_eq_getElem (show 0 < K.length by omega))
     have HDV:=Lib.hid (show durR l hi r = some K by rw [HDR.out,HEND.out,ho])
     have EQ:=fun w=>run_neq_slice_nil (P:=Tryz.prog) w 23 66 (some ⟨bk,ok,none⟩) K.length ck Tryz.underlying23
     have d0:=heapN_cellj HXB.out (k:=0) rfl
     have HKV:=Lib.hid hdu
     clear ho hdu HOK HB1 HDB HL0 hbk hk
     go_wp2_with (fail)
     go_quiet (fail)
     go_wp2_with (fail)
     go_ret2
     first | exact ⟨r,_,HR.out,by rw [HDV.out]; rfl,by rw [HDV.out]; exact Rx.grow HKV.out (below_drewN (Below.refl _ _) _),(below_drewN HB9.out _)⟩ | exact ⟨r,HR.out,_,by rw [HDV.out]; rfl,by rw [HDV.out]; exact Rx.grow HKV.out (below_drewN (Below.refl _ _) _),(below_drewN HB9.out _)⟩
end Go.Proofs.YtdfdpghdjlgghaaGreat
