/-
 Gp LFq
-/
import Derived.Test.YtdfdpghdjlgghaaGreatKdm
import Derived.Test.YtdfdpghdjlgghaaGreatKdt
import Derived.Test.YtdfdpghdjlgghaaGreatKdw
import Derived.Test.YtdfdpghdjlgghaaGreatKdx
import Derived.Test.YtdfdpghdjlgghaaGreatKdy
import Derived.Test.YtdfdpghdjlgghaaGreatKdze
import Derived.Test.YtdfdpghdjlgghaaGreatKdzp
namespace Go.Proofs.YtdfdpghdjlgghaaGreat
open Go.ChangeShapes Go.WideShapes Go.ChangeAt Go.RowKit
set_option linter.unusedVariables false
set_option linter.unusedSimpArgs false
set_option maxRecDepth 100000
attribute [local irreducible] Calls
theorem Bx.rd14 {w:World} {p:Option Addr} {n c j:Nat} {l:List (Int × Int)} {x y:Int} (h:Bx w (.slice p n c) l) (hx:l[j]? = some (x,y)):∃ b o,p = some ⟨b,o,none⟩∧b < w.heap.size∧∀ g:Grown w,b < g.w.heap.size∧g.w.cell? ⟨b,o+j * 2,none⟩ = some (.int .i64 x)∧g.w.cell? ⟨b,o+j * 2+1,none⟩ = some (.int .i64 y):=by
 obtain ⟨_,q,c',e,h⟩:=h
 obtain ⟨b,o,hq,h1,h2,h3⟩:=h j (x,y) hx
 simp only [Value.slice.injEq] at e
 exact ⟨b,o,e.1.trans hq,h1,fun g=>⟨Nat.lt_of_lt_of_le h1 g.h.size,(g.cell (b:=b) h1).trans h2,(g.cell (b:=b) h1).trans h3⟩⟩
theorem Bx.cut14 {w:World} {v:Value} {l:List (Int × Int)} (h:Bx w v l):∃ p c,v = .slice p l.length c:=by
 obtain ⟨_,p,c,e,_⟩:=h
 exact ⟨p,c,e⟩
theorem zip_all_take {α β:Type} {f:α × β→Bool} {a:List α} {b:List β} {k:Nat} {x:α} {y:β} (hx:a[k]? = some x) (hy:b[k]? = some y) (h:((a.zip b).take k).all f = true) (g:f (x,y) = true):((a.zip b).take (k+1)).all f = true:=by
 have e:(a.zip b)[k]? = some (x,y):=List.getElem?_zip_eq_some.2 ⟨hx,hy⟩
 rw [List.take_add_one,e,List.all_append,h]
 simp [g]
theorem zip_all_no {α β:Type} {f:α × β→Bool} {a:List α} {b:List β} {k:Nat} {x:α} {y:β} (hx:a[k]? = some x) (hy:b[k]? = some y) (g:f (x,y) = false):(a.zip b).all f = false:=by
 rw [Bool.eq_false_iff]
 intro h
 have e:(a.zip b)[k]? = some (x,y):=List.getElem?_zip_eq_some.2 ⟨hx,hy⟩
 rw [List.all_eq_true.1 h (x,y) (List.mem_of_getElem? e)] at g
 cases g
theorem zip_all_end {α β:Type} {f:α × β→Bool} {a:List α} {b:List β} (hl:b.length = a.length) (h:((a.zip b).take a.length).all f = true):(a.zip b).all f = true:=by
 rwa [List.take_of_length_le (by simp [hl])] at h
theorem r2subset (a b c d:Int) (w:World):Calls Tryz.prog 68 #[.agg #[.int .i64 a,.int .i64 b],.agg #[.int .i64 c,.int .i64 d]] w fun e w'=>e = .returned (.bool (decide (c ≤ a) && decide (b ≤ d)))∧Below w.heap.size w w':=by
 by_cases h1:c ≤ a
 ·by_cases h2:b ≤ d
  ·simpa [h1,h2] using r2subset_0 a b c d w h1 (by simpa using h2)
  ·simpa [h1,h2] using r2subset_1 a b c d w h1 (by simpa using h2)
 ·simpa [h1] using r2subset_2 a b c d w (by omega)
set_option maxHeartbeats 4000000 in
theorem r3subset (va vb:Value) (la:List (Int × Int)) (lb:List (Int × Int)) (w:World) (hva:Bx w va la) (hvb:Bx w vb lb) (hlen:lb.length = la.length) :
  Calls Tryz.prog 25 #[va,vb] w fun e w'=>e = .returned (.bool ((la.zip lb).all sub1))∧Below w.heap.size w w':=by
 have hl:=hva.1
 unfold maxLen at hl
 obtain ⟨pa,ca,rfl⟩:=hva.cut14
 obtain ⟨pb,cb,rfl⟩:=hvb.cut14
 have HA:=Lib.hid hva
 have HB:=Lib.hid hvb
 have HL:=Lib.hid hlen
 clear hva hvb hlen
 go_enter Tryz.func25,Tryz.ntmps25
 go_wp2_with (fail)
 go_loopw [5] (fun i wr=>∃ k:Nat,i = .int .i64 k∧k ≤ la.length∧Hid (((la.zip lb).take k).all sub1 = true)∧∃ g:Grown w,wr = g.w) (fun i _=>la.length - (intOf i).toNat)
 case atStart=>exact ⟨0,rfl,Nat.zero_le _,Lib.hid (by simp),⟨w,Below.refl _ _⟩,rfl⟩
 case round =>
  obtain ⟨k,rfl,hk,hz,g0,rfl⟩:=hrel
  by_cases hlt:k < la.length
  ·have hlt2:k < lb.length:=by rw [HL.out]; exact hlt
   obtain ⟨x,y,hx⟩:∃ x y,la[k]? = some (x,y):=⟨la[k].1,la[k].2,List.getElem?_eq_getElem hlt⟩
   obtain ⟨z1,z2,hy⟩:∃ z1 z2,lb[k]? = some (z1,z2):=⟨lb[k].1,lb[k].2,List.getElem?_eq_getElem hlt2⟩
   obtain ⟨ba,oa,hpa,hba,rdA⟩:=HA.out.rd14 hx
   obtain ⟨bb,ob,hpb,hbb,rdB⟩:=HB.out.rd14 hy
   subst hpa hpb
   have HX:=Lib.hid hx
   have HY:=Lib.hid hy
   clear hx hy
   have sA:=fun g=>(rdA g).1
   have fA:=fun g=>(rdA g).2.1
   have gA:=fun g=>(rdA g).2.2
   have sB:=fun g=>(rdB g).1
   have fB:=fun g=>(rdB g).2.1
   have gB:=fun g=>(rdB g).2.2
   clear rdA rdB
   have i1:(k:Int) < la.length:=by omega
   have i2:(k:Int) < lb.length:=by omega
   obtain ⟨r,hr⟩:∃ r,sub1 ((x,y),(z1,z2)) = r:=⟨_,rfl⟩
   have cc:∀ w,Calls Tryz.prog 68 #[.agg #[.int .i64 x,.int .i64 y],.agg #[.int .i64 z1,.int .i64 z2]] w fun e w'=>e = .returned (.bool r)∧Below w.heap.size w w':=fun w=>(r2subset x y z1 z2 w).mono fun e w' ⟨h,hB⟩=>⟨h.trans (congrArg (fun q=>Ending.returned (.bool q)) hr),hB⟩
   have HC:=Lib.hid cc
   have HR:=Lib.hid hr
   clear cc hr
   cases r
   ·go_wp2_with (fail)
    refine region_quiet' g0 (by kernel_rfl) (by kernel_rfl) ?_
    repeat (go_big_quiet_step (first | (go_at_call 68; exact qc (HC.out _))))
    refine wpQuiet_nil ?_
    rintro _ ⟨g1,rfl⟩
    go_wp2_with (fail)
    go_ret
    exact ⟨ret_bool (zip_all_no HX.out HY.out HR.out).symm,g1.h⟩
   ·go_wp2_with (fail)
    refine region_quiet' g0 (by kernel_rfl) (by kernel_rfl) ?_
    repeat (go_big_quiet_step (first | (go_at_call 68; exact qc (HC.out _))))
    refine wpQuiet_nil ?_
    rintro _ ⟨g1,rfl⟩
    go_wp2_with (fail)
    go_roundw
    case rel=>exact ⟨k+1,by go_num,by omega,Lib.hid (zip_all_take HX.out HY.out hz.out HR.out),g1,rfl⟩
    case measure=>simp [intOf]; omega
  ·obtain rfl:k = la.length:=by omega
   go_wp2_with (fail)
   go_ret
   exact ⟨ret_bool (zip_all_end HL.out hz.out).symm,g0.h⟩
end Go.Proofs.YtdfdpghdjlgghaaGreat
namespace Go.Proofs.YtdfdpghdjlgghaaGreat
open Go.ChangeShapes Go.WideShapes Go.ChangeAt Go.RowKit
set_option linter.unusedVariables false
set_option linter.unusedSimpArgs false
set_option maxRecDepth 100000
attribute [local irreducible] Calls
theorem lfq14:True:=by
 /- A Act.put And.intro At_ok Below Below.refl Blk Bx.cut14 Bx.rd14 Calls DuH DuH.grow DuH.sl During_ok End_nil End_ok FlG FlG.box FlG.bx FlG.con FlG.le FlG.mono FlG.next FlG.tm Fx Fx.grow Go.Proofs Grown HA HA.out HA.out.grow HB5 HB5.out HB6 HCAP HF HF.out HF.out.grow HFL HFL.out.box HFL.out.tm HIM HML HMS HMS.out.grow HMZ HMZ.out.grow HMZ.out.rd HN HOL HQ HQ.out HW HW.out Hid HulF HulF.at HulF.is HulF.mono HulF.sub HulF.union ImF ImF.bx Int IntKind.i64.wrap Items_ok KE KE.out.mono KI KI.out.mono KM KM.out.mono Lib.hid List List.filterMap_nil List.getElem List.mem_of_getElem List.setIfInBounds_toArray List.set_cons_succ List.set_cons_zero N Nat Nat.le_refl OwF OwI OwI.vx OwM14 OwM14.grow RI0 RI0.out RIL RIL.out RL0 RL0.out RowM Rx.own Rx.rd Sr SrW T0 TE Value Value.slice.injEq Vx.bx W64 World World.alloc_heap_new Zx _ _eq_getElem a0 a0L a0i a0l a0l.length a0n a0p a0q a0t a1 a5 agg alloc armillary armillarylaw14.FlowItems armillarylaw14.Queries armillaryref14.Made at b b9 below_then bi bl bool by c c' cL cells cl clear cut d dE di dur_hul dur_mem e e9 encIm encIm_len end exact f fail false finP from fun func g g.h g.w g.w.cell gT14 go_enter go_loop go_loopw go_sem go_wp2_with grow h h0L h0i h0n h0p h0q h0t h1 h8 hB hB2 hE hT0 hTE have hbl hc hcap he heapN_cellj hfl hfx himf hin hl hm hm7 hmd hmd.box hmd.flow hmd.ins hml hms hms.row hmz hn hn0 hn255 hof hof.fx hof.row hol hp0 hpl hrow htl hulO_none hulO_some hw1 hx hx0 hxl hy0 hyl i0 i64 il in int k kernel_rfl l l0 lk lk_steady m made14_ok maxHeartbeats maxLen mono ms ms.length n n1 n3 n6 none ntmps o o.length o9 ob_gfalse14 ob_plain obtain omega only ot_cut own_cap own_keptN p pL pointer prog q qE r2subset r3subset rd0 rdl rdy refine region_pred returned rfl rintro rw sanity14 seen_in seen_out set_option show simp simpa slice some steady_eq subB subB_anti subB_self subB_trans subB_trans3 t theorem this toNat trace_state trans trivial true tupon_value tv14 u8 unfold using vl w w' w.alloc w.heap.size w2 w3 w4 w5 w6 wrapN x x.E x.F x.U x0 x0.t xl xl.h xl.t y y0 y1 yl z_ zx_rd -/
 trivial
end Go.Proofs.YtdfdpghdjlgghaaGreat
