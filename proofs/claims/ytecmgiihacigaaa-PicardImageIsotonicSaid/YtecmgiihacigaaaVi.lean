/-
  The law PicardImageIsotonic.
-/
import Derived.Test.YtecmgiihacigaaaVm
import Derived.Test.YtecmgiihacigaaaVq
namespace Go.Proofs.Ytecmgiihacigaaa
open Go.ChangeShapes Go.WideShapes Go.ChangeAt Go.RowKit Go.Maps
set_option linter.unusedVariables false
set_option linter.unusedSimpArgs false
set_option maxRecDepth 100000
attribute [local irreducible] Calls
set_option maxHeartbeats 64000000 in
theorem piso (w : World) (vL vO vX : Value) (n0 t ln : Int) (Lr : List Is) (outr : List Int) (Xr : List (Int × Int)) (hL : Ix w vL Lr ∧ ∀ x ∈ Lr, IW x) (hO : Px w vO outr ∧ ∀ x ∈ outr, W64 x) (hX : Vx w vX Xr ∧ ∀ q ∈ Xr, W64 q.1 ∧ W64 q.2) (hn : W64 n0) (ht : W64 t) (hln : W64 ln) (b0 b1 b2 b3 b4 b5 : Int) (hb : ∀ x ∈ [b0, b1, b2, b3, b4, b5], IntKind.has .u16 x) (m0 m1 m2 m3 m4 m5 : Int) (hmm : ∀ x ∈ [m0, m1, m2, m3, m4, m5], IntKind.has .u16 x) :
    Calls Try.prog 5 #[.agg #[.int .i64 n0, vL, vO, vX, .int .i64 t, .int .i64 ln], .agg #[.int .u16 b0, .int .u16 b1, .int .u16 b2, .int .u16 b3, .int .u16 b4, .int .u16 b5], .agg #[.int .u16 m0, .int .u16 m1, .int .u16 m2, .int .u16 m3, .int .u16 m4, .int .u16 m5]] w fun e w' => e = .returned (.bool true) ∧ Below w.heap.size w w' := by
  obtain ⟨pl, cl, rfl⟩ := hL.1.cut
  obtain ⟨po, co, rfl⟩ := hO.1.cut
  obtain ⟨px, cx, rfl⟩ := hX.1.cut
  have hE : Below w.heap.size w (((w.alloc (.cells #[.int .i64 n0, .slice pl Lr.length cl, .slice po outr.length co, .slice px Xr.length cx, .int .i64 t, .int .i64 ln] 28)).alloc (.cells #[.int .u16 b0, .int .u16 b1, .int .u16 b2, .int .u16 b3, .int .u16 b4, .int .u16 b5] 30)).alloc (.cells #[.int .u16 m0, .int .u16 m1, .int .u16 m2, .int .u16 m3, .int .u16 m4, .int .u16 m5] 30)) := allocs_below [.cells #[.int .i64 n0, .slice pl Lr.length cl, .slice po outr.length co, .slice px Xr.length cx, .int .i64 t, .int .i64 ln] 28, .cells #[.int .u16 b0, .int .u16 b1, .int .u16 b2, .int .u16 b3, .int .u16 b4, .int .u16 b5] 30, .cells #[.int .u16 m0, .int .u16 m1, .int .u16 m2, .int .u16 m3, .int .u16 m4, .int .u16 m5] 30] w
  have HQ := Lib.hid (show Blk (((w.alloc (.cells #[.int .i64 n0, .slice pl Lr.length cl, .slice po outr.length co, .slice px Xr.length cx, .int .i64 t, .int .i64 ln] 28)).alloc (.cells #[.int .u16 b0, .int .u16 b1, .int .u16 b2, .int .u16 b3, .int .u16 b4, .int .u16 b5] 30)).alloc (.cells #[.int .u16 m0, .int .u16 m1, .int .u16 m2, .int .u16 m3, .int .u16 m4, .int .u16 m5] 30)) (w.heap.size) (.cells #[.int .i64 n0, .slice pl Lr.length cl, .slice po outr.length co, .slice px Xr.length cx, .int .i64 t, .int .i64 ln] 28) from allocs_at [.cells #[.int .i64 n0, .slice pl Lr.length cl, .slice po outr.length co, .slice px Xr.length cx, .int .i64 t, .int .i64 ln] 28, .cells #[.int .u16 b0, .int .u16 b1, .int .u16 b2, .int .u16 b3, .int .u16 b4, .int .u16 b5] 30, .cells #[.int .u16 m0, .int .u16 m1, .int .u16 m2, .int .u16 m3, .int .u16 m4, .int .u16 m5] 30] w 0 _ rfl)
  have HB1 := Lib.hid (show Blk (((w.alloc (.cells #[.int .i64 n0, .slice pl Lr.length cl, .slice po outr.length co, .slice px Xr.length cx, .int .i64 t, .int .i64 ln] 28)).alloc (.cells #[.int .u16 b0, .int .u16 b1, .int .u16 b2, .int .u16 b3, .int .u16 b4, .int .u16 b5] 30)).alloc (.cells #[.int .u16 m0, .int .u16 m1, .int .u16 m2, .int .u16 m3, .int .u16 m4, .int .u16 m5] 30)) (w.heap.size + 1) (.cells #[.int .u16 b0, .int .u16 b1, .int .u16 b2, .int .u16 b3, .int .u16 b4, .int .u16 b5] 30) from allocs_at [.cells #[.int .i64 n0, .slice pl Lr.length cl, .slice po outr.length co, .slice px Xr.length cx, .int .i64 t, .int .i64 ln] 28, .cells #[.int .u16 b0, .int .u16 b1, .int .u16 b2, .int .u16 b3, .int .u16 b4, .int .u16 b5] 30, .cells #[.int .u16 m0, .int .u16 m1, .int .u16 m2, .int .u16 m3, .int .u16 m4, .int .u16 m5] 30] w 1 _ rfl)
  have HB2 := Lib.hid (show Blk (((w.alloc (.cells #[.int .i64 n0, .slice pl Lr.length cl, .slice po outr.length co, .slice px Xr.length cx, .int .i64 t, .int .i64 ln] 28)).alloc (.cells #[.int .u16 b0, .int .u16 b1, .int .u16 b2, .int .u16 b3, .int .u16 b4, .int .u16 b5] 30)).alloc (.cells #[.int .u16 m0, .int .u16 m1, .int .u16 m2, .int .u16 m3, .int .u16 m4, .int .u16 m5] 30)) (w.heap.size + 1 + 1) (.cells #[.int .u16 m0, .int .u16 m1, .int .u16 m2, .int .u16 m3, .int .u16 m4, .int .u16 m5] 30) from allocs_at [.cells #[.int .i64 n0, .slice pl Lr.length cl, .slice po outr.length co, .slice px Xr.length cx, .int .i64 t, .int .i64 ln] 28, .cells #[.int .u16 b0, .int .u16 b1, .int .u16 b2, .int .u16 b3, .int .u16 b4, .int .u16 b5] 30, .cells #[.int .u16 m0, .int .u16 m1, .int .u16 m2, .int .u16 m3, .int .u16 m4, .int .u16 m5] 30] w 2 _ rfl)
  have HL := Lib.hid (hL.1.grow hE)
  have HO := Lib.hid (hO.1.grow hE)
  have HXV := Lib.hid (hX.1.grow hE)
  have HW := Lib.hid hE
  clear hE hL hO hX hn ht hln
  go_enter Try.func5, Try.ntmps5
  go_wp2_with (fail)
  refine (sanity11 _).mono ?_
  rintro e w1 ⟨rfl, hB⟩
  have HQ := Lib.hid (HQ.out.grow hB)
  have HB1 := Lib.hid (HB1.out.grow hB)
  have HB2 := Lib.hid (HB2.out.grow hB)
  have HL := Lib.hid (HL.out.grow hB)
  have HO := Lib.hid (HO.out.grow hB)
  have HXV := Lib.hid (HXV.out.grow hB)
  have HW := Lib.hid (below_then HW.out hB)
  clear hB
  have q0 := heapN_cellj HQ.out (k := 0) rfl
  have q1 := heapN_cellj HQ.out (k := 1) rfl
  have q2 := heapN_cellj HQ.out (k := 2) rfl
  have q3 := heapN_cellj HQ.out (k := 3) rfl
  have q4 := heapN_cellj HQ.out (k := 4) rfl
  have q5 := heapN_cellj HQ.out (k := 5) rfl
  go_wp2_with (fail)
  refine (made_ok n0 t ln _ _ _ Lr outr Xr _ HL.out HO.out HXV.out).mono ?_
  rintro e w2 ⟨N, T, O, pu, pr, pb, cu, cr', cb, rfl, hu, hr, hol, hx, htv, hN3, hT20, hB⟩
  clear q0 q1 q2 q3 q4 q5 HL HO HXV
  have htm := stpT_bd t
  have hhm := stpH_bd ln
  obtain ⟨tm, etm⟩ : ∃ m, stpT t = m := ⟨_, rfl⟩
  obtain ⟨hm, ehm⟩ : ∃ m, stpH ln = m := ⟨_, rfl⟩
  rw [etm] at htm
  rw [ehm] at hhm
  rw [etm, ehm]
  have HBD := Lib.hid (bx_bd Xr N)
  have hbl := boxI_len Xr N 65536
  obtain ⟨X, hX⟩ : ∃ X, boxI Xr N 65536 = X := ⟨_, rfl⟩
  rw [hX] at hx hbl HBD
  obtain ⟨hn1, hn6, h400, hon, hvl, hout⟩ := tv_cases htv
  have HXL := Lib.hid hbl
  have HVX := Lib.hid (bd_vi (by decide) (by decide) HBD.out)
  have HTV := Lib.hid htv
  have HUX := Lib.hid (Rx.own encI_len hu (by unfold maxLen; omega))
  have HX := Lib.hid hx
  have HR := Lib.hid hr
  have HOW := Lib.hid hu
  have hE : Below w2.heap.size w2 ((w2.alloc (.cells #[.int .i64 N, .slice pu T.length cu, .slice pr N cr'] 25)).alloc (.cells #[.int .i64 tm, .int .i64 hm] 33)) := allocs_below [.cells #[.int .i64 N, .slice pu T.length cu, .slice pr N cr'] 25, .cells #[.int .i64 tm, .int .i64 hm] 33] w2
  have hB2 := hB.trans (hE.mono hB.size)
  have HC := Lib.hid (show Blk ((w2.alloc (.cells #[.int .i64 N, .slice pu T.length cu, .slice pr N cr'] 25)).alloc (.cells #[.int .i64 tm, .int .i64 hm] 33)) w2.heap.size (.cells #[.int .i64 N, .slice pu T.length cu, .slice pr N cr'] 25) from allocs_at [.cells #[.int .i64 N, .slice pu T.length cu, .slice pr N cr'] 25, .cells #[.int .i64 tm, .int .i64 hm] 33] w2 0 _ rfl)
  have HS := Lib.hid (show Blk ((w2.alloc (.cells #[.int .i64 N, .slice pu T.length cu, .slice pr N cr'] 25)).alloc (.cells #[.int .i64 tm, .int .i64 hm] 33)) (w2.heap.size + 1) (.cells #[.int .i64 tm, .int .i64 hm] 33) from allocs_at [.cells #[.int .i64 N, .slice pu T.length cu, .slice pr N cr'] 25, .cells #[.int .i64 tm, .int .i64 hm] 33] w2 1 _ rfl)
  have HUX := Lib.hid (HUX.out.grow hE)
  have HX := Lib.hid (HX.out.grow hE)
  have HR := Lib.hid (HR.out.grow hE)
  have HOW := Lib.hid (own_keptN HOW.out hE)
  have HQ := Lib.hid (HQ.out.grow hB2)
  have HB1 := Lib.hid (HB1.out.grow hB2)
  have HB2 := Lib.hid (HB2.out.grow hB2)
  have HW := Lib.hid (below_then HW.out hB2)
  clear hB hB2 hE hu hr hx htv hX hbl etm ehm h400 hon hvl hout hn6
  go_wp2_with (fail)
  generalize hWc : World.alloc (World.alloc w2 _) _ = W5 at *
  clear hWc
  clear HQ HOW
  have hhb := hb
  have KA := Lib.hid (fun (v : Value) (w : World) h => widen_ok v X _ m0 m1 m2 m3 m4 m5 w h (by rw [HXL.out]; omega) (fun p hp => by have := HBD.out p hp; omega) hmm rfl)
  have KY := Lib.hid (fun (v : Value) (w : World) h => widen_ok v X _ b0 b1 b2 b3 b4 b5 w h (by rw [HXL.out]; omega) (fun p hp => by have := HBD.out p hp; omega) hb rfl)
  have hA1 := wid_bd HBD.out hmm
  have hA2 := wid_sb2 (fun p hp => by have := HBD.out p hp; omega) hmm (l := X)
  have hY1 := wid_bd HBD.out hb
  have hY2 := wid_sb2 (fun p hp => by have := HBD.out p hp; omega) hb (l := X)
  obtain ⟨A, eA⟩ : ∃ A, widL X [m0, m1, m2, m3, m4, m5] X.length = A := ⟨_, rfl⟩
  obtain ⟨Y, eY⟩ : ∃ A, widL X [b0, b1, b2, b3, b4, b5] X.length = A := ⟨_, rfl⟩
  rw [eA] at KA hA1 hA2
  rw [eY] at KY hY1 hY2
  have hAl : A.length = X.length := hA2.1.symm
  have hYl : Y.length = X.length := hY2.1.symm
  have KB := Lib.hid (fun (v : Value) (w : World) h => widen_ok v A _ b0 b1 b2 b3 b4 b5 w h (by rw [hAl, HXL.out]; omega) (fun p hp => by have := hA1 p hp; omega) hb rfl)
  have hB1 := wid_bd hA1 hb
  have hB2 := wid_sb2 (fun p hp => by have := hA1 p hp; omega) hb (l := A)
  obtain ⟨B, eB⟩ : ∃ B, widL A [b0, b1, b2, b3, b4, b5] A.length = B := ⟨_, rfl⟩
  rw [eB] at KB hB1 hB2
  have hBl : B.length = X.length := hB2.1.symm.trans hAl
  have hXN : (X.length : Int) = N := by rw [HXL.out]
  have vA := bd_vi (by decide) (by decide) hA1
  have vB := bd_vi (by decide) (by decide) hB1
  have vY := bd_vi (by decide) (by decide) hY1
  have hiso := imgT_iso (T := tm) (T' := tm) (H := hm) (H' := hm) HTV.out hXN hY2 hB2 (by omega) (Int.le_refl _) (by omega) htm.1 (Int.le_refl _) (Int.le_refl _) htm.2
  have hl1 : (imgT T O tm hm X A).length = N := by rw [imgT_len HTV.out hXN, HXL.out]
  have hl2 : (imgT T O tm hm Y B).length = N := by rw [imgT_len HTV.out (by rw [hYl]; exact hXN), hYl, HXL.out]
  have K1 := Lib.hid (fun (vb : Value) (w : World) a b c d => image_vx N tm hm (.slice pu T.length cu) (.slice pr N cr') (.slice pb N cb) vb T O X A w a b c d HTV.out hXN (by rw [hAl]; exact hXN) HVX.out vA htm.1 htm.2 (by omega) (by omega))
  have K2 := Lib.hid (fun (va vb : Value) (w : World) a b c d => image_vx N tm hm (.slice pu T.length cu) (.slice pr N cr') va vb T O Y B w a b c d HTV.out (by rw [hYl]; exact hXN) (by rw [hBl]; exact hXN) vY vB htm.1 htm.2 (by omega) (by omega))
  obtain ⟨P, eP⟩ : ∃ P, imgT T O tm hm X A = P := ⟨_, rfl⟩
  obtain ⟨R, eR⟩ : ∃ P, imgT T O tm hm Y B = P := ⟨_, rfl⟩
  rw [eP] at K1 hl1 hiso
  rw [eR] at K2 hl2 hiso
  have KS := Lib.hid (fun va vb w a b => rsub_ok va vb P R true w a b (by rw [hl1, hl2]) (by omega) (sub_of hiso))
  have HPL := Lib.hid hl1
  have HRL := Lib.hid hl2
  have hn6 : N ≤ 3 := hN3
  clear hhb hA1 hA2 hY1 hY2 eA eY hAl hYl hB1 hB2 eB hBl hXN vA vB vY hiso hl1 hl2 eP eR hb hmm htm hhm
  have b0c := fun g : Grown W5 => heapN_cellj (HB1.out.grow g.h) (k := 0) rfl
  have b1c := fun g : Grown W5 => heapN_cellj (HB1.out.grow g.h) (k := 1) rfl
  have b2c := fun g : Grown W5 => heapN_cellj (HB1.out.grow g.h) (k := 2) rfl
  have b3c := fun g : Grown W5 => heapN_cellj (HB1.out.grow g.h) (k := 3) rfl
  have b4c := fun g : Grown W5 => heapN_cellj (HB1.out.grow g.h) (k := 4) rfl
  have b5c := fun g : Grown W5 => heapN_cellj (HB1.out.grow g.h) (k := 5) rfl
  have m0c := fun g : Grown W5 => heapN_cellj (HB2.out.grow g.h) (k := 0) rfl
  have m1c := fun g : Grown W5 => heapN_cellj (HB2.out.grow g.h) (k := 1) rfl
  have m2c := fun g : Grown W5 => heapN_cellj (HB2.out.grow g.h) (k := 2) rfl
  have m3c := fun g : Grown W5 => heapN_cellj (HB2.out.grow g.h) (k := 3) rfl
  have m4c := fun g : Grown W5 => heapN_cellj (HB2.out.grow g.h) (k := 4) rfl
  have m5c := fun g : Grown W5 => heapN_cellj (HB2.out.grow g.h) (k := 5) rfl
  refine region_pred (lk [(23, fun z_ _ => z_ = .slice pb N cb), (24, fun z_ _ => z_ = .agg #[.int .u16 m0, .int .u16 m1, .int .u16 m2, .int .u16 m3, .int .u16 m4, .int .u16 m5]), (25, fun z_ w' => Vx w' z_ A), (26, fun z_ _ => z_ = .slice pb N cb), (27, fun z_ _ => z_ = .agg #[.int .u16 b0, .int .u16 b1, .int .u16 b2, .int .u16 b3, .int .u16 b4, .int .u16 b5]), (28, fun z_ w' => Vx w' z_ Y), (11, fun z_ w' => Vx w' z_ A), (12, fun z_ w' => Vx w' z_ Y)]) (by kernel_rfl) (by kernel_rfl) (lk_steady _ ⟨steady_eq _, steady_eq _, fun u w1 w2 hb h => h.grow hb, steady_eq _, steady_eq _, fun u w1 w2 hb h => h.grow hb, fun u w1 w2 hb h => h.grow hb, fun u w1 w2 hb h => h.grow hb, trivial⟩) ?_ ?_
  · refine ⟨?_, ?_, ?_, ?_, ?_, ?_, ?_, ?_, trivial⟩
    · refine ob_plain [9] rfl rfl fun aa g h => ?_
      have yy0 := seen_out (v := .slice pb N cb) rfl rfl h.1
      have ee0 := getD_of yy0
      exact tupon_value (v := .slice pb N cb) (by simp [go_sem, ee0, yy0]) (Below.refl _ _) rfl
    · refine ob_plain [5] rfl rfl fun aa g h => ?_
      have yy0 := seen_out (v := .pointer (some ⟨w.heap.size + 1 + 1, 0, none⟩)) rfl rfl h.1
      have ee0 := getD_of yy0
      exact tupon_value (v := .agg #[.int .u16 m0, .int .u16 m1, .int .u16 m2, .int .u16 m3, .int .u16 m4, .int .u16 m5]) (by simp [go_sem, ee0, yy0, m0c g, m1c g, m2c g, m3c g, m4c g, m5c g]) (Below.refl _ _) rfl
    · refine ob_plain [23, 24] rfl rfl fun aa g h => ?_
      obtain ⟨_, yy0, rfl⟩ := seen_in rfl h.1
      have ee0 := getD_of yy0
      obtain ⟨_, yy1, rfl⟩ := seen_in rfl h.2.1
      have ee1 := getD_of yy1
      refine tupon_enter (f := 13) (args := #[.slice pb N cb, .agg #[.int .u16 m0, .int .u16 m1, .int .u16 m2, .int .u16 m3, .int .u16 m4, .int .u16 m5]]) (by simp [go_sem, ee0, yy0, ee1, yy1]) rfl ?_
      exact (KA.out _ g.w (HX.out.grow g.h)).mono fun e w' ⟨u9, he, hv, hB⟩ => ⟨_, he, hB, hv⟩
    · refine ob_plain [9] rfl rfl fun aa g h => ?_
      have yy0 := seen_out (v := .slice pb N cb) rfl rfl h.1
      have ee0 := getD_of yy0
      exact tupon_value (v := .slice pb N cb) (by simp [go_sem, ee0, yy0]) (Below.refl _ _) rfl
    · refine ob_plain [4] rfl rfl fun aa g h => ?_
      have yy0 := seen_out (v := .pointer (some ⟨w.heap.size + 1, 0, none⟩)) rfl rfl h.1
      have ee0 := getD_of yy0
      exact tupon_value (v := .agg #[.int .u16 b0, .int .u16 b1, .int .u16 b2, .int .u16 b3, .int .u16 b4, .int .u16 b5]) (by simp [go_sem, ee0, yy0, b0c g, b1c g, b2c g, b3c g, b4c g, b5c g]) (Below.refl _ _) rfl
    · refine ob_plain [26, 27] rfl rfl fun aa g h => ?_
      obtain ⟨_, yy0, rfl⟩ := seen_in rfl h.1
      have ee0 := getD_of yy0
      obtain ⟨_, yy1, rfl⟩ := seen_in rfl h.2.1
      have ee1 := getD_of yy1
      refine tupon_enter (f := 13) (args := #[.slice pb N cb, .agg #[.int .u16 b0, .int .u16 b1, .int .u16 b2, .int .u16 b3, .int .u16 b4, .int .u16 b5]]) (by simp [go_sem, ee0, yy0, ee1, yy1]) rfl ?_
      exact (KY.out _ g.w (HX.out.grow g.h)).mono fun e w' ⟨u9, he, hv, hB⟩ => ⟨_, he, hB, hv⟩
    · refine ob_plain [25] rfl rfl fun aa g h => ?_
      obtain ⟨z25, yy0, hv25⟩ := seen_in rfl h.1
      have ee0 := getD_of yy0
      exact tupon_value (v := z25) (by simp [go_sem, ee0, yy0]) (Below.refl _ _) hv25
    · refine ob_plain [28] rfl rfl fun aa g h => ?_
      obtain ⟨z28, yy0, hv28⟩ := seen_in rfl h.1
      have ee0 := getD_of yy0
      exact tupon_value (v := z28) (by simp [go_sem, ee0, yy0]) (Below.refl _ _) hv28
  rintro w3 hB _ rfl _ rfl z25 hv25 _ rfl _ rfl z28 hv28 z11 hv11 z12 hv12
  simp only [Act.put, List.setIfInBounds_toArray, List.set_cons_succ, List.set_cons_zero, List.filterMap_nil, finP]
  have HB1 := Lib.hid (HB1.out.grow hB)
  have HB2 := Lib.hid (HB2.out.grow hB)
  have HC := Lib.hid (HC.out.grow hB)
  have HS := Lib.hid (HS.out.grow hB)
  have HUX := Lib.hid (HUX.out.grow hB)
  have HX := Lib.hid (HX.out.grow hB)
  have HR := Lib.hid (HR.out.grow hB)
  have HW := Lib.hid (below_then HW.out hB)
  clear hB
  clear b0c b1c b2c b3c b4c b5c m0c m1c m2c m3c m4c m5c hv25 hv28
  obtain ⟨pA, cA, rfl⟩ : ∃ p c, z11 = .slice p A.length c := hv11.cut
  obtain ⟨pY, cY, rfl⟩ : ∃ p c, z12 = .slice p Y.length c := hv12.cut
  have VA := Lib.hid hv11
  have VY := Lib.hid hv12
  clear hv11 hv12
  have b0c := heapN_cellj HB1.out (k := 0) rfl
  have b1c := heapN_cellj HB1.out (k := 1) rfl
  have b2c := heapN_cellj HB1.out (k := 2) rfl
  have b3c := heapN_cellj HB1.out (k := 3) rfl
  have b4c := heapN_cellj HB1.out (k := 4) rfl
  have b5c := heapN_cellj HB1.out (k := 5) rfl
  go_wp2_with (fail)
  refine (KB.out _ _ VA.out).mono ?_
  rintro e w4 ⟨vB, rfl, hv, hB⟩
  have HB1 := Lib.hid (HB1.out.grow hB)
  have HB2 := Lib.hid (HB2.out.grow hB)
  have HC := Lib.hid (HC.out.grow hB)
  have HS := Lib.hid (HS.out.grow hB)
  have HUX := Lib.hid (HUX.out.grow hB)
  have HX := Lib.hid (HX.out.grow hB)
  have HR := Lib.hid (HR.out.grow hB)
  have VA := Lib.hid (VA.out.grow hB)
  have VY := Lib.hid (VY.out.grow hB)
  have HW := Lib.hid (below_then HW.out hB)
  clear hB
  clear b0c b1c b2c b3c b4c b5c
  obtain ⟨pB, cB, rfl⟩ : ∃ p c, vB = .slice p B.length c := hv.cut
  have VB := Lib.hid hv
  clear hv
  go_wp2_with (fail)
  have k0 := fun g : Grown w4 => heapN_cellj (HC.out.grow g.h) (k := 0) rfl
  have k1 := fun g : Grown w4 => heapN_cellj (HC.out.grow g.h) (k := 1) rfl
  have k2 := fun g : Grown w4 => heapN_cellj (HC.out.grow g.h) (k := 2) rfl
  have s0 := fun g : Grown w4 => heapN_cellj (HS.out.grow g.h) (k := 0) rfl
  have s1 := fun g : Grown w4 => heapN_cellj (HS.out.grow g.h) (k := 1) rfl
  refine region_pred (lk [(32, fun z_ _ => z_ = .agg #[.int .i64 N, .slice pu T.length cu, .slice pr N cr']), (33, fun z_ _ => z_ = .slice pb N cb), (34, fun z_ _ => z_ = .slice pA A.length cA), (35, fun z_ _ => z_ = .agg #[.int .i64 tm, .int .i64 hm]), (36, fun z_ w' => Vx w' z_ P), (37, fun z_ _ => z_ = .agg #[.int .i64 N, .slice pu T.length cu, .slice pr N cr']), (38, fun z_ _ => z_ = .slice pY Y.length cY), (39, fun z_ _ => z_ = .slice pB B.length cB), (40, fun z_ _ => z_ = .agg #[.int .i64 tm, .int .i64 hm]), (41, fun z_ w' => Vx w' z_ R), (14, fun z_ w' => Vx w' z_ P), (15, fun z_ w' => Vx w' z_ R)]) (by kernel_rfl) (by kernel_rfl) (lk_steady _ ⟨steady_eq _, steady_eq _, steady_eq _, steady_eq _, fun u w1 w2 hb h => h.grow hb, steady_eq _, steady_eq _, steady_eq _, steady_eq _, fun u w1 w2 hb h => h.grow hb, fun u w1 w2 hb h => h.grow hb, fun u w1 w2 hb h => h.grow hb, trivial⟩) ?_ ?_
  · refine ⟨?_, ?_, ?_, ?_, ?_, ?_, ?_, ?_, ?_, ?_, ?_, ?_, trivial⟩
    · refine ob_plain [8] rfl rfl fun aa g h => ?_
      have yy0 := seen_out (v := .pointer (some ⟨w2.heap.size, 0, none⟩)) rfl rfl h.1
      have ee0 := getD_of yy0
      exact tupon_value (v := .agg #[.int .i64 N, .slice pu T.length cu, .slice pr N cr']) (by simp [go_sem, ee0, yy0, k0 g, k1 g, k2 g]) (Below.refl _ _) rfl
    · refine ob_plain [9] rfl rfl fun aa g h => ?_
      have yy0 := seen_out (v := .slice pb N cb) rfl rfl h.1
      have ee0 := getD_of yy0
      exact tupon_value (v := .slice pb N cb) (by simp [go_sem, ee0, yy0]) (Below.refl _ _) rfl
    · refine ob_plain [11] rfl rfl fun aa g h => ?_
      have yy0 := seen_out (v := .slice pA A.length cA) rfl rfl h.1
      have ee0 := getD_of yy0
      exact tupon_value (v := .slice pA A.length cA) (by simp [go_sem, ee0, yy0]) (Below.refl _ _) rfl
    · refine ob_plain [10] rfl rfl fun aa g h => ?_
      have yy0 := seen_out (v := .pointer (some ⟨w2.heap.size + 1, 0, none⟩)) rfl rfl h.1
      have ee0 := getD_of yy0
      exact tupon_value (v := .agg #[.int .i64 tm, .int .i64 hm]) (by simp [go_sem, ee0, yy0, s0 g, s1 g]) (Below.refl _ _) rfl
    · refine ob_plain [32, 33, 34, 35] rfl rfl fun aa g h => ?_
      obtain ⟨_, yy0, rfl⟩ := seen_in rfl h.1
      have ee0 := getD_of yy0
      obtain ⟨_, yy1, rfl⟩ := seen_in rfl h.2.1
      have ee1 := getD_of yy1
      obtain ⟨_, yy2, rfl⟩ := seen_in rfl h.2.2.1
      have ee2 := getD_of yy2
      obtain ⟨_, yy3, rfl⟩ := seen_in rfl h.2.2.2.1
      have ee3 := getD_of yy3
      refine tupon_enter (f := 17) (args := #[.agg #[.int .i64 N, .slice pu T.length cu, .slice pr N cr'], .slice pb N cb, .slice pA A.length cA, .agg #[.int .i64 tm, .int .i64 hm]]) (by simp [go_sem, ee0, yy0, ee1, yy1, ee2, yy2, ee3, yy3]) rfl ?_
      exact (K1.out _ g.w (HUX.out.grow g.h) (HR.out.grow g.h) (HX.out.grow g.h) (VA.out.grow g.h)).mono fun e w' ⟨u9, he, hv, hB⟩ => ⟨_, he, hB, hv⟩
    · refine ob_plain [8] rfl rfl fun aa g h => ?_
      have yy0 := seen_out (v := .pointer (some ⟨w2.heap.size, 0, none⟩)) rfl rfl h.1
      have ee0 := getD_of yy0
      exact tupon_value (v := .agg #[.int .i64 N, .slice pu T.length cu, .slice pr N cr']) (by simp [go_sem, ee0, yy0, k0 g, k1 g, k2 g]) (Below.refl _ _) rfl
    · refine ob_plain [12] rfl rfl fun aa g h => ?_
      have yy0 := seen_out (v := .slice pY Y.length cY) rfl rfl h.1
      have ee0 := getD_of yy0
      exact tupon_value (v := .slice pY Y.length cY) (by simp [go_sem, ee0, yy0]) (Below.refl _ _) rfl
    · refine ob_plain [13] rfl rfl fun aa g h => ?_
      have yy0 := seen_out (v := .slice pB B.length cB) rfl rfl h.1
      have ee0 := getD_of yy0
      exact tupon_value (v := .slice pB B.length cB) (by simp [go_sem, ee0, yy0]) (Below.refl _ _) rfl
    · refine ob_plain [10] rfl rfl fun aa g h => ?_
      have yy0 := seen_out (v := .pointer (some ⟨w2.heap.size + 1, 0, none⟩)) rfl rfl h.1
      have ee0 := getD_of yy0
      exact tupon_value (v := .agg #[.int .i64 tm, .int .i64 hm]) (by simp [go_sem, ee0, yy0, s0 g, s1 g]) (Below.refl _ _) rfl
    · refine ob_plain [37, 38, 39, 40] rfl rfl fun aa g h => ?_
      obtain ⟨_, yy0, rfl⟩ := seen_in rfl h.1
      have ee0 := getD_of yy0
      obtain ⟨_, yy1, rfl⟩ := seen_in rfl h.2.1
      have ee1 := getD_of yy1
      obtain ⟨_, yy2, rfl⟩ := seen_in rfl h.2.2.1
      have ee2 := getD_of yy2
      obtain ⟨_, yy3, rfl⟩ := seen_in rfl h.2.2.2.1
      have ee3 := getD_of yy3
      refine tupon_enter (f := 17) (args := #[.agg #[.int .i64 N, .slice pu T.length cu, .slice pr N cr'], .slice pY Y.length cY, .slice pB B.length cB, .agg #[.int .i64 tm, .int .i64 hm]]) (by simp [go_sem, ee0, yy0, ee1, yy1, ee2, yy2, ee3, yy3]) rfl ?_
      exact (K2.out _ _ g.w (HUX.out.grow g.h) (HR.out.grow g.h) (VY.out.grow g.h) (VB.out.grow g.h)).mono fun e w' ⟨u9, he, hv, hB⟩ => ⟨_, he, hB, hv⟩
    · refine ob_plain [36] rfl rfl fun aa g h => ?_
      obtain ⟨z36, yy0, hv36⟩ := seen_in rfl h.1
      have ee0 := getD_of yy0
      exact tupon_value (v := z36) (by simp [go_sem, ee0, yy0]) (Below.refl _ _) hv36
    · refine ob_plain [41] rfl rfl fun aa g h => ?_
      obtain ⟨z41, yy0, hv41⟩ := seen_in rfl h.1
      have ee0 := getD_of yy0
      exact tupon_value (v := z41) (by simp [go_sem, ee0, yy0]) (Below.refl _ _) hv41
  rintro w5 hB _ rfl _ rfl _ rfl _ rfl z36 hv36 _ rfl _ rfl _ rfl _ rfl z41 hv41 z14 hv14 z15 hv15
  simp only [Act.put, List.setIfInBounds_toArray, List.set_cons_succ, List.set_cons_zero, List.filterMap_nil, finP]
  have HB1 := Lib.hid (HB1.out.grow hB)
  have HB2 := Lib.hid (HB2.out.grow hB)
  have HC := Lib.hid (HC.out.grow hB)
  have HS := Lib.hid (HS.out.grow hB)
  have HUX := Lib.hid (HUX.out.grow hB)
  have HX := Lib.hid (HX.out.grow hB)
  have HR := Lib.hid (HR.out.grow hB)
  have VA := Lib.hid (VA.out.grow hB)
  have VY := Lib.hid (VY.out.grow hB)
  have VB := Lib.hid (VB.out.grow hB)
  have HW := Lib.hid (below_then HW.out hB)
  clear hB
  clear k0 k1 k2 s0 s1 hv36 hv41
  obtain ⟨pP, cP, rfl⟩ := hv14.cut
  obtain ⟨pR, cR, rfl⟩ := hv15.cut
  rw [HPL.out] at hv14 ⊢
  rw [HRL.out] at hv15 ⊢
  have VP := Lib.hid hv14
  have VR := Lib.hid hv15
  have k0 := heapN_cellj HC.out (k := 0) rfl
  clear hv14 hv15
  go_wp2_with (fail)
  refine (KS.out _ _ _ VP.out VR.out).mono ?_
  rintro e w6 ⟨rfl, hB⟩
  have HW := Lib.hid (below_then HW.out hB)
  clear hB
  go_wp2_with (fail)
  go_ret
  exact ⟨rfl, HW.out⟩
end Go.Proofs.Ytecmgiihacigaaa
