/-
  The law PicardMatchesReference.
-/
import Derived.Test.YtecmgiihacigaaaVm
import Derived.Test.YtecmgiihacigaaaVq
import Derived.Test.YtecmgiihacigaaaRi
namespace Go.Proofs.Ytecmgiihacigaaa
open Go.ChangeShapes Go.WideShapes Go.ChangeAt Go.RowKit Go.Maps
set_option linter.unusedVariables false
set_option linter.unusedSimpArgs false
set_option maxRecDepth 100000
attribute [local irreducible] Calls
set_option maxHeartbeats 64000000 in
theorem pmat (w : World) (vL vO vX : Value) (n0 t ln : Int) (Lr : List Is) (outr : List Int) (Xr : List (Int × Int)) (hL : Ix w vL Lr ∧ ∀ x ∈ Lr, IW x) (hO : Px w vO outr ∧ ∀ x ∈ outr, W64 x) (hX : Vx w vX Xr ∧ ∀ q ∈ Xr, W64 q.1 ∧ W64 q.2) (hn : W64 n0) (ht : W64 t) (hln : W64 ln) (b0 b1 b2 b3 b4 b5 : Int) (hb : ∀ x ∈ [b0, b1, b2, b3, b4, b5], IntKind.has .u16 x) :
    Calls Try.prog 3 #[.agg #[.int .i64 n0, vL, vO, vX, .int .i64 t, .int .i64 ln], .agg #[.int .u16 b0, .int .u16 b1, .int .u16 b2, .int .u16 b3, .int .u16 b4, .int .u16 b5]] w fun e w' => e = .returned (.bool true) ∧ Below w.heap.size w w' := by
  obtain ⟨pl, cl, rfl⟩ := hL.1.cut
  obtain ⟨po, co, rfl⟩ := hO.1.cut
  obtain ⟨px, cx, rfl⟩ := hX.1.cut
  have hE : Below w.heap.size w ((w.alloc (.cells #[.int .i64 n0, .slice pl Lr.length cl, .slice po outr.length co, .slice px Xr.length cx, .int .i64 t, .int .i64 ln] 28)).alloc (.cells #[.int .u16 b0, .int .u16 b1, .int .u16 b2, .int .u16 b3, .int .u16 b4, .int .u16 b5] 30)) := allocs_below [.cells #[.int .i64 n0, .slice pl Lr.length cl, .slice po outr.length co, .slice px Xr.length cx, .int .i64 t, .int .i64 ln] 28, .cells #[.int .u16 b0, .int .u16 b1, .int .u16 b2, .int .u16 b3, .int .u16 b4, .int .u16 b5] 30] w
  have HQ := Lib.hid (show Blk ((w.alloc (.cells #[.int .i64 n0, .slice pl Lr.length cl, .slice po outr.length co, .slice px Xr.length cx, .int .i64 t, .int .i64 ln] 28)).alloc (.cells #[.int .u16 b0, .int .u16 b1, .int .u16 b2, .int .u16 b3, .int .u16 b4, .int .u16 b5] 30)) (w.heap.size) (.cells #[.int .i64 n0, .slice pl Lr.length cl, .slice po outr.length co, .slice px Xr.length cx, .int .i64 t, .int .i64 ln] 28) from allocs_at [.cells #[.int .i64 n0, .slice pl Lr.length cl, .slice po outr.length co, .slice px Xr.length cx, .int .i64 t, .int .i64 ln] 28, .cells #[.int .u16 b0, .int .u16 b1, .int .u16 b2, .int .u16 b3, .int .u16 b4, .int .u16 b5] 30] w 0 _ rfl)
  have HB1 := Lib.hid (show Blk ((w.alloc (.cells #[.int .i64 n0, .slice pl Lr.length cl, .slice po outr.length co, .slice px Xr.length cx, .int .i64 t, .int .i64 ln] 28)).alloc (.cells #[.int .u16 b0, .int .u16 b1, .int .u16 b2, .int .u16 b3, .int .u16 b4, .int .u16 b5] 30)) (w.heap.size + 1) (.cells #[.int .u16 b0, .int .u16 b1, .int .u16 b2, .int .u16 b3, .int .u16 b4, .int .u16 b5] 30) from allocs_at [.cells #[.int .i64 n0, .slice pl Lr.length cl, .slice po outr.length co, .slice px Xr.length cx, .int .i64 t, .int .i64 ln] 28, .cells #[.int .u16 b0, .int .u16 b1, .int .u16 b2, .int .u16 b3, .int .u16 b4, .int .u16 b5] 30] w 1 _ rfl)
  have HL := Lib.hid (hL.1.grow hE)
  have HO := Lib.hid (hO.1.grow hE)
  have HXV := Lib.hid (hX.1.grow hE)
  have HW := Lib.hid hE
  clear hE hL hO hX hn ht hln
  go_enter Try.func3, Try.ntmps3
  go_wp2_with (fail)
  refine (sanity11 _).mono ?_
  rintro e w1 ⟨rfl, hB⟩
  have HQ := Lib.hid (HQ.out.grow hB)
  have HB1 := Lib.hid (HB1.out.grow hB)
  have HL := Lib.hid (HL.out.grow hB)
  have HO := Lib.hid (HO.out.grow hB)
  have HXV := Lib.hid (HXV.out.grow hB)
  have HW := Lib.hid (below_then HW.out hB)
  clear hB
  have q0 := heapN_cellj HQ.out (k := 0) rfl
  have q1 := heapN_cellj HQ.out (k := 1) rfl
  have q2 := heapN_cellj HQ.out (k := 2) rfl
  have q3 := heapN_cellj HQ.out (k := 3) rfl
  have q4 := heapN_cellj HQ.out (k := 4) rfl
  have q5 := heapN_cellj HQ.out (k := 5) rfl
  go_wp2_with (fail)
  refine (made_ok n0 t ln _ _ _ Lr outr Xr _ HL.out HO.out HXV.out).mono ?_
  rintro e w2 ⟨N, T, O, pu, pr, pb, cu, cr', cb, rfl, hu, hr, hol, hx, htv, hN3, hT20, hB⟩
  clear q0 q1 q2 q3 q4 q5 HL HO HXV
  have htm := stpT_bd t
  have hhm := stpH_bd ln
  obtain ⟨tm, etm⟩ : ∃ m, stpT t = m := ⟨_, rfl⟩
  obtain ⟨hm, ehm⟩ : ∃ m, stpH ln = m := ⟨_, rfl⟩
  rw [etm] at htm
  rw [ehm] at hhm
  rw [etm, ehm]
  have HBD := Lib.hid (bx_bd Xr N)
  have hbl := boxI_len Xr N 65536
  obtain ⟨X, hX⟩ : ∃ X, boxI Xr N 65536 = X := ⟨_, rfl⟩
  rw [hX] at hx hbl HBD
  obtain ⟨hn1, hn6, h400, hon, hvl, hout⟩ := tv_cases htv
  have HXL := Lib.hid hbl
  have HVX := Lib.hid (bd_vi (by decide) (by decide) HBD.out)
  have HTV := Lib.hid htv
  have HUX := Lib.hid (Rx.own encI_len hu (by unfold maxLen; omega))
  have HX := Lib.hid hx
  have HR := Lib.hid hr
  have HOW := Lib.hid hu
  have hE : Below w2.heap.size w2 ((w2.alloc (.cells #[.int .i64 N, .slice pu T.length cu, .slice pr N cr'] 25)).alloc (.cells #[.int .i64 tm, .int .i64 hm] 33)) := allocs_below [.cells #[.int .i64 N, .slice pu T.length cu, .slice pr N cr'] 25, .cells #[.int .i64 tm, .int .i64 hm] 33] w2
  have hB2 := hB.trans (hE.mono hB.size)
  have HC := Lib.hid (show Blk ((w2.alloc (.cells #[.int .i64 N, .slice pu T.length cu, .slice pr N cr'] 25)).alloc (.cells #[.int .i64 tm, .int .i64 hm] 33)) w2.heap.size (.cells #[.int .i64 N, .slice pu T.length cu, .slice pr N cr'] 25) from allocs_at [.cells #[.int .i64 N, .slice pu T.length cu, .slice pr N cr'] 25, .cells #[.int .i64 tm, .int .i64 hm] 33] w2 0 _ rfl)
  have HS := Lib.hid (show Blk ((w2.alloc (.cells #[.int .i64 N, .slice pu T.length cu, .slice pr N cr'] 25)).alloc (.cells #[.int .i64 tm, .int .i64 hm] 33)) (w2.heap.size + 1) (.cells #[.int .i64 tm, .int .i64 hm] 33) from allocs_at [.cells #[.int .i64 N, .slice pu T.length cu, .slice pr N cr'] 25, .cells #[.int .i64 tm, .int .i64 hm] 33] w2 1 _ rfl)
  have HUX := Lib.hid (HUX.out.grow hE)
  have HX := Lib.hid (HX.out.grow hE)
  have HR := Lib.hid (HR.out.grow hE)
  have HOW := Lib.hid (own_keptN HOW.out hE)
  have HQ := Lib.hid (HQ.out.grow hB2)
  have HB1 := Lib.hid (HB1.out.grow hB2)
  have HW := Lib.hid (below_then HW.out hB2)
  clear hB hB2 hE hu hr hx htv hX hbl etm ehm h400 hon hvl hout hn6
  have b0c := heapN_cellj HB1.out (k := 0) rfl
  have b1c := heapN_cellj HB1.out (k := 1) rfl
  have b2c := heapN_cellj HB1.out (k := 2) rfl
  have b3c := heapN_cellj HB1.out (k := 3) rfl
  have b4c := heapN_cellj HB1.out (k := 4) rfl
  have b5c := heapN_cellj HB1.out (k := 5) rfl
  go_wp2_with (fail)
  generalize hWc : World.alloc (World.alloc w2 _) _ = W5 at *
  clear hWc
  clear HQ HOW
  have KY := Lib.hid (fun (v : Value) (w : World) h => widen_ok v X _ b0 b1 b2 b3 b4 b5 w h (by rw [HXL.out]; omega) (fun p hp => by have := HBD.out p hp; omega) hb rfl)
  have hY1 := wid_bd HBD.out hb
  have hY2 := wid_sb2 (fun p hp => by have := HBD.out p hp; omega) hb (l := X)
  obtain ⟨Y, eY⟩ : ∃ A, widL X [b0, b1, b2, b3, b4, b5] X.length = A := ⟨_, rfl⟩
  rw [eY] at KY hY1 hY2
  have hYl : Y.length = X.length := hY2.1.symm
  have hXN : (X.length : Int) = N := by rw [HXL.out]
  have vY := bd_vi (by decide) (by decide) hY1
  have hl1 : (imgT T O tm hm X Y).length = N := by rw [imgT_len HTV.out hXN, HXL.out]
  have K1 := Lib.hid (fun (vb : Value) (w : World) a b c d => image_vx N tm hm (.slice pu T.length cu) (.slice pr N cr') (.slice pb N cb) vb T O X Y w a b c d HTV.out hXN (by rw [hYl]; exact hXN) HVX.out vY htm.1 htm.2 (by omega) (by omega))
  have K2 := Lib.hid (fun (vb : Value) (w : World) a b c d => rimg_ok N tm hm (.slice pu T.length cu) (.slice pr N cr') (.slice pb N cb) vb T O X Y _ w a b c d HTV.out hXN (by rw [hYl]; exact hXN) HVX.out vY htm.1 htm.2 (by omega) (by omega) rfl)
  obtain ⟨r, er⟩ : ∃ r, encR (imgT T O tm hm X) X = r := ⟨_, rfl⟩
  have E1 := Lib.hid (fun w a b c => encl_ok N tm hm (.slice pu T.length cu) (.slice pr N cr') (.slice pb N cb) T O X w a b c HTV.out hXN HVX.out htm.1 htm.2 (by omega) (by omega) r er)
  have E2 := Lib.hid (fun w a b c => rencl_ok N tm hm (.slice pu T.length cu) (.slice pr N cr') (.slice pb N cb) T O X w a b c HTV.out hXN HVX.out htm.1 htm.2 (by omega) (by omega) r er)
  obtain ⟨v, ev⟩ : ∃ v, (bndB (imgT T O tm hm X Y) && subB (imgT T O tm hm X Y) Y) = v := ⟨_, rfl⟩
  have V1 := Lib.hid (fun (vb : Value) w a b c d => val_ok N tm hm (.slice pu T.length cu) (.slice pr N cr') (.slice pb N cb) vb T O X Y _ w a b c d HTV.out hXN (by rw [hYl]; exact hXN) HVX.out vY htm.1 htm.2 (by omega) (by omega) rfl v ev)
  have V2 := Lib.hid (fun (vb : Value) w a b c d => rval_ok N tm hm (.slice pu T.length cu) (.slice pr N cr') (.slice pb N cb) vb T O X Y _ w a b c d HTV.out hXN (by rw [hYl]; exact hXN) HVX.out vY htm.1 htm.2 (by omega) (by omega) rfl v ev)
  obtain ⟨P, eP⟩ : ∃ P, imgT T O tm hm X Y = P := ⟨_, rfl⟩
  rw [eP] at K1 K2 hl1
  have SP := Lib.hid (fun va vb w a b => sbox_self va vb P N w a b hl1)
  obtain ⟨D, eD⟩ : ∃ D, r.getD [] = D := ⟨_, rfl⟩
  obtain ⟨is, eis⟩ : ∃ b, r.isSome = b := ⟨_, rfl⟩
  rw [eD, eis] at E1 E2
  have SD := Lib.hid (fun va vb w a b => sbox_self va vb D D.length w a b rfl)
  clear hY1 hY2 eY hYl hXN vY hl1 er ev eP eD eis hb htm hhm
  go_wp2_with (fail)
  refine (KY.out _ _ HX.out).mono ?_
  rintro e w3 ⟨vY, rfl, hv, hB⟩
  have HB1 := Lib.hid (HB1.out.grow hB)
  have HC := Lib.hid (HC.out.grow hB)
  have HS := Lib.hid (HS.out.grow hB)
  have HUX := Lib.hid (HUX.out.grow hB)
  have HX := Lib.hid (HX.out.grow hB)
  have HR := Lib.hid (HR.out.grow hB)
  have HW := Lib.hid (below_then HW.out hB)
  clear hB
  clear b0c b1c b2c b3c b4c b5c
  obtain ⟨pY, cY, rfl⟩ : ∃ p c, vY = .slice p Y.length c := hv.cut
  have VY := Lib.hid hv
  clear hv
  have k0 := heapN_cellj HC.out (k := 0) rfl
  have k1 := heapN_cellj HC.out (k := 1) rfl
  have k2 := heapN_cellj HC.out (k := 2) rfl
  have s0 := heapN_cellj HS.out (k := 0) rfl
  have s1 := heapN_cellj HS.out (k := 1) rfl
  go_wp2_with (fail)
  refine (E1.out _ HUX.out HR.out HX.out).mono ?_
  rintro e w4 ⟨v1, rfl, hv, hB⟩
  have HB1 := Lib.hid (HB1.out.grow hB)
  have HC := Lib.hid (HC.out.grow hB)
  have HS := Lib.hid (HS.out.grow hB)
  have HUX := Lib.hid (HUX.out.grow hB)
  have HX := Lib.hid (HX.out.grow hB)
  have HR := Lib.hid (HR.out.grow hB)
  have VY := Lib.hid (VY.out.grow hB)
  have HW := Lib.hid (below_then HW.out hB)
  clear hB
  clear k0 k1 k2 s0 s1
  obtain ⟨p1, d1, rfl⟩ := hv.cut
  have W1 := Lib.hid hv
  clear hv E1
  have k0 := heapN_cellj HC.out (k := 0) rfl
  have k1 := heapN_cellj HC.out (k := 1) rfl
  have k2 := heapN_cellj HC.out (k := 2) rfl
  have s0 := heapN_cellj HS.out (k := 0) rfl
  have s1 := heapN_cellj HS.out (k := 1) rfl
  go_wp2_with (fail)
  refine (E2.out _ HUX.out HR.out HX.out).mono ?_
  rintro e w5 ⟨v2, rfl, hv, hB⟩
  have HB1 := Lib.hid (HB1.out.grow hB)
  have HC := Lib.hid (HC.out.grow hB)
  have HS := Lib.hid (HS.out.grow hB)
  have HUX := Lib.hid (HUX.out.grow hB)
  have HX := Lib.hid (HX.out.grow hB)
  have HR := Lib.hid (HR.out.grow hB)
  have VY := Lib.hid (VY.out.grow hB)
  have W1 := Lib.hid (W1.out.grow hB)
  have HW := Lib.hid (below_then HW.out hB)
  clear hB
  clear k0 k1 k2 s0 s1
  obtain ⟨p2, d2, rfl⟩ := hv.cut
  have W2 := Lib.hid hv
  clear hv E2
  go_wp2_with (fail)
  have k0 := fun g : Grown w5 => heapN_cellj (HC.out.grow g.h) (k := 0) rfl
  have k1 := fun g : Grown w5 => heapN_cellj (HC.out.grow g.h) (k := 1) rfl
  have k2 := fun g : Grown w5 => heapN_cellj (HC.out.grow g.h) (k := 2) rfl
  have s0 := fun g : Grown w5 => heapN_cellj (HS.out.grow g.h) (k := 0) rfl
  have s1 := fun g : Grown w5 => heapN_cellj (HS.out.grow g.h) (k := 1) rfl
  refine region_pred (lk [(38, fun z_ _ => z_ = .agg #[.int .i64 N, .slice pu T.length cu, .slice pr N cr']), (39, fun z_ _ => z_ = .slice pb N cb), (40, fun z_ _ => z_ = .slice pY Y.length cY), (41, fun z_ _ => z_ = .agg #[.int .i64 tm, .int .i64 hm]), (42, fun z_ w' => Vx w' z_ P), (43, fun z_ _ => z_ = .agg #[.int .i64 N, .slice pu T.length cu, .slice pr N cr']), (44, fun z_ _ => z_ = .slice pb N cb), (45, fun z_ _ => z_ = .slice pY Y.length cY), (46, fun z_ _ => z_ = .agg #[.int .i64 tm, .int .i64 hm]), (47, fun z_ w' => Vx w' z_ P), (48, fun z_ _ => z_ = .bool true), (49, fun z_ _ => z_ = .bool true), (50, fun z_ _ => z_ = .agg #[.int .i64 N, .slice pu T.length cu, .slice pr N cr']), (51, fun z_ _ => z_ = .slice pb N cb), (52, fun z_ _ => z_ = .slice pY Y.length cY), (53, fun z_ _ => z_ = .agg #[.int .i64 tm, .int .i64 hm]), (54, fun z_ _ => z_ = .bool v), (55, fun z_ _ => z_ = .agg #[.int .i64 N, .slice pu T.length cu, .slice pr N cr']), (56, fun z_ _ => z_ = .slice pb N cb), (57, fun z_ _ => z_ = .slice pY Y.length cY), (58, fun z_ _ => z_ = .agg #[.int .i64 tm, .int .i64 hm]), (59, fun z_ _ => z_ = .bool v), (60, fun z_ _ => z_ = .bool true), (61, fun z_ _ => z_ = .bool true), (62, fun z_ _ => z_ = .bool true), (63, fun z_ _ => z_ = .slice p1 D.length d1), (64, fun z_ _ => z_ = .slice p2 D.length d2), (65, fun z_ _ => z_ = .bool true), (66, fun z_ _ => z_ = .bool true), (67, fun z_ _ => z_ = .bool true), (68, fun z_ _ => z_ = .bool is), (69, fun z_ _ => z_ = .bool is), (70, fun z_ _ => z_ = .bool true), (71, fun z_ _ => z_ = .bool true), (72, fun z_ _ => z_ = .bool true), (73, fun z_ _ => z_ = .bool true), (74, fun z_ _ => z_ = .bool true), (4, fun z_ _ => z_ = .bool true)]) (by kernel_rfl) (by kernel_rfl) (lk_steady _ ⟨steady_eq _, steady_eq _, steady_eq _, steady_eq _, fun u w1 w2 hb h => h.grow hb, steady_eq _, steady_eq _, steady_eq _, steady_eq _, fun u w1 w2 hb h => h.grow hb, steady_eq _, steady_eq _, steady_eq _, steady_eq _, steady_eq _, steady_eq _, steady_eq _, steady_eq _, steady_eq _, steady_eq _, steady_eq _, steady_eq _, steady_eq _, steady_eq _, steady_eq _, steady_eq _, steady_eq _, steady_eq _, steady_eq _, steady_eq _, steady_eq _, steady_eq _, steady_eq _, steady_eq _, steady_eq _, steady_eq _, steady_eq _, steady_eq _, trivial⟩) ?_ ?_
  · refine ⟨?_, ?_, ?_, ?_, ?_, ?_, ?_, ?_, ?_, ?_, ?_, ?_, ?_, ?_, ?_, ?_, ?_, ?_, ?_, ?_, ?_, ?_, ?_, ?_, ?_, ?_, ?_, ?_, ?_, ?_, ?_, ?_, ?_, ?_, ?_, ?_, ?_, ?_, trivial⟩
    · refine ob_plain [6] rfl rfl fun aa g h => ?_
      have yy0 := seen_out (v := .pointer (some ⟨w2.heap.size, 0, none⟩)) rfl rfl h.1
      have ee0 := getD_of yy0
      exact tupon_value (v := .agg #[.int .i64 N, .slice pu T.length cu, .slice pr N cr']) (by simp [go_sem, ee0, yy0, k0 g, k1 g, k2 g]) (Below.refl _ _) rfl
    · refine ob_plain [7] rfl rfl fun aa g h => ?_
      have yy0 := seen_out (v := .slice pb N cb) rfl rfl h.1
      have ee0 := getD_of yy0
      exact tupon_value (v := .slice pb N cb) (by simp [go_sem, ee0, yy0]) (Below.refl _ _) rfl
    · refine ob_plain [9] rfl rfl fun aa g h => ?_
      have yy0 := seen_out (v := .slice pY Y.length cY) rfl rfl h.1
      have ee0 := getD_of yy0
      exact tupon_value (v := .slice pY Y.length cY) (by simp [go_sem, ee0, yy0]) (Below.refl _ _) rfl
    · refine ob_plain [8] rfl rfl fun aa g h => ?_
      have yy0 := seen_out (v := .pointer (some ⟨w2.heap.size + 1, 0, none⟩)) rfl rfl h.1
      have ee0 := getD_of yy0
      exact tupon_value (v := .agg #[.int .i64 tm, .int .i64 hm]) (by simp [go_sem, ee0, yy0, s0 g, s1 g]) (Below.refl _ _) rfl
    · refine ob_plain [38, 39, 40, 41] rfl rfl fun aa g h => ?_
      obtain ⟨_, yy0, rfl⟩ := seen_in rfl h.1
      have ee0 := getD_of yy0
      obtain ⟨_, yy1, rfl⟩ := seen_in rfl h.2.1
      have ee1 := getD_of yy1
      obtain ⟨_, yy2, rfl⟩ := seen_in rfl h.2.2.1
      have ee2 := getD_of yy2
      obtain ⟨_, yy3, rfl⟩ := seen_in rfl h.2.2.2.1
      have ee3 := getD_of yy3
      refine tupon_enter (f := 17) (args := #[.agg #[.int .i64 N, .slice pu T.length cu, .slice pr N cr'], .slice pb N cb, .slice pY Y.length cY, .agg #[.int .i64 tm, .int .i64 hm]]) (by simp [go_sem, ee0, yy0, ee1, yy1, ee2, yy2, ee3, yy3]) rfl ?_
      exact (K1.out _ g.w (HUX.out.grow g.h) (HR.out.grow g.h) (HX.out.grow g.h) (VY.out.grow g.h)).mono fun e w' ⟨u9, he, hv, hB⟩ => ⟨_, he, hB, hv⟩
    · refine ob_plain [6] rfl rfl fun aa g h => ?_
      have yy0 := seen_out (v := .pointer (some ⟨w2.heap.size, 0, none⟩)) rfl rfl h.1
      have ee0 := getD_of yy0
      exact tupon_value (v := .agg #[.int .i64 N, .slice pu T.length cu, .slice pr N cr']) (by simp [go_sem, ee0, yy0, k0 g, k1 g, k2 g]) (Below.refl _ _) rfl
    · refine ob_plain [7] rfl rfl fun aa g h => ?_
      have yy0 := seen_out (v := .slice pb N cb) rfl rfl h.1
      have ee0 := getD_of yy0
      exact tupon_value (v := .slice pb N cb) (by simp [go_sem, ee0, yy0]) (Below.refl _ _) rfl
    · refine ob_plain [9] rfl rfl fun aa g h => ?_
      have yy0 := seen_out (v := .slice pY Y.length cY) rfl rfl h.1
      have ee0 := getD_of yy0
      exact tupon_value (v := .slice pY Y.length cY) (by simp [go_sem, ee0, yy0]) (Below.refl _ _) rfl
    · refine ob_plain [8] rfl rfl fun aa g h => ?_
      have yy0 := seen_out (v := .pointer (some ⟨w2.heap.size + 1, 0, none⟩)) rfl rfl h.1
      have ee0 := getD_of yy0
      exact tupon_value (v := .agg #[.int .i64 tm, .int .i64 hm]) (by simp [go_sem, ee0, yy0, s0 g, s1 g]) (Below.refl _ _) rfl
    · refine ob_plain [43, 44, 45, 46] rfl rfl fun aa g h => ?_
      obtain ⟨_, yy0, rfl⟩ := seen_in rfl h.1
      have ee0 := getD_of yy0
      obtain ⟨_, yy1, rfl⟩ := seen_in rfl h.2.1
      have ee1 := getD_of yy1
      obtain ⟨_, yy2, rfl⟩ := seen_in rfl h.2.2.1
      have ee2 := getD_of yy2
      obtain ⟨_, yy3, rfl⟩ := seen_in rfl h.2.2.2.1
      have ee3 := getD_of yy3
      refine tupon_enter (f := 18) (args := #[.agg #[.int .i64 N, .slice pu T.length cu, .slice pr N cr'], .slice pb N cb, .slice pY Y.length cY, .agg #[.int .i64 tm, .int .i64 hm]]) (by simp [go_sem, ee0, yy0, ee1, yy1, ee2, yy2, ee3, yy3]) rfl ?_
      exact (K2.out _ g.w (HUX.out.grow g.h) (HR.out.grow g.h) (HX.out.grow g.h) (VY.out.grow g.h)).mono fun e w' ⟨u9, he, hv, hB⟩ => ⟨_, he, hB, hv⟩
    · refine ob_plain [42, 47] rfl rfl fun aa g h => ?_
      obtain ⟨z42, yy0, hv42⟩ := seen_in rfl h.1
      have ee0 := getD_of yy0
      obtain ⟨z47, yy1, hv47⟩ := seen_in rfl h.2.1
      have ee1 := getD_of yy1
      refine tupon_enter (f := 16) (args := #[z42, z47]) (by simp [go_sem, ee0, yy0, ee1, yy1]) rfl ?_
      exact (SP.out _ _ g.w hv42 hv47).mono fun e w' ⟨he, hB⟩ => ⟨_, he, hB, rfl⟩
    · refine ob_plain [48] rfl rfl fun aa g h => ?_
      obtain ⟨_, yy0, rfl⟩ := seen_in rfl h.1
      have ee0 := getD_of yy0
      exact tupon_value (v := .bool true) (by simp [go_sem, ee0, yy0]) (Below.refl _ _) rfl
    · refine ob_gtrue [6] _ true 49 rfl rfl rfl rfl (fun v w h => h) fun aa g h => ?_
      have yy0 := seen_out (v := .pointer (some ⟨w2.heap.size, 0, none⟩)) rfl rfl h.1
      have ee0 := getD_of yy0
      exact tupon_value (v := .agg #[.int .i64 N, .slice pu T.length cu, .slice pr N cr']) (by simp [go_sem, ee0, yy0, k0 g, k1 g, k2 g]) (Below.refl _ _) rfl
    · refine ob_gtrue [7] _ true 49 rfl rfl rfl rfl (fun v w h => h) fun aa g h => ?_
      have yy0 := seen_out (v := .slice pb N cb) rfl rfl h.1
      have ee0 := getD_of yy0
      exact tupon_value (v := .slice pb N cb) (by simp [go_sem, ee0, yy0]) (Below.refl _ _) rfl
    · refine ob_gtrue [9] _ true 49 rfl rfl rfl rfl (fun v w h => h) fun aa g h => ?_
      have yy0 := seen_out (v := .slice pY Y.length cY) rfl rfl h.1
      have ee0 := getD_of yy0
      exact tupon_value (v := .slice pY Y.length cY) (by simp [go_sem, ee0, yy0]) (Below.refl _ _) rfl
    · refine ob_gtrue [8] _ true 49 rfl rfl rfl rfl (fun v w h => h) fun aa g h => ?_
      have yy0 := seen_out (v := .pointer (some ⟨w2.heap.size + 1, 0, none⟩)) rfl rfl h.1
      have ee0 := getD_of yy0
      exact tupon_value (v := .agg #[.int .i64 tm, .int .i64 hm]) (by simp [go_sem, ee0, yy0, s0 g, s1 g]) (Below.refl _ _) rfl
    · refine ob_gtrue [50, 51, 52, 53] _ true 49 rfl rfl rfl rfl (fun v w h => h) fun aa g h => ?_
      obtain ⟨_, yy0, rfl⟩ := seen_in rfl h.1
      have ee0 := getD_of yy0
      obtain ⟨_, yy1, rfl⟩ := seen_in rfl h.2.1
      have ee1 := getD_of yy1
      obtain ⟨_, yy2, rfl⟩ := seen_in rfl h.2.2.1
      have ee2 := getD_of yy2
      obtain ⟨_, yy3, rfl⟩ := seen_in rfl h.2.2.2.1
      have ee3 := getD_of yy3
      refine tupon_enter (f := 19) (args := #[.agg #[.int .i64 N, .slice pu T.length cu, .slice pr N cr'], .slice pb N cb, .slice pY Y.length cY, .agg #[.int .i64 tm, .int .i64 hm]]) (by simp [go_sem, ee0, yy0, ee1, yy1, ee2, yy2, ee3, yy3]) rfl ?_
      exact (V1.out _ g.w (HUX.out.grow g.h) (HR.out.grow g.h) (HX.out.grow g.h) (VY.out.grow g.h)).mono fun e w' ⟨he, hB⟩ => ⟨_, he, hB, rfl⟩
    · refine ob_gtrue [6] _ true 49 rfl rfl rfl rfl (fun v w h => h) fun aa g h => ?_
      have yy0 := seen_out (v := .pointer (some ⟨w2.heap.size, 0, none⟩)) rfl rfl h.1
      have ee0 := getD_of yy0
      exact tupon_value (v := .agg #[.int .i64 N, .slice pu T.length cu, .slice pr N cr']) (by simp [go_sem, ee0, yy0, k0 g, k1 g, k2 g]) (Below.refl _ _) rfl
    · refine ob_gtrue [7] _ true 49 rfl rfl rfl rfl (fun v w h => h) fun aa g h => ?_
      have yy0 := seen_out (v := .slice pb N cb) rfl rfl h.1
      have ee0 := getD_of yy0
      exact tupon_value (v := .slice pb N cb) (by simp [go_sem, ee0, yy0]) (Below.refl _ _) rfl
    · refine ob_gtrue [9] _ true 49 rfl rfl rfl rfl (fun v w h => h) fun aa g h => ?_
      have yy0 := seen_out (v := .slice pY Y.length cY) rfl rfl h.1
      have ee0 := getD_of yy0
      exact tupon_value (v := .slice pY Y.length cY) (by simp [go_sem, ee0, yy0]) (Below.refl _ _) rfl
    · refine ob_gtrue [8] _ true 49 rfl rfl rfl rfl (fun v w h => h) fun aa g h => ?_
      have yy0 := seen_out (v := .pointer (some ⟨w2.heap.size + 1, 0, none⟩)) rfl rfl h.1
      have ee0 := getD_of yy0
      exact tupon_value (v := .agg #[.int .i64 tm, .int .i64 hm]) (by simp [go_sem, ee0, yy0, s0 g, s1 g]) (Below.refl _ _) rfl
    · refine ob_gtrue [55, 56, 57, 58] _ true 49 rfl rfl rfl rfl (fun v w h => h) fun aa g h => ?_
      obtain ⟨_, yy0, rfl⟩ := seen_in rfl h.1
      have ee0 := getD_of yy0
      obtain ⟨_, yy1, rfl⟩ := seen_in rfl h.2.1
      have ee1 := getD_of yy1
      obtain ⟨_, yy2, rfl⟩ := seen_in rfl h.2.2.1
      have ee2 := getD_of yy2
      obtain ⟨_, yy3, rfl⟩ := seen_in rfl h.2.2.2.1
      have ee3 := getD_of yy3
      refine tupon_enter (f := 20) (args := #[.agg #[.int .i64 N, .slice pu T.length cu, .slice pr N cr'], .slice pb N cb, .slice pY Y.length cY, .agg #[.int .i64 tm, .int .i64 hm]]) (by simp [go_sem, ee0, yy0, ee1, yy1, ee2, yy2, ee3, yy3]) rfl ?_
      exact (V2.out _ g.w (HUX.out.grow g.h) (HR.out.grow g.h) (HX.out.grow g.h) (VY.out.grow g.h)).mono fun e w' ⟨he, hB⟩ => ⟨_, he, hB, rfl⟩
    · refine ob_gtrue [54, 59] _ true 49 rfl rfl rfl rfl (fun v w h => h) fun aa g h => ?_
      obtain ⟨_, yy0, rfl⟩ := seen_in rfl h.1
      have ee0 := getD_of yy0
      obtain ⟨_, yy1, rfl⟩ := seen_in rfl h.2.1
      have ee1 := getD_of yy1
      exact tupon_value (v := .bool true) (by simp [go_sem, ee0, yy0, ee1, yy1]) (Below.refl _ _) rfl
    · refine ob_plain [49, 60] rfl rfl fun aa g h => ?_
      obtain ⟨_, yy0, rfl⟩ := seen_in rfl h.1
      have ee0 := getD_of yy0
      obtain ⟨_, yy1, rfl⟩ := seen_in rfl h.2.1
      have ee1 := getD_of yy1
      exact tupon_value (v := .bool true) (by simp [go_sem, ee0, yy0, ee1, yy1]) (Below.refl _ _) rfl
    · refine ob_plain [61] rfl rfl fun aa g h => ?_
      obtain ⟨_, yy0, rfl⟩ := seen_in rfl h.1
      have ee0 := getD_of yy0
      exact tupon_value (v := .bool true) (by simp [go_sem, ee0, yy0]) (Below.refl _ _) rfl
    · refine ob_gtrue [10] _ true 62 rfl rfl rfl rfl (fun v w h => h) fun aa g h => ?_
      have yy0 := seen_out (v := .slice p1 D.length d1) rfl rfl h.1
      have ee0 := getD_of yy0
      exact tupon_value (v := .slice p1 D.length d1) (by simp [go_sem, ee0, yy0]) (Below.refl _ _) rfl
    · refine ob_gtrue [12] _ true 62 rfl rfl rfl rfl (fun v w h => h) fun aa g h => ?_
      have yy0 := seen_out (v := .slice p2 D.length d2) rfl rfl h.1
      have ee0 := getD_of yy0
      exact tupon_value (v := .slice p2 D.length d2) (by simp [go_sem, ee0, yy0]) (Below.refl _ _) rfl
    · refine ob_gtrue [63, 64] _ true 62 rfl rfl rfl rfl (fun v w h => h) fun aa g h => ?_
      obtain ⟨_, yy0, rfl⟩ := seen_in rfl h.1
      have ee0 := getD_of yy0
      obtain ⟨_, yy1, rfl⟩ := seen_in rfl h.2.1
      have ee1 := getD_of yy1
      refine tupon_enter (f := 16) (args := #[.slice p1 D.length d1, .slice p2 D.length d2]) (by simp [go_sem, ee0, yy0, ee1, yy1]) rfl ?_
      exact (SD.out _ _ g.w (W1.out.grow g.h) (W2.out.grow g.h)).mono fun e w' ⟨he, hB⟩ => ⟨_, he, hB, rfl⟩
    · refine ob_plain [62, 65] rfl rfl fun aa g h => ?_
      obtain ⟨_, yy0, rfl⟩ := seen_in rfl h.1
      have ee0 := getD_of yy0
      obtain ⟨_, yy1, rfl⟩ := seen_in rfl h.2.1
      have ee1 := getD_of yy1
      exact tupon_value (v := .bool true) (by simp [go_sem, ee0, yy0, ee1, yy1]) (Below.refl _ _) rfl
    · refine ob_plain [66] rfl rfl fun aa g h => ?_
      obtain ⟨_, yy0, rfl⟩ := seen_in rfl h.1
      have ee0 := getD_of yy0
      exact tupon_value (v := .bool true) (by simp [go_sem, ee0, yy0]) (Below.refl _ _) rfl
    · refine ob_gtrue [11] _ true 67 rfl rfl rfl rfl (fun v w h => h) fun aa g h => ?_
      have yy0 := seen_out (v := .bool is) rfl rfl h.1
      have ee0 := getD_of yy0
      exact tupon_value (v := .bool is) (by simp [go_sem, ee0, yy0]) (Below.refl _ _) rfl
    · refine ob_gtrue [13] _ true 67 rfl rfl rfl rfl (fun v w h => h) fun aa g h => ?_
      have yy0 := seen_out (v := .bool is) rfl rfl h.1
      have ee0 := getD_of yy0
      exact tupon_value (v := .bool is) (by simp [go_sem, ee0, yy0]) (Below.refl _ _) rfl
    · refine ob_gtrue [68, 69] _ true 67 rfl rfl rfl rfl (fun v w h => h) fun aa g h => ?_
      obtain ⟨_, yy0, rfl⟩ := seen_in rfl h.1
      have ee0 := getD_of yy0
      obtain ⟨_, yy1, rfl⟩ := seen_in rfl h.2.1
      have ee1 := getD_of yy1
      exact tupon_value (v := .bool true) (by simp [go_sem, ee0, yy0, ee1, yy1]) (Below.refl _ _) rfl
    · refine ob_plain [67, 70] rfl rfl fun aa g h => ?_
      obtain ⟨_, yy0, rfl⟩ := seen_in rfl h.1
      have ee0 := getD_of yy0
      obtain ⟨_, yy1, rfl⟩ := seen_in rfl h.2.1
      have ee1 := getD_of yy1
      exact tupon_value (v := .bool true) (by simp [go_sem, ee0, yy0, ee1, yy1]) (Below.refl _ _) rfl
    · refine ob_plain [71] rfl rfl fun aa g h => ?_
      obtain ⟨_, yy0, rfl⟩ := seen_in rfl h.1
      have ee0 := getD_of yy0
      exact tupon_value (v := .bool true) (by simp [go_sem, ee0, yy0]) (Below.refl _ _) rfl
    · refine ob_gtrue [5] _ true 72 rfl rfl rfl rfl (fun v w h => h) fun aa g h => ?_
      have yy0 := seen_out (v := .bool true) rfl rfl h.1
      have ee0 := getD_of yy0
      exact tupon_value (v := .bool true) (by simp [go_sem, ee0, yy0]) (Below.refl _ _) rfl
    · refine ob_plain [72, 73] rfl rfl fun aa g h => ?_
      obtain ⟨_, yy0, rfl⟩ := seen_in rfl h.1
      have ee0 := getD_of yy0
      obtain ⟨_, yy1, rfl⟩ := seen_in rfl h.2.1
      have ee1 := getD_of yy1
      exact tupon_value (v := .bool true) (by simp [go_sem, ee0, yy0, ee1, yy1]) (Below.refl _ _) rfl
    · refine ob_plain [74] rfl rfl fun aa g h => ?_
      obtain ⟨_, yy0, rfl⟩ := seen_in rfl h.1
      have ee0 := getD_of yy0
      exact tupon_value (v := .bool true) (by simp [go_sem, ee0, yy0]) (Below.refl _ _) rfl
  rintro w6 hB _ rfl _ rfl _ rfl _ rfl z42 hv42 _ rfl _ rfl _ rfl _ rfl z47 hv47 _ rfl _ rfl _ rfl _ rfl _ rfl _ rfl _ rfl _ rfl _ rfl _ rfl _ rfl _ rfl _ rfl _ rfl _ rfl _ rfl _ rfl _ rfl _ rfl _ rfl _ rfl _ rfl _ rfl _ rfl _ rfl _ rfl _ rfl _ rfl
  simp only [Act.put, List.setIfInBounds_toArray, List.set_cons_succ, List.set_cons_zero, List.filterMap_nil, finP]
  have HB1 := Lib.hid (HB1.out.grow hB)
  have HC := Lib.hid (HC.out.grow hB)
  have HS := Lib.hid (HS.out.grow hB)
  have HUX := Lib.hid (HUX.out.grow hB)
  have HX := Lib.hid (HX.out.grow hB)
  have HR := Lib.hid (HR.out.grow hB)
  have VY := Lib.hid (VY.out.grow hB)
  have W1 := Lib.hid (W1.out.grow hB)
  have W2 := Lib.hid (W2.out.grow hB)
  have HW := Lib.hid (below_then HW.out hB)
  clear hB
  clear k0 k1 k2 s0 s1
  go_wp2_with (fail)
  go_ret
  exact ⟨rfl, HW.out⟩
end Go.Proofs.Ytecmgiihacigaaa
