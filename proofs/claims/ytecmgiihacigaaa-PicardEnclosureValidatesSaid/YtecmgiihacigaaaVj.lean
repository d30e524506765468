/-
  The law PicardEnclosureValidates.
-/
import Derived.Test.YtecmgiihacigaaaVm
import Derived.Test.YtecmgiihacigaaaVq
namespace Go.Proofs.Ytecmgiihacigaaa
open Go.ChangeShapes Go.WideShapes Go.ChangeAt Go.RowKit Go.Maps
set_option linter.unusedVariables false
set_option linter.unusedSimpArgs false
set_option maxRecDepth 100000
attribute [local irreducible] Calls
set_option maxHeartbeats 64000000 in
theorem penc (w : World) (vL vO vX : Value) (n0 t ln : Int) (Lr : List Is) (outr : List Int) (Xr : List (Int × Int)) (hL : Ix w vL Lr ∧ ∀ x ∈ Lr, IW x) (hO : Px w vO outr ∧ ∀ x ∈ outr, W64 x) (hX : Vx w vX Xr ∧ ∀ q ∈ Xr, W64 q.1 ∧ W64 q.2) (hn : W64 n0) (ht : W64 t) (hln : W64 ln) :
    Calls Try.prog 4 #[.agg #[.int .i64 n0, vL, vO, vX, .int .i64 t, .int .i64 ln]] w fun e w' => e = .returned (.bool true) ∧ Below w.heap.size w w' := by
  obtain ⟨pl, cl, rfl⟩ := hL.1.cut
  obtain ⟨po, co, rfl⟩ := hO.1.cut
  obtain ⟨px, cx, rfl⟩ := hX.1.cut
  have hE : Below w.heap.size w (w.alloc (.cells #[.int .i64 n0, .slice pl Lr.length cl, .slice po outr.length co, .slice px Xr.length cx, .int .i64 t, .int .i64 ln] 28)) := allocs_below [.cells #[.int .i64 n0, .slice pl Lr.length cl, .slice po outr.length co, .slice px Xr.length cx, .int .i64 t, .int .i64 ln] 28] w
  have HQ := Lib.hid (show Blk (w.alloc (.cells #[.int .i64 n0, .slice pl Lr.length cl, .slice po outr.length co, .slice px Xr.length cx, .int .i64 t, .int .i64 ln] 28)) (w.heap.size) (.cells #[.int .i64 n0, .slice pl Lr.length cl, .slice po outr.length co, .slice px Xr.length cx, .int .i64 t, .int .i64 ln] 28) from allocs_at [.cells #[.int .i64 n0, .slice pl Lr.length cl, .slice po outr.length co, .slice px Xr.length cx, .int .i64 t, .int .i64 ln] 28] w 0 _ rfl)
  have HL := Lib.hid (hL.1.grow hE)
  have HO := Lib.hid (hO.1.grow hE)
  have HXV := Lib.hid (hX.1.grow hE)
  have HW := Lib.hid hE
  clear hE hL hO hX hn ht hln
  go_enter Try.func4, Try.ntmps4
  go_wp2_with (fail)
  refine (sanity11 _).mono ?_
  rintro e w1 ⟨rfl, hB⟩
  have HQ := Lib.hid (HQ.out.grow hB)
  have HL := Lib.hid (HL.out.grow hB)
  have HO := Lib.hid (HO.out.grow hB)
  have HXV := Lib.hid (HXV.out.grow hB)
  have HW := Lib.hid (below_then HW.out hB)
  clear hB
  have q0 := heapN_cellj HQ.out (k := 0) rfl
  have q1 := heapN_cellj HQ.out (k := 1) rfl
  have q2 := heapN_cellj HQ.out (k := 2) rfl
  have q3 := heapN_cellj HQ.out (k := 3) rfl
  have q4 := heapN_cellj HQ.out (k := 4) rfl
  have q5 := heapN_cellj HQ.out (k := 5) rfl
  go_wp2_with (fail)
  refine (made_ok n0 t ln _ _ _ Lr outr Xr _ HL.out HO.out HXV.out).mono ?_
  rintro e w2 ⟨N, T, O, pu, pr, pb, cu, cr', cb, rfl, hu, hr, hol, hx, htv, hN3, hT20, hB⟩
  clear q0 q1 q2 q3 q4 q5 HL HO HXV
  have htm := stpT_bd t
  have hhm := stpH_bd ln
  obtain ⟨tm, etm⟩ : ∃ m, stpT t = m := ⟨_, rfl⟩
  obtain ⟨hm, ehm⟩ : ∃ m, stpH ln = m := ⟨_, rfl⟩
  rw [etm] at htm
  rw [ehm] at hhm
  rw [etm, ehm]
  have HBD := Lib.hid (bx_bd Xr N)
  have hbl := boxI_len Xr N 65536
  obtain ⟨X, hX⟩ : ∃ X, boxI Xr N 65536 = X := ⟨_, rfl⟩
  rw [hX] at hx hbl HBD
  obtain ⟨hn1, hn6, h400, hon, hvl, hout⟩ := tv_cases htv
  have HXL := Lib.hid hbl
  have HVX := Lib.hid (bd_vi (by decide) (by decide) HBD.out)
  have HTV := Lib.hid htv
  have HUX := Lib.hid (Rx.own encI_len hu (by unfold maxLen; omega))
  have HX := Lib.hid hx
  have HR := Lib.hid hr
  have HOW := Lib.hid hu
  have hE : Below w2.heap.size w2 ((w2.alloc (.cells #[.int .i64 N, .slice pu T.length cu, .slice pr N cr'] 25)).alloc (.cells #[.int .i64 tm, .int .i64 hm] 33)) := allocs_below [.cells #[.int .i64 N, .slice pu T.length cu, .slice pr N cr'] 25, .cells #[.int .i64 tm, .int .i64 hm] 33] w2
  have hB2 := hB.trans (hE.mono hB.size)
  have HC := Lib.hid (show Blk ((w2.alloc (.cells #[.int .i64 N, .slice pu T.length cu, .slice pr N cr'] 25)).alloc (.cells #[.int .i64 tm, .int .i64 hm] 33)) w2.heap.size (.cells #[.int .i64 N, .slice pu T.length cu, .slice pr N cr'] 25) from allocs_at [.cells #[.int .i64 N, .slice pu T.length cu, .slice pr N cr'] 25, .cells #[.int .i64 tm, .int .i64 hm] 33] w2 0 _ rfl)
  have HS := Lib.hid (show Blk ((w2.alloc (.cells #[.int .i64 N, .slice pu T.length cu, .slice pr N cr'] 25)).alloc (.cells #[.int .i64 tm, .int .i64 hm] 33)) (w2.heap.size + 1) (.cells #[.int .i64 tm, .int .i64 hm] 33) from allocs_at [.cells #[.int .i64 N, .slice pu T.length cu, .slice pr N cr'] 25, .cells #[.int .i64 tm, .int .i64 hm] 33] w2 1 _ rfl)
  have HUX := Lib.hid (HUX.out.grow hE)
  have HX := Lib.hid (HX.out.grow hE)
  have HR := Lib.hid (HR.out.grow hE)
  have HOW := Lib.hid (own_keptN HOW.out hE)
  have HQ := Lib.hid (HQ.out.grow hB2)
  have HW := Lib.hid (below_then HW.out hB2)
  clear hB hB2 hE hu hr hx htv hX hbl etm ehm h400 hon hvl hout hn6
  go_wp2_with (fail)
  generalize hWc : World.alloc (World.alloc w2 _) _ = W5 at *
  clear hWc
  clear HQ HOW
  have hXN : (X.length : Int) = N := by rw [HXL.out]
  obtain ⟨r, er⟩ : ∃ r, encR (imgT T O tm hm X) X = r := ⟨_, rfl⟩
  have k0 := heapN_cellj HC.out (k := 0) rfl
  have k1 := heapN_cellj HC.out (k := 1) rfl
  have k2 := heapN_cellj HC.out (k := 2) rfl
  have s0 := heapN_cellj HS.out (k := 0) rfl
  have s1 := heapN_cellj HS.out (k := 1) rfl
  cases r with
  | none =>
    have KE := Lib.hid (fun w a b c => encl_no N tm hm (.slice pu T.length cu) (.slice pr N cr') (.slice pb N cb) T O X w a b c HTV.out hXN HVX.out htm.1 htm.2 (by omega) (by omega) er)
    clear er hXN
    go_wp2_with (fail)
    refine (KE.out _ HUX.out HR.out HX.out).mono ?_
    rintro e w3 ⟨pd, cd, rfl, hB⟩
    have HW := Lib.hid (below_then HW.out hB)
    clear hB
    go_wp2_with (fail)
    go_ret
    exact ⟨rfl, HW.out⟩
  | some d =>
    obtain ⟨hdl, hdv, hdb, him, hxd⟩ := encl_facts HTV.out hXN HVX.out htm.1 htm.2 (by omega) (by omega) er
    have KE := Lib.hid (fun w a b c => encl_yes N tm hm (.slice pu T.length cu) (.slice pr N cr') (.slice pb N cb) T O X d w a b c HTV.out hXN HVX.out htm.1 htm.2 (by omega) (by omega) er)
    have hv : (bndB (imgT T O tm hm X d) && subB (imgT T O tm hm X d) d) = true := by rw [bnd_sub him hdb, sub_of him]; rfl
    have KV := Lib.hid (fun (vd : Value) w a b c e => val_ok N tm hm (.slice pu T.length cu) (.slice pr N cr') (.slice pb N cb) vd T O X d _ w a b c e HTV.out hXN (by rw [hdl]; exact hXN) HVX.out hdv htm.1 htm.2 (by omega) (by omega) rfl true hv)
    rw [HXL.out] at KE hdl
    have HDL := Lib.hid hdl
    have HXD := Lib.hid hxd
    have HDB := Lib.hid hdb
    have HDV := Lib.hid hdv
    clear er hXN hdl hdv hdb him hxd hv htm hhm
    go_wp2_with (fail)
    refine (KE.out _ HUX.out HR.out HX.out).mono ?_
    rintro e w3 ⟨pd, cd, rfl, hv, hB⟩
    have HC := Lib.hid (HC.out.grow hB)
    have HS := Lib.hid (HS.out.grow hB)
    have HUX := Lib.hid (HUX.out.grow hB)
    have HX := Lib.hid (HX.out.grow hB)
    have HR := Lib.hid (HR.out.grow hB)
    have HW := Lib.hid (below_then HW.out hB)
    clear hB
    have VD := Lib.hid hv
    clear hv k0 k1 k2 s0 s1
    have k0 := heapN_cellj HC.out (k := 0) rfl
    have k1 := heapN_cellj HC.out (k := 1) rfl
    have k2 := heapN_cellj HC.out (k := 2) rfl
    have s0 := heapN_cellj HS.out (k := 0) rfl
    have s1 := heapN_cellj HS.out (k := 1) rfl
    go_wp2_with (fail)
    refine (KV.out _ _ HUX.out HR.out HX.out VD.out).mono ?_
    rintro e w4 ⟨rfl, hB⟩
    have HC := Lib.hid (HC.out.grow hB)
    have HS := Lib.hid (HS.out.grow hB)
    have HUX := Lib.hid (HUX.out.grow hB)
    have HX := Lib.hid (HX.out.grow hB)
    have HR := Lib.hid (HR.out.grow hB)
    have VD := Lib.hid (VD.out.grow hB)
    have HW := Lib.hid (below_then HW.out hB)
    clear hB
    clear k0 k1 k2 s0 s1 KE KV
    have k0 := heapN_cellj HC.out (k := 0) rfl
    go_wp2_with (fail)
    go_loopw [9] (fun i wr => ∃ k : Nat, i = .int .i64 k ∧ k ≤ N ∧ Hid (Below w4.heap.size w4 wr)) (fun i _ => N - (intOf i).toNat)
    case atStart => exact ⟨0, rfl, Nat.zero_le _, Lib.hid (Below.refl _ _)⟩
    case round =>
      clear k0
      obtain ⟨k, rfl, hk, HB⟩ := hrel
      have k0 := heapN_cellj (HC.out.grow HB.out) (k := 0) rfl
      by_cases hlt : k < N
      · have i2 : (k : Int) < N := by omega
        obtain ⟨⟨a, b⟩, hx⟩ : ∃ x, X[k]? = some x := ⟨_, List.getElem?_eq_getElem (by rw [HXL.out]; exact hlt)⟩
        obtain ⟨⟨c, d'⟩, hy⟩ : ∃ x, d[k]? = some x := ⟨_, List.getElem?_eq_getElem (by rw [HDL.out]; exact hlt)⟩
        obtain ⟨_, _, hsb⟩ := HXD.out.2 k _ _ hx hy
        have hne : entB (c, d') = false := by
          have h := HDB.out
          unfold bndB at h
          rw [Bool.not_eq_true', List.any_eq_false] at h
          have := h _ (List.mem_of_getElem? hy)
          simpa using this
        have K1 := Lib.hid (fun w => iv_subset a b c d' true w (by rw [decide_eq_true hsb.1, decide_eq_true hsb.2]; rfl))
        have K2 := Lib.hid (fun w => iv_isent c d' false w hne)
        obtain ⟨bx, ox, hpx, hbx, rdx⟩ := vx_rd (n := N) HX.out hx
        obtain ⟨bd, od, hpd, hbd, rdd⟩ := vx_rd (n := N) VD.out hy
        subst hpx hpd
        have f0 := fun g : Grown wr => (rdx ⟨g.w, HB.out.trans (g.h.mono HB.out.size)⟩).1
        have f1 := fun g : Grown wr => (rdx ⟨g.w, HB.out.trans (g.h.mono HB.out.size)⟩).2
        have g0 := fun g : Grown wr => (rdd ⟨g.w, HB.out.trans (g.h.mono HB.out.size)⟩).1
        have g1 := fun g : Grown wr => (rdd ⟨g.w, HB.out.trans (g.h.mono HB.out.size)⟩).2
        clear rdx rdd hx hy hsb hne
        go_wp2_with (fail)
        refine region_pred (lk [(51, fun z_ _ => z_ = .slice (some ⟨bx, ox, none⟩) N cb), (52, fun z_ _ => z_ = .int .i64 (k : Int)), (53, fun z_ _ => z_ = .pointer (some ⟨bx, ox + k * 2, none⟩)), (54, fun z_ _ => z_ = .agg #[.int .i64 a, .int .i64 b]), (55, fun z_ _ => z_ = .slice (some ⟨bd, od, none⟩) N cd), (56, fun z_ _ => z_ = .int .i64 (k : Int)), (57, fun z_ _ => z_ = .pointer (some ⟨bd, od + k * 2, none⟩)), (58, fun z_ _ => z_ = .agg #[.int .i64 c, .int .i64 d']), (59, fun z_ _ => z_ = .bool true), (60, fun z_ _ => z_ = .bool false), (61, fun z_ _ => z_ = .bool false), (62, fun z_ _ => z_ = .slice (some ⟨bd, od, none⟩) N cd), (63, fun z_ _ => z_ = .int .i64 (k : Int)), (64, fun z_ _ => z_ = .pointer (some ⟨bd, od + k * 2, none⟩)), (65, fun z_ _ => z_ = .agg #[.int .i64 c, .int .i64 d']), (66, fun z_ _ => z_ = .bool false), (67, fun z_ _ => z_ = .bool false)]) (by kernel_rfl) (by kernel_rfl) (lk_steady _ ⟨steady_eq _, steady_eq _, steady_eq _, steady_eq _, steady_eq _, steady_eq _, steady_eq _, steady_eq _, steady_eq _, steady_eq _, steady_eq _, steady_eq _, steady_eq _, steady_eq _, steady_eq _, steady_eq _, steady_eq _, trivial⟩) ?_ ?_
        · refine ⟨?_, ?_, ?_, ?_, ?_, ?_, ?_, ?_, ?_, ?_, ?_, ?_, ?_, ?_, ?_, ?_, ?_, trivial⟩
          · refine ob_plain [5] rfl rfl fun aa g h => ?_
            have yy0 := seen_out (v := .slice (some ⟨bx, ox, none⟩) N cb) rfl rfl h.1
            have ee0 := getD_of yy0
            exact tupon_value (v := .slice (some ⟨bx, ox, none⟩) N cb) (by simp [go_sem, ee0, yy0]) (Below.refl _ _) rfl
          · refine ob_plain [9] rfl rfl fun aa g h => ?_
            have yy0 := seen_out (v := .int .i64 (k : Int)) rfl rfl h.1
            have ee0 := getD_of yy0
            exact tupon_value (v := .int .i64 (k : Int)) (by simp [go_sem, ee0, yy0]) (Below.refl _ _) rfl
          · refine ob_plain [51, 52] rfl rfl fun aa g h => ?_
            obtain ⟨_, yy0, rfl⟩ := seen_in rfl h.1
            have ee0 := getD_of yy0
            obtain ⟨_, yy1, rfl⟩ := seen_in rfl h.2.1
            have ee1 := getD_of yy1
            exact tupon_value (v := .pointer (some ⟨bx, ox + k * 2, none⟩)) (by simp [go_sem, ee0, yy0, ee1, yy1, i2]) (Below.refl _ _) rfl
          · refine ob_plain [53] rfl rfl fun aa g h => ?_
            obtain ⟨_, yy0, rfl⟩ := seen_in rfl h.1
            have ee0 := getD_of yy0
            exact tupon_value (v := .agg #[.int .i64 a, .int .i64 b]) (by simp [go_sem, ee0, yy0, f0 g, f1 g]) (Below.refl _ _) rfl
          · refine ob_plain [7] rfl rfl fun aa g h => ?_
            have yy0 := seen_out (v := .slice (some ⟨bd, od, none⟩) N cd) rfl rfl h.1
            have ee0 := getD_of yy0
            exact tupon_value (v := .slice (some ⟨bd, od, none⟩) N cd) (by simp [go_sem, ee0, yy0]) (Below.refl _ _) rfl
          · refine ob_plain [9] rfl rfl fun aa g h => ?_
            have yy0 := seen_out (v := .int .i64 (k : Int)) rfl rfl h.1
            have ee0 := getD_of yy0
            exact tupon_value (v := .int .i64 (k : Int)) (by simp [go_sem, ee0, yy0]) (Below.refl _ _) rfl
          · refine ob_plain [55, 56] rfl rfl fun aa g h => ?_
            obtain ⟨_, yy0, rfl⟩ := seen_in rfl h.1
            have ee0 := getD_of yy0
            obtain ⟨_, yy1, rfl⟩ := seen_in rfl h.2.1
            have ee1 := getD_of yy1
            exact tupon_value (v := .pointer (some ⟨bd, od + k * 2, none⟩)) (by simp [go_sem, ee0, yy0, ee1, yy1, i2]) (Below.refl _ _) rfl
          · refine ob_plain [57] rfl rfl fun aa g h => ?_
            obtain ⟨_, yy0, rfl⟩ := seen_in rfl h.1
            have ee0 := getD_of yy0
            exact tupon_value (v := .agg #[.int .i64 c, .int .i64 d']) (by simp [go_sem, ee0, yy0, g0 g, g1 g]) (Below.refl _ _) rfl
          · refine ob_plain [54, 58] rfl rfl fun aa g h => ?_
            obtain ⟨_, yy0, rfl⟩ := seen_in rfl h.1
            have ee0 := getD_of yy0
            obtain ⟨_, yy1, rfl⟩ := seen_in rfl h.2.1
            have ee1 := getD_of yy1
            refine tupon_enter (f := 21) (args := #[.agg #[.int .i64 a, .int .i64 b], .agg #[.int .i64 c, .int .i64 d']]) (by simp [go_sem, ee0, yy0, ee1, yy1]) rfl ?_
            exact (K1.out g.w).mono fun e w' ⟨he, hB⟩ => ⟨_, he, hB, rfl⟩
          · refine ob_plain [59] rfl rfl fun aa g h => ?_
            obtain ⟨_, yy0, rfl⟩ := seen_in rfl h.1
            have ee0 := getD_of yy0
            exact tupon_value (v := .bool false) (by simp [go_sem, ee0, yy0]) (Below.refl _ _) rfl
          · refine ob_plain [60] rfl rfl fun aa g h => ?_
            obtain ⟨_, yy0, rfl⟩ := seen_in rfl h.1
            have ee0 := getD_of yy0
            exact tupon_value (v := .bool false) (by simp [go_sem, ee0, yy0]) (Below.refl _ _) rfl
          · refine ob_gtrue [7] _ false 61 rfl rfl rfl rfl (fun v w h => h) fun aa g h => ?_
            have yy0 := seen_out (v := .slice (some ⟨bd, od, none⟩) N cd) rfl rfl h.1
            have ee0 := getD_of yy0
            exact tupon_value (v := .slice (some ⟨bd, od, none⟩) N cd) (by simp [go_sem, ee0, yy0]) (Below.refl _ _) rfl
          · refine ob_gtrue [9] _ false 61 rfl rfl rfl rfl (fun v w h => h) fun aa g h => ?_
            have yy0 := seen_out (v := .int .i64 (k : Int)) rfl rfl h.1
            have ee0 := getD_of yy0
            exact tupon_value (v := .int .i64 (k : Int)) (by simp [go_sem, ee0, yy0]) (Below.refl _ _) rfl
          · refine ob_gtrue [62, 63] _ false 61 rfl rfl rfl rfl (fun v w h => h) fun aa g h => ?_
            obtain ⟨_, yy0, rfl⟩ := seen_in rfl h.1
            have ee0 := getD_of yy0
            obtain ⟨_, yy1, rfl⟩ := seen_in rfl h.2.1
            have ee1 := getD_of yy1
            exact tupon_value (v := .pointer (some ⟨bd, od + k * 2, none⟩)) (by simp [go_sem, ee0, yy0, ee1, yy1, i2]) (Below.refl _ _) rfl
          · refine ob_gtrue [64] _ false 61 rfl rfl rfl rfl (fun v w h => h) fun aa g h => ?_
            obtain ⟨_, yy0, rfl⟩ := seen_in rfl h.1
            have ee0 := getD_of yy0
            exact tupon_value (v := .agg #[.int .i64 c, .int .i64 d']) (by simp [go_sem, ee0, yy0, g0 g, g1 g]) (Below.refl _ _) rfl
          · refine ob_gtrue [65] _ false 61 rfl rfl rfl rfl (fun v w h => h) fun aa g h => ?_
            obtain ⟨_, yy0, rfl⟩ := seen_in rfl h.1
            have ee0 := getD_of yy0
            refine tupon_enter (f := 22) (args := #[.agg #[.int .i64 c, .int .i64 d']]) (by simp [go_sem, ee0, yy0]) rfl ?_
            exact (K2.out g.w).mono fun e w' ⟨he, hB⟩ => ⟨_, he, hB, rfl⟩
          · refine ob_plain [61, 66] rfl rfl fun aa g h => ?_
            obtain ⟨_, yy0, rfl⟩ := seen_in rfl h.1
            have ee0 := getD_of yy0
            obtain ⟨_, yy1, rfl⟩ := seen_in rfl h.2.1
            have ee1 := getD_of yy1
            exact tupon_value (v := .bool false) (by simp [go_sem, ee0, yy0, ee1, yy1]) (Below.refl _ _) rfl
        rintro w9 hB9 _ rfl _ rfl _ rfl _ rfl _ rfl _ rfl _ rfl _ rfl _ rfl _ rfl _ rfl _ rfl _ rfl _ rfl _ rfl _ rfl _ rfl
        simp only [Act.put, List.setIfInBounds_toArray, List.set_cons_succ, List.set_cons_zero, List.filterMap_nil, finP]
        have HB9 := Lib.hid (HB.out.trans (hB9.mono HB.out.size))
        clear hB9 f0 f1 g0 g1 k0 HB
        go_wp2_with (fail)
        go_roundw
        case rel => exact ⟨k + 1, by go_num, by omega, HB9⟩
        case measure => simp [intOf]; omega
      · obtain rfl : N = k := by omega
        have i2 : ¬ (N : Int) < N := by omega
        have HT := Lib.hid (below_then HW.out HB.out)
        go_wp2_with (fail)
        go_ret
        exact ⟨rfl, HT.out⟩
end Go.Proofs.Ytecmgiihacigaaa
