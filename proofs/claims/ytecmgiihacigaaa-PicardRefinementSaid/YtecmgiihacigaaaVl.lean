/-
  The law PicardRefinement.
-/
import Derived.Test.YtecmgiihacigaaaVu
import Derived.Test.YtecmgiihacigaaaVq
namespace Go.Proofs.Ytecmgiihacigaaa
open Go.ChangeShapes Go.WideShapes Go.ChangeAt Go.RowKit Go.Maps
set_option linter.unusedVariables false
set_option linter.unusedSimpArgs false
set_option maxRecDepth 100000
attribute [local irreducible] Calls
/-- A box of an enclosing sequence. -/
structure Rfn (N : Nat) (T : List Is) (O : List Int) (tm hm : Int) (X D : List (Int × Int)) : Prop where
  len : D.length = N
  vi : ∀ p ∈ D, VI p.1 p.2
  bnd : bndB D = true
  im : SbL (imgT T O tm hm X D) D
  sup : SbL X D
theorem Rfn.next {N : Nat} {T : List Is} {O : List Int} {tm hm : Int} {X D : List (Int × Int)} (h : Rfn N T O tm hm X D) (htv : tvB N T O = true) (hXN : (X.length : Int) = N) (hvx : ∀ p ∈ X, VI p.1 p.2) (t1 : -1048576 ≤ tm) (t2 : tm ≤ 1048576) (h0 : 0 ≤ hm) (h1 : hm ≤ 1000000) : Rfn N T O tm hm X (imgT T O tm hm X D) := by
  have hDX : D.length = X.length := by rw [h.len]; omega
  exact ⟨by rw [imgT_len htv hXN]; omega, imgT_vi htv hvx h.vi t1 t2 h0 h1, bnd_sub h.im h.bnd, imgT_iso htv hXN (sbL_refl hvx) h.im h0 (Int.le_refl _) h1 t1 (Int.le_refl _) (Int.le_refl _) t2, img_sup htv hXN hvx hDX h.vi t1 t2 h0 h1⟩
set_option maxHeartbeats 64000000 in
theorem pref (w : World) (vL vO vX : Value) (n0 t ln : Int) (Lr : List Is) (outr : List Int) (Xr : List (Int × Int)) (hL : Ix w vL Lr ∧ ∀ x ∈ Lr, IW x) (hO : Px w vO outr ∧ ∀ x ∈ outr, W64 x) (hX : Vx w vX Xr ∧ ∀ q ∈ Xr, W64 q.1 ∧ W64 q.2) (hn : W64 n0) (ht : W64 t) (hln : W64 ln) :
    Calls Try.prog 7 #[.agg #[.int .i64 n0, vL, vO, vX, .int .i64 t, .int .i64 ln]] w fun e w' => e = .returned (.bool true) ∧ Below w.heap.size w w' := by
  obtain ⟨pl, cl, rfl⟩ := hL.1.cut
  obtain ⟨po, co, rfl⟩ := hO.1.cut
  obtain ⟨px, cx, rfl⟩ := hX.1.cut
  have hE : Below w.heap.size w (w.alloc (.cells #[.int .i64 n0, .slice pl Lr.length cl, .slice po outr.length co, .slice px Xr.length cx, .int .i64 t, .int .i64 ln] 28)) := allocs_below [.cells #[.int .i64 n0, .slice pl Lr.length cl, .slice po outr.length co, .slice px Xr.length cx, .int .i64 t, .int .i64 ln] 28] w
  have HQ := Lib.hid (show Blk (w.alloc (.cells #[.int .i64 n0, .slice pl Lr.length cl, .slice po outr.length co, .slice px Xr.length cx, .int .i64 t, .int .i64 ln] 28)) (w.heap.size) (.cells #[.int .i64 n0, .slice pl Lr.length cl, .slice po outr.length co, .slice px Xr.length cx, .int .i64 t, .int .i64 ln] 28) from allocs_at [.cells #[.int .i64 n0, .slice pl Lr.length cl, .slice po outr.length co, .slice px Xr.length cx, .int .i64 t, .int .i64 ln] 28] w 0 _ rfl)
  have HL := Lib.hid (hL.1.grow hE)
  have HO := Lib.hid (hO.1.grow hE)
  have HXV := Lib.hid (hX.1.grow hE)
  have HW := Lib.hid hE
  clear hE hL hO hX hn ht hln
  go_enter Try.func7, Try.ntmps7
  go_wp2_with (fail)
  refine (sanity11 _).mono ?_
  rintro e w1 ⟨rfl, hB⟩
  have HQ := Lib.hid (HQ.out.grow hB)
  have HL := Lib.hid (HL.out.grow hB)
  have HO := Lib.hid (HO.out.grow hB)
  have HXV := Lib.hid (HXV.out.grow hB)
  have HW := Lib.hid (below_then HW.out hB)
  clear hB
  have q0 := heapN_cellj HQ.out (k := 0) rfl
  have q1 := heapN_cellj HQ.out (k := 1) rfl
  have q2 := heapN_cellj HQ.out (k := 2) rfl
  have q3 := heapN_cellj HQ.out (k := 3) rfl
  have q4 := heapN_cellj HQ.out (k := 4) rfl
  have q5 := heapN_cellj HQ.out (k := 5) rfl
  go_wp2_with (fail)
  refine (made_ok n0 t ln _ _ _ Lr outr Xr _ HL.out HO.out HXV.out).mono ?_
  rintro e w2 ⟨N, T, O, pu, pr, pb, cu, cr', cb, rfl, hu, hr, hol, hx, htv, hN3, hT20, hB⟩
  clear q0 q1 q2 q3 q4 q5 HL HO HXV
  have htm := stpT_bd t
  have hhm := stpH_bd ln
  obtain ⟨tm, etm⟩ : ∃ m, stpT t = m := ⟨_, rfl⟩
  obtain ⟨hm, ehm⟩ : ∃ m, stpH ln = m := ⟨_, rfl⟩
  rw [etm] at htm
  rw [ehm] at hhm
  rw [etm, ehm]
  have HBD := Lib.hid (bx_bd Xr N)
  have hbl := boxI_len Xr N 65536
  obtain ⟨X, hX⟩ : ∃ X, boxI Xr N 65536 = X := ⟨_, rfl⟩
  rw [hX] at hx hbl HBD
  obtain ⟨hn1, hn6, h400, hon, hvl, hout⟩ := tv_cases htv
  have HXL := Lib.hid hbl
  have HVX := Lib.hid (bd_vi (by decide) (by decide) HBD.out)
  have HTV := Lib.hid htv
  have HUX := Lib.hid (Rx.own encI_len hu (by unfold maxLen; omega))
  have HX := Lib.hid hx
  have HR := Lib.hid hr
  have HOW := Lib.hid hu
  have hE : Below w2.heap.size w2 ((w2.alloc (.cells #[.int .i64 N, .slice pu T.length cu, .slice pr N cr'] 25)).alloc (.cells #[.int .i64 tm, .int .i64 hm] 33)) := allocs_below [.cells #[.int .i64 N, .slice pu T.length cu, .slice pr N cr'] 25, .cells #[.int .i64 tm, .int .i64 hm] 33] w2
  have hB2 := hB.trans (hE.mono hB.size)
  have HC := Lib.hid (show Blk ((w2.alloc (.cells #[.int .i64 N, .slice pu T.length cu, .slice pr N cr'] 25)).alloc (.cells #[.int .i64 tm, .int .i64 hm] 33)) w2.heap.size (.cells #[.int .i64 N, .slice pu T.length cu, .slice pr N cr'] 25) from allocs_at [.cells #[.int .i64 N, .slice pu T.length cu, .slice pr N cr'] 25, .cells #[.int .i64 tm, .int .i64 hm] 33] w2 0 _ rfl)
  have HS := Lib.hid (show Blk ((w2.alloc (.cells #[.int .i64 N, .slice pu T.length cu, .slice pr N cr'] 25)).alloc (.cells #[.int .i64 tm, .int .i64 hm] 33)) (w2.heap.size + 1) (.cells #[.int .i64 tm, .int .i64 hm] 33) from allocs_at [.cells #[.int .i64 N, .slice pu T.length cu, .slice pr N cr'] 25, .cells #[.int .i64 tm, .int .i64 hm] 33] w2 1 _ rfl)
  have HUX := Lib.hid (HUX.out.grow hE)
  have HX := Lib.hid (HX.out.grow hE)
  have HR := Lib.hid (HR.out.grow hE)
  have HOW := Lib.hid (own_keptN HOW.out hE)
  have HQ := Lib.hid (HQ.out.grow hB2)
  have HW := Lib.hid (below_then HW.out hB2)
  clear hB hB2 hE hu hr hx htv hX hbl etm ehm h400 hon hvl hout hn6
  go_wp2_with (fail)
  generalize hWc : World.alloc (World.alloc w2 _) _ = W5 at *
  clear hWc
  clear HQ HOW
  have hXN : (X.length : Int) = N := by rw [HXL.out]
  obtain ⟨r, er⟩ : ∃ r, encR (imgT T O tm hm X) X = r := ⟨_, rfl⟩
  have k0 := heapN_cellj HC.out (k := 0) rfl
  have k1 := heapN_cellj HC.out (k := 1) rfl
  have k2 := heapN_cellj HC.out (k := 2) rfl
  have s0 := heapN_cellj HS.out (k := 0) rfl
  have s1 := heapN_cellj HS.out (k := 1) rfl
  cases r with
  | none =>
    have KE := Lib.hid (fun w a b c => encl_no N tm hm (.slice pu T.length cu) (.slice pr N cr') (.slice pb N cb) T O X w a b c HTV.out hXN HVX.out htm.1 htm.2 (by omega) (by omega) er)
    clear er hXN
    go_wp2_with (fail)
    refine (KE.out _ HUX.out HR.out HX.out).mono ?_
    rintro e w3 ⟨pd, cd, rfl, hB⟩
    have HW := Lib.hid (below_then HW.out hB)
    clear hB
    go_wp2_with (fail)
    go_loopw [9] (fun i wr => i = .int .i64 0 ∧ Hid (Below w.heap.size w wr)) (fun _ _ => 0)
    case atStart => exact ⟨rfl, HW⟩
    case round =>
      obtain ⟨rfl, HB⟩ := hrel
      go_wp2_with (fail)
      go_ret
      exact ⟨rfl, HB.out⟩
  | some d =>
    obtain ⟨hdl, hdv, hdb, him, hxd⟩ := encl_facts HTV.out hXN HVX.out htm.1 htm.2 (by omega) (by omega) er
    have KE := Lib.hid (fun w a b c => encl_yes N tm hm (.slice pu T.length cu) (.slice pr N cr') (.slice pb N cb) T O X d w a b c HTV.out hXN HVX.out htm.1 htm.2 (by omega) (by omega) er)
    have RF := Lib.hid (show Rfn N T O tm hm X d from ⟨by rw [hdl, HXL.out], hdv, hdb, him, hxd⟩)
    have KN := Lib.hid (fun D (h : Rfn N T O tm hm X D) => h.next HTV.out hXN HVX.out htm.1 htm.2 (by omega) (by omega))
    have KI := Lib.hid (fun (vb : Value) (D : List (Int × Int)) (hD : Rfn N T O tm hm X D) (w : World) a b c d => image_vx N tm hm (.slice pu T.length cu) (.slice pr N cr') (.slice pb N cb) vb T O X D w a b c d HTV.out hXN (by rw [hD.len]) HVX.out hD.vi htm.1 htm.2 (by omega) (by omega))
    have KV := Lib.hid (fun (vd : Value) (D : List (Int × Int)) (hD : Rfn N T O tm hm X D) w a b c e => val_ok N tm hm (.slice pu T.length cu) (.slice pr N cr') (.slice pb N cb) vd T O X D _ w a b c e HTV.out hXN (by rw [hD.len]) HVX.out hD.vi htm.1 htm.2 (by omega) (by omega) rfl true (by rw [bnd_sub hD.im hD.bnd, sub_of hD.im]; rfl))
    have KS := Lib.hid (fun (va vb : Value) (A B : List (Int × Int)) (h : SbL A B) (hA : A.length = N) w a b => rsub_ok va vb A B true w a b h.1.symm (by omega) (sub_of h))
    rw [HXL.out] at KE
    clear er hXN hdl hdv hdb him hxd htm hhm
    go_wp2_with (fail)
    refine (KE.out _ HUX.out HR.out HX.out).mono ?_
    rintro e w3 ⟨pd, cd, rfl, hv, hB⟩
    have HC := Lib.hid (HC.out.grow hB)
    have HS := Lib.hid (HS.out.grow hB)
    have HUX := Lib.hid (HUX.out.grow hB)
    have HX := Lib.hid (HX.out.grow hB)
    have HR := Lib.hid (HR.out.grow hB)
    have HW := Lib.hid (below_then HW.out hB)
    clear hB
    have VD := Lib.hid hv
    clear hv k0 k1 k2 s0 s1 KE
    go_wp2_with (fail)
    go_loopw [7, 9] (fun v i wr => ∃ k : Nat, i = .int .i64 k ∧ k ≤ 5 ∧ ∃ D p c, v = .slice p N c ∧ Hid (Vx wr (.slice p N c) D) ∧ Hid (Rfn N T O tm hm X D) ∧ Hid (Below w3.heap.size w3 wr)) (fun v i _ => 5 - (intOf i).toNat)
    case atStart => exact ⟨0, rfl, Nat.zero_le _, d, pd, cd, rfl, VD, RF, Lib.hid (Below.refl _ _)⟩
    case round =>
      clear VD RF
      obtain ⟨k, rfl, hk, D, pD, cD, rfl, VD, RF, HB⟩ := hrel
      have HC := Lib.hid (HC.out.grow HB.out)
      have HS := Lib.hid (HS.out.grow HB.out)
      have HUX := Lib.hid (HUX.out.grow HB.out)
      have HR := Lib.hid (HR.out.grow HB.out)
      have HX := Lib.hid (HX.out.grow HB.out)
      have HT := Lib.hid (below_then HW.out HB.out)
      by_cases hlt : k < 5
      · have i2 : (k : Int) < 5 := by omega
        have RE := Lib.hid (KN.out D RF.out)
        have K1 := Lib.hid (fun w a b c d => KI.out (.slice pD N cD) D RF.out w a b c d)
        have i1 := RF.out.im
        obtain ⟨E, eE⟩ : ∃ E, imgT T O tm hm X D = E := ⟨_, rfl⟩
        rw [eE] at RE K1 i1
        have K2 := Lib.hid (fun v w a b c d => KV.out v E RE.out w a b c d)
        have S1 := Lib.hid (fun va vb w a b => KS.out va vb E D i1 RE.out.len w a b)
        have S2 := Lib.hid (fun va vb w a b => KS.out va vb X E RE.out.sup HXL.out w a b)
        clear eE i1
        have k0 := heapN_cellj HC.out (k := 0) rfl
        have k1 := heapN_cellj HC.out (k := 1) rfl
        have k2 := heapN_cellj HC.out (k := 2) rfl
        have s0 := heapN_cellj HS.out (k := 0) rfl
        have s1 := heapN_cellj HS.out (k := 1) rfl
        go_wp2_with (fail)
        refine (K1.out _ HUX.out HR.out HX.out VD.out).mono ?_
        rintro e w5 ⟨vE, rfl, hv, hB5⟩
        obtain ⟨pE, cE, rfl⟩ := hv.cut
        rw [RE.out.len] at hv ⊢
        have VE := Lib.hid hv
        have VD5 := Lib.hid (VD.out.grow hB5)
        have HC5 := Lib.hid (HC.out.grow hB5)
        have HS5 := Lib.hid (HS.out.grow hB5)
        have HU5 := Lib.hid (HUX.out.grow hB5)
        have HR5 := Lib.hid (HR.out.grow hB5)
        have HX5 := Lib.hid (HX.out.grow hB5)
        have HB5 := Lib.hid (below_then HB.out hB5)
        clear hv hB5 k0 k1 k2 s0 s1 K1
        go_wp2_with (fail)
        refine (S1.out _ _ _ VE.out VD5.out).mono ?_
        rintro e w6 ⟨rfl, hB⟩
        have VE := Lib.hid (VE.out.grow hB)
        have HC5 := Lib.hid (HC5.out.grow hB)
        have HS5 := Lib.hid (HS5.out.grow hB)
        have HU5 := Lib.hid (HU5.out.grow hB)
        have HR5 := Lib.hid (HR5.out.grow hB)
        have HX5 := Lib.hid (HX5.out.grow hB)
        have HB5 := Lib.hid (below_then HB5.out hB)
        clear hB S1
        have k0 := heapN_cellj HC5.out (k := 0) rfl
        have k1 := heapN_cellj HC5.out (k := 1) rfl
        have k2 := heapN_cellj HC5.out (k := 2) rfl
        have s0 := heapN_cellj HS5.out (k := 0) rfl
        have s1 := heapN_cellj HS5.out (k := 1) rfl
        go_wp2_with (fail)
        refine (K2.out _ _ HU5.out HR5.out HX5.out VE.out).mono ?_
        rintro e w7 ⟨rfl, hB⟩
        have VE := Lib.hid (VE.out.grow hB)
        have HX5 := Lib.hid (HX5.out.grow hB)
        have HB5 := Lib.hid (below_then HB5.out hB)
        clear hB K2 k0 k1 k2 s0 s1
        go_wp2_with (fail)
        refine (S2.out _ _ _ HX5.out VE.out).mono ?_
        rintro e w8 ⟨rfl, hB⟩
        have VE := Lib.hid (VE.out.grow hB)
        have HB5 := Lib.hid (below_then HB5.out hB)
        clear hB S2
        go_wp2_with (fail)
        go_roundw
        case rel => exact ⟨k + 1, by go_num, by omega, E, pE, cE, rfl, VE, RE, HB5⟩
        case measure => simp [intOf]; omega
      · obtain rfl : k = 5 := by omega
        have i2 : ¬ ((5 : Nat) : Int) < 5 := by decide
        go_wp2_with (fail)
        go_ret
        exact ⟨rfl, HT.out⟩
end Go.Proofs.Ytecmgiihacigaaa
