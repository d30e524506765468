/-
  The law PicardSmallerProblem.
-/
import Derived.Test.YtecmgiihacigaaaVu
import Derived.Test.YtecmgiihacigaaaVq
import Derived.Test.YtecmgiihacigaaaPredG
namespace Go.Proofs.Ytecmgiihacigaaa
open Go.ChangeShapes Go.WideShapes Go.ChangeAt Go.RowKit Go.Maps
set_option linter.unusedVariables false
set_option linter.unusedSimpArgs false
set_option maxRecDepth 100000
attribute [local irreducible] Calls
theorem pt_num (x : Int) (h : Num x) (w : World) : Calls Try.prog 24 #[.int .i64 x] w fun e w' => e = .returned (.agg #[.int .i64 x, .int .i64 x]) ∧ Below w.heap.size w w' :=
  point_at x w (if_pos ⟨h, h⟩) (if_pos ⟨h, h⟩)
/-- Points, one of each interval. -/
def ptP (X : List (Int × Int)) (ks : List Int) (i : Nat) : Int × Int := (pickI (X.getD i (0, 0)).1 (X.getD i (0, 0)).2 (ks.getD i 0), pickI (X.getD i (0, 0)).1 (X.getD i (0, 0)).2 (ks.getD i 0))
def ptL (X : List (Int × Int)) (ks : List Int) (n : Nat) : List (Int × Int) := (List.range n).map (ptP X ks)
theorem ptL_snoc (X : List (Int × Int)) (ks : List Int) (n : Nat) : ptL X ks (n + 1) = ptL X ks n ++ [ptP X ks n] := by
  unfold ptL
  rw [List.range_succ, List.map_append]
  rfl
theorem ptL_len (X : List (Int × Int)) (ks : List Int) (n : Nat) : (ptL X ks n).length = n := by simp [ptL]
theorem ptL_sb {X : List (Int × Int)} (ks : List Int) (h : ∀ p ∈ X, -2000000 < p.1 ∧ p.1 ≤ p.2 ∧ p.2 < 2000000) : SbL (ptL X ks X.length) X := by
  refine ⟨ptL_len _ _ _, fun i p q hp hq => ?_⟩
  have hi := (List.getElem?_eq_some_iff.1 hq).1
  unfold ptL at hp
  rw [List.getElem?_map, List.getElem?_range hi] at hp
  cases hp
  have hb := h q (List.mem_of_getElem? hq)
  have hg : X.getD i (0, 0) = q := by rw [List.getD_eq_getElem?_getD, hq]; rfl
  have hp := pickI_in (a := q.1) (b := q.2) (x := ks.getD i 0) hb.2.1
  unfold ptP
  rw [hg]
  dsimp only
  unfold VI Num SbI Sb
  dsimp only
  omega
theorem u32_bd {ks : List Int} (h : ∀ x ∈ ks, IntKind.has .u32 x) (k : Nat) : 0 ≤ ks.getD k 0 ∧ ks.getD k 0 ≤ 4294967295 := by
  rw [List.getD_eq_getElem?_getD]
  cases e : ks[k]? with
  | none => exact ⟨Int.le_refl _, by decide⟩
  | some x =>
    have := h x (List.mem_of_getElem? e)
    exact this
theorem u32_at {W : World} {b0 b1 b2 b3 b4 b5 : Int} {b : Nat} {t : TypeId} (h : W.heap[b]? = some (.cells #[.int .u32 b0, .int .u32 b1, .int .u32 b2, .int .u32 b3, .int .u32 b4, .int .u32 b5] t (0, 0))) {k : Nat} (hk : k < 6) : W.cell? ⟨b, k, none⟩ = some (.int .u32 ([b0, b1, b2, b3, b4, b5].getD k 0)) := by
  refine heapN_cellj h ?_
  match k, hk with
  | 0, _ => rfl
  | 1, _ => rfl
  | 2, _ => rfl
  | 3, _ => rfl
  | 4, _ => rfl
  | 5, _ => rfl
set_option maxHeartbeats 64000000 in
theorem psml (w : World) (vL vO vX : Value) (n0 t ln : Int) (Lr : List Is) (outr : List Int) (Xr : List (Int × Int)) (hL : Ix w vL Lr ∧ ∀ x ∈ Lr, IW x) (hO : Px w vO outr ∧ ∀ x ∈ outr, W64 x) (hX : Vx w vX Xr ∧ ∀ q ∈ Xr, W64 q.1 ∧ W64 q.2) (hn : W64 n0) (ht : W64 t) (hln : W64 ln) (k0 k1 k2 k3 k4 k5 : Int) (hk : ∀ x ∈ [k0, k1, k2, k3, k4, k5], IntKind.has .u32 x) (sh : Int) (hh : (Lit.int .u16 sh).wf = true) :
    Calls Try.prog 6 #[.agg #[.int .i64 n0, vL, vO, vX, .int .i64 t, .int .i64 ln], .agg #[.int .u32 k0, .int .u32 k1, .int .u32 k2, .int .u32 k3, .int .u32 k4, .int .u32 k5], .int .u16 sh] w fun e w' => e = .returned (.bool true) ∧ Below w.heap.size w w' := by
  obtain ⟨pl, cl, rfl⟩ := hL.1.cut
  obtain ⟨po, co, rfl⟩ := hO.1.cut
  obtain ⟨px, cx, rfl⟩ := hX.1.cut
  obtain ⟨hh1, hh2⟩ : 0 ≤ sh ∧ sh ≤ 65535 := by
    have h0 := hh
    simp only [Lit.wf] at h0
    have h' : IntKind.min .u16 ≤ sh ∧ sh ≤ IntKind.max .u16 := by simpa using h0
    exact h'
  clear hh
  have HK := Lib.hid hk
  clear hk
  have hE : Below w.heap.size w ((w.alloc (.cells #[.int .i64 n0, .slice pl Lr.length cl, .slice po outr.length co, .slice px Xr.length cx, .int .i64 t, .int .i64 ln] 28)).alloc (.cells #[.int .u32 k0, .int .u32 k1, .int .u32 k2, .int .u32 k3, .int .u32 k4, .int .u32 k5] 50)) := allocs_below [.cells #[.int .i64 n0, .slice pl Lr.length cl, .slice po outr.length co, .slice px Xr.length cx, .int .i64 t, .int .i64 ln] 28, .cells #[.int .u32 k0, .int .u32 k1, .int .u32 k2, .int .u32 k3, .int .u32 k4, .int .u32 k5] 50] w
  have HQ := Lib.hid (show Blk ((w.alloc (.cells #[.int .i64 n0, .slice pl Lr.length cl, .slice po outr.length co, .slice px Xr.length cx, .int .i64 t, .int .i64 ln] 28)).alloc (.cells #[.int .u32 k0, .int .u32 k1, .int .u32 k2, .int .u32 k3, .int .u32 k4, .int .u32 k5] 50)) (w.heap.size) (.cells #[.int .i64 n0, .slice pl Lr.length cl, .slice po outr.length co, .slice px Xr.length cx, .int .i64 t, .int .i64 ln] 28) from allocs_at [.cells #[.int .i64 n0, .slice pl Lr.length cl, .slice po outr.length co, .slice px Xr.length cx, .int .i64 t, .int .i64 ln] 28, .cells #[.int .u32 k0, .int .u32 k1, .int .u32 k2, .int .u32 k3, .int .u32 k4, .int .u32 k5] 50] w 0 _ rfl)
  have HB1 := Lib.hid (show Blk ((w.alloc (.cells #[.int .i64 n0, .slice pl Lr.length cl, .slice po outr.length co, .slice px Xr.length cx, .int .i64 t, .int .i64 ln] 28)).alloc (.cells #[.int .u32 k0, .int .u32 k1, .int .u32 k2, .int .u32 k3, .int .u32 k4, .int .u32 k5] 50)) (w.heap.size + 1) (.cells #[.int .u32 k0, .int .u32 k1, .int .u32 k2, .int .u32 k3, .int .u32 k4, .int .u32 k5] 50) from allocs_at [.cells #[.int .i64 n0, .slice pl Lr.length cl, .slice po outr.length co, .slice px Xr.length cx, .int .i64 t, .int .i64 ln] 28, .cells #[.int .u32 k0, .int .u32 k1, .int .u32 k2, .int .u32 k3, .int .u32 k4, .int .u32 k5] 50] w 1 _ rfl)
  have HL := Lib.hid (hL.1.grow hE)
  have HO := Lib.hid (hO.1.grow hE)
  have HXV := Lib.hid (hX.1.grow hE)
  have HW := Lib.hid hE
  clear hE hL hO hX hn ht hln
  go_enter Try.func6, Try.ntmps6
  go_wp2_with (fail)
  refine (sanity11 _).mono ?_
  rintro e w1 ⟨rfl, hB⟩
  have HQ := Lib.hid (HQ.out.grow hB)
  have HB1 := Lib.hid (HB1.out.grow hB)
  have HL := Lib.hid (HL.out.grow hB)
  have HO := Lib.hid (HO.out.grow hB)
  have HXV := Lib.hid (HXV.out.grow hB)
  have HW := Lib.hid (below_then HW.out hB)
  clear hB
  have q0 := heapN_cellj HQ.out (k := 0) rfl
  have q1 := heapN_cellj HQ.out (k := 1) rfl
  have q2 := heapN_cellj HQ.out (k := 2) rfl
  have q3 := heapN_cellj HQ.out (k := 3) rfl
  have q4 := heapN_cellj HQ.out (k := 4) rfl
  have q5 := heapN_cellj HQ.out (k := 5) rfl
  go_wp2_with (fail)
  refine (made_ok n0 t ln _ _ _ Lr outr Xr _ HL.out HO.out HXV.out).mono ?_
  rintro e w2 ⟨N, T, O, pu, pr, pb, cu, cr', cb, rfl, hu, hr, hol, hx, htv, hN3, hT20, hB⟩
  clear q0 q1 q2 q3 q4 q5 HL HO HXV
  have htm := stpT_bd t
  have hhm := stpH_bd ln
  obtain ⟨tm, etm⟩ : ∃ m, stpT t = m := ⟨_, rfl⟩
  obtain ⟨hm, ehm⟩ : ∃ m, stpH ln = m := ⟨_, rfl⟩
  rw [etm] at htm
  rw [ehm] at hhm
  rw [etm, ehm]
  have HBD := Lib.hid (bx_bd Xr N)
  have hbl := boxI_len Xr N 65536
  obtain ⟨X, hX⟩ : ∃ X, boxI Xr N 65536 = X := ⟨_, rfl⟩
  rw [hX] at hx hbl HBD
  obtain ⟨hn1, hn6, h400, hon, hvl, hout⟩ := tv_cases htv
  have HXL := Lib.hid hbl
  have HVX := Lib.hid (bd_vi (by decide) (by decide) HBD.out)
  have HTV := Lib.hid htv
  have HUX := Lib.hid (Rx.own encI_len hu (by unfold maxLen; omega))
  have HX := Lib.hid hx
  have HR := Lib.hid hr
  have HOW := Lib.hid hu
  have hE : Below w2.heap.size w2 ((w2.alloc (.cells #[.int .i64 N, .slice pu T.length cu, .slice pr N cr'] 25)).alloc (.cells #[.int .i64 tm, .int .i64 hm] 33)) := allocs_below [.cells #[.int .i64 N, .slice pu T.length cu, .slice pr N cr'] 25, .cells #[.int .i64 tm, .int .i64 hm] 33] w2
  have hB2 := hB.trans (hE.mono hB.size)
  have HC := Lib.hid (show Blk ((w2.alloc (.cells #[.int .i64 N, .slice pu T.length cu, .slice pr N cr'] 25)).alloc (.cells #[.int .i64 tm, .int .i64 hm] 33)) w2.heap.size (.cells #[.int .i64 N, .slice pu T.length cu, .slice pr N cr'] 25) from allocs_at [.cells #[.int .i64 N, .slice pu T.length cu, .slice pr N cr'] 25, .cells #[.int .i64 tm, .int .i64 hm] 33] w2 0 _ rfl)
  have HS := Lib.hid (show Blk ((w2.alloc (.cells #[.int .i64 N, .slice pu T.length cu, .slice pr N cr'] 25)).alloc (.cells #[.int .i64 tm, .int .i64 hm] 33)) (w2.heap.size + 1) (.cells #[.int .i64 tm, .int .i64 hm] 33) from allocs_at [.cells #[.int .i64 N, .slice pu T.length cu, .slice pr N cr'] 25, .cells #[.int .i64 tm, .int .i64 hm] 33] w2 1 _ rfl)
  have HUX := Lib.hid (HUX.out.grow hE)
  have HX := Lib.hid (HX.out.grow hE)
  have HR := Lib.hid (HR.out.grow hE)
  have HOW := Lib.hid (own_keptN HOW.out hE)
  have HQ := Lib.hid (HQ.out.grow hB2)
  have HB1 := Lib.hid (HB1.out.grow hB2)
  have HW := Lib.hid (below_then HW.out hB2)
  clear hB hB2 hE hu hr hx htv hX hbl etm ehm h400 hon hvl hout hn6
  go_wp2_with (fail)
  generalize hWc : World.alloc (World.alloc w2 _) _ = W5 at *
  clear hWc
  clear HQ HOW
  have hXN : (X.length : Int) = N := by rw [HXL.out]
  obtain ⟨r, er⟩ : ∃ r, encR (imgT T O tm hm X) X = r := ⟨_, rfl⟩
  have c0 := heapN_cellj HC.out (k := 0) rfl
  have c1 := heapN_cellj HC.out (k := 1) rfl
  have c2 := heapN_cellj HC.out (k := 2) rfl
  have s0 := heapN_cellj HS.out (k := 0) rfl
  have s1 := heapN_cellj HS.out (k := 1) rfl
  cases r with
  | none =>
    have KE := Lib.hid (fun w a b c => encl_no N tm hm (.slice pu T.length cu) (.slice pr N cr') (.slice pb N cb) T O X w a b c HTV.out hXN HVX.out htm.1 htm.2 (by omega) (by omega) er)
    clear er hXN
    go_wp2_with (fail)
    refine (KE.out _ HUX.out HR.out HX.out).mono ?_
    rintro e w3 ⟨pd, cd, rfl, hB⟩
    have HW := Lib.hid (below_then HW.out hB)
    clear hB
    go_wp2_with (fail)
    go_ret
    exact ⟨rfl, HW.out⟩
  | some d =>
    obtain ⟨hdl, hdv, hdb, him, hxd⟩ := encl_facts HTV.out hXN HVX.out htm.1 htm.2 (by omega) (by omega) er
    have KE := Lib.hid (fun w a b c => encl_yes N tm hm (.slice pu T.length cu) (.slice pr N cr') (.slice pb N cb) T O X d w a b c HTV.out hXN HVX.out htm.1 htm.2 (by omega) (by omega) er)
    have hys := ptL_sb [k0, k1, k2, k3, k4, k5] (X := X) (fun p hp => by have := HBD.out p hp; omega)
    have hyl := ptL_len X [k0, k1, k2, k3, k4, k5] X.length
    obtain ⟨Y, eY⟩ : ∃ Y, ptL X [k0, k1, k2, k3, k4, k5] X.length = Y := ⟨_, rfl⟩
    have EY := Lib.hid eY
    rw [eY] at hys hyl
    have hyv : ∀ p ∈ Y, VI p.1 p.2 := fun p hp => by
      obtain ⟨i, hi⟩ := List.getElem?_of_mem hp
      obtain ⟨q, hq⟩ : ∃ q, X[i]? = some q := ⟨_, List.getElem?_eq_getElem (by rw [← hys.1]; exact (List.getElem?_eq_some_iff.1 hi).1)⟩
      exact (hys.2 i p q hi hq).1
    have hm1 := Int.emod_nonneg sh (show hm ≠ 0 by omega)
    have hm2 := Int.emod_lt_of_pos sh (show 0 < hm by omega)
    have t1 : sh.tmod hm = sh % hm := Int.tmod_eq_emod_of_nonneg hh1
    obtain ⟨m, em⟩ : ∃ m, sh % hm = m := ⟨_, rfl⟩
    rw [em] at hm1 hm2 t1
    have KV := Lib.hid (fun (va vd : Value) (A : List (Int × Int)) (H : Int) (hA : SbL A X) (hAv : ∀ p ∈ A, VI p.1 p.2) (h1 : 1 ≤ H) (h2 : H ≤ hm) w a b c e => val_ok N tm H (.slice pu T.length cu) (.slice pr N cr') va vd T O A d _ w a b c e HTV.out (by rw [hA.1]; exact hXN) (by rw [hdl]; exact hXN) hAv hdv htm.1 htm.2 (by omega) (by omega) rfl true (by
      have hi := sbL_trans (imgT_iso (T := tm) (T' := tm) (H := H) (H' := hm) HTV.out (by rw [hA.1]; exact hXN) hA (sbL_refl hdv) (by omega) h2 (by omega) htm.1 (Int.le_refl _) (by omega) htm.2) him
      rw [bnd_sub hi hdb, sub_of hi]
      rfl))
    have V1 := Lib.hid (fun va vd w a b c e => KV.out va vd Y hm hys hyv (by omega) (Int.le_refl _) w a b c e)
    have V2 := Lib.hid (fun va vd w a b c e => KV.out va vd X (1 + m) (sbL_refl HVX.out) HVX.out (by omega) (by omega) w a b c e)
    have V3 := Lib.hid (fun va vd w a b c e => KV.out va vd Y (1 + m) hys hyv (by omega) (by omega) w a b c e)
    have U1 : IntKind.i64.wrap sh = sh := wrapI _ (by omega) (by omega)
    have U2 : IntKind.i64.wrap m = m := wrapI _ (by omega) (by omega)
    have U3 : IntKind.i64.wrap (1 + m) = 1 + m := wrapI _ (by omega) (by omega)
    have hd0 : ¬ hm = 0 := by omega
    have HYL := Lib.hid (hyl.trans HXL.out)
    rw [HXL.out] at KE EY
    clear er hXN hdv hdb him hxd htm hhm hys hyl hyv eY KV em hm1 hm2
    go_wp2_with (fail)
    refine (KE.out _ HUX.out HR.out HX.out).mono ?_
    rintro e w3 ⟨pd, cd, rfl, hv, hB⟩
    have HB1 := Lib.hid (HB1.out.grow hB)
    have HC := Lib.hid (HC.out.grow hB)
    have HS := Lib.hid (HS.out.grow hB)
    have HUX := Lib.hid (HUX.out.grow hB)
    have HX := Lib.hid (HX.out.grow hB)
    have HR := Lib.hid (HR.out.grow hB)
    have HW := Lib.hid (below_then HW.out hB)
    clear hB
    have VD := Lib.hid hv
    clear hv c0 c1 c2 s0 s1 KE
    obtain ⟨i0, hi0, hz0, hz1, hz2⟩ := info_parts info_ivB
    have HR0 := Lib.hid (own_emptyB w3)
    have HE3 := Lib.hid (show Below w3.heap.size w3 (w3.alloc (.cells #[] 45)) from (Below.refl _ _).alloc (Nat.le_refl _) _)
    go_wp2_with (fail)
    go_loopw [13, 14] (fun v i wr => ∃ k : Nat, i = .int .i64 k ∧ k ≤ N ∧ Hid (wr.ownsRow w3.heap.size 45 2 v k (cr encB (ptL X [k0, k1, k2, k3, k4, k5] k))) ∧ Hid (Below w3.heap.size w3 wr)) (fun v i _ => N - (intOf i).toNat)
    case atStart => exact ⟨0, rfl, Nat.zero_le _, HR0, HE3⟩
    case round =>
      clear HR0 HE3
      obtain ⟨k, rfl, hk, HRW, HB⟩ := hrel
      obtain ⟨pv, cv, rfl⟩ := own_slice HRW.out
      by_cases hlt : k < N
      · have i2 : (k : Int) < N := by omega
        have i6 : (k : Int) < 6 := by omega
        obtain ⟨⟨a, b⟩, hx⟩ : ∃ x, X[k]? = some x := ⟨_, List.getElem?_eq_getElem (by rw [HXL.out]; exact hlt)⟩
        obtain ⟨hx1, hx2, hx3⟩ := HBD.out _ (List.mem_of_getElem? hx)
        dsimp only at hx1 hx2 hx3
        have hgd : X.getD k (0, 0) = (a, b) := by rw [List.getD_eq_getElem?_getD, hx]; rfl
        have hsn := ptL_snoc X [k0, k1, k2, k3, k4, k5] k
        have hpt : ptP X [k0, k1, k2, k3, k4, k5] k = (pickI a b ([k0, k1, k2, k3, k4, k5].getD k 0), pickI a b ([k0, k1, k2, k3, k4, k5].getD k 0)) := by unfold ptP; rw [hgd]
        rw [hpt] at hsn
        have hq := u32_bd HK.out k
        have y1 := fun g : Grown wr => u32_at ((HB1.out.grow HB.out).grow g.h) (k := k) (by omega)
        obtain ⟨q, eq⟩ : ∃ q, [k0, k1, k2, k3, k4, k5].getD k 0 = q := ⟨_, rfl⟩
        rw [eq] at hsn hq y1
        have hin := pickI_in (a := a) (b := b) (x := q) hx2
        have KP := Lib.hid (fun w => pick_ok a b q w (by unfold Num; omega) (by unfold Num; omega) hx2 hq.1 hq.2)
        obtain ⟨s, es⟩ : ∃ s, pickI a b q = s := ⟨_, rfl⟩
        rw [es] at hsn KP hin
        have KT := Lib.hid (fun w => pt_num s (by unfold Num; omega) w)
        have HSN := Lib.hid hsn
        obtain ⟨bx, ox, hpx, hbx, rdx⟩ := vx_rd (n := N) HX.out hx
        subst hpx
        have f0 := fun g : Grown wr => (rdx ⟨g.w, HB.out.trans (g.h.mono HB.out.size)⟩).1
        have f1 := fun g : Grown wr => (rdx ⟨g.w, HB.out.trans (g.h.mono HB.out.size)⟩).2
        clear rdx hx hgd hsn hpt hq eq hin es hx1 hx2 hx3
        go_wp2_with (fail)
        refine region_pred_n 11 (lk [(40, fun z_ _ => z_ = .slice pv k cv), (41, fun z_ _ => z_ = .slice (some ⟨bx, ox, none⟩) N cb), (42, fun z_ _ => z_ = .int .i64 (k : Int)), (43, fun z_ _ => z_ = .pointer (some ⟨bx, ox + k * 2, none⟩)), (44, fun z_ _ => z_ = .agg #[.int .i64 a, .int .i64 b]), (45, fun z_ _ => z_ = .int .i64 (k : Int)), (46, fun z_ _ => z_ = .pointer (some ⟨w.heap.size + 1, k, none⟩)), (47, fun z_ _ => z_ = .int .u32 q), (48, fun z_ _ => z_ = .int .i64 s), (49, fun z_ _ => z_ = .agg #[.int .i64 s, .int .i64 s]), (50, fun z_ w' => ∃ X_, z_ = .slice (some ⟨X_, 0, none⟩) 1 1 ∧ wr.heap.size ≤ X_ ∧ w'.heap[X_]? = some (.cells #[.int .i64 s, .int .i64 s] 45 (0, 0)))]) (by kernel_rfl) (by kernel_rfl) (lk_steady _ ⟨steady_eq _, steady_eq _, steady_eq _, steady_eq _, steady_eq _, steady_eq _, steady_eq _, steady_eq _, steady_eq _, steady_eq _, fun u w1 w2 hb ⟨X, e, h1, h2⟩ => ⟨X, e, h1, (hb.block X (Array.getElem?_eq_some_iff.1 h2).1).trans h2⟩, trivial⟩) ?_ ?_
        · refine ⟨?_, ?_, ?_, ?_, ?_, ?_, ?_, ?_, ?_, ?_, ?_, trivial⟩
          · refine ob_plain [13] rfl rfl fun aa g h => ?_
            have yy0 := seen_out (v := .slice pv k cv) rfl rfl h.1
            have ee0 := getD_of yy0
            exact tupon_value (v := .slice pv k cv) (by simp [go_sem, ee0, yy0]) (Below.refl _ _) rfl
          · refine ob_plain [9] rfl rfl fun aa g h => ?_
            have yy0 := seen_out (v := .slice (some ⟨bx, ox, none⟩) N cb) rfl rfl h.1
            have ee0 := getD_of yy0
            exact tupon_value (v := .slice (some ⟨bx, ox, none⟩) N cb) (by simp [go_sem, ee0, yy0]) (Below.refl _ _) rfl
          · refine ob_plain [14] rfl rfl fun aa g h => ?_
            have yy0 := seen_out (v := .int .i64 (k : Int)) rfl rfl h.1
            have ee0 := getD_of yy0
            exact tupon_value (v := .int .i64 (k : Int)) (by simp [go_sem, ee0, yy0]) (Below.refl _ _) rfl
          · refine ob_plain [41, 42] rfl rfl fun aa g h => ?_
            obtain ⟨_, yy0, rfl⟩ := seen_in rfl h.1
            have ee0 := getD_of yy0
            obtain ⟨_, yy1, rfl⟩ := seen_in rfl h.2.1
            have ee1 := getD_of yy1
            exact tupon_value (v := .pointer (some ⟨bx, ox + k * 2, none⟩)) (by simp [go_sem, ee0, yy0, ee1, yy1, i2]) (Below.refl _ _) rfl
          · refine ob_plain [43] rfl rfl fun aa g h => ?_
            obtain ⟨_, yy0, rfl⟩ := seen_in rfl h.1
            have ee0 := getD_of yy0
            exact tupon_value (v := .agg #[.int .i64 a, .int .i64 b]) (by simp [go_sem, ee0, yy0, f0 g, f1 g]) (Below.refl _ _) rfl
          · refine ob_plain [14] rfl rfl fun aa g h => ?_
            have yy0 := seen_out (v := .int .i64 (k : Int)) rfl rfl h.1
            have ee0 := getD_of yy0
            exact tupon_value (v := .int .i64 (k : Int)) (by simp [go_sem, ee0, yy0]) (Below.refl _ _) rfl
          · refine ob_plain [4, 45] rfl rfl fun aa g h => ?_
            have yy0 := seen_out (v := .pointer (some ⟨w.heap.size + 1, 0, none⟩)) rfl rfl h.1
            have ee0 := getD_of yy0
            obtain ⟨_, yy1, rfl⟩ := seen_in rfl h.2.1
            have ee1 := getD_of yy1
            exact tupon_value (v := .pointer (some ⟨w.heap.size + 1, k, none⟩)) (by simp [go_sem, ee0, yy0, ee1, yy1, i6]) (Below.refl _ _) rfl
          · refine ob_plain [46] rfl rfl fun aa g h => ?_
            obtain ⟨_, yy0, rfl⟩ := seen_in rfl h.1
            have ee0 := getD_of yy0
            exact tupon_value (v := .int .u32 q) (by simp [go_sem, ee0, yy0, y1 g]) (Below.refl _ _) rfl
          · refine ob_plain [44, 47] rfl rfl fun aa g h => ?_
            obtain ⟨_, yy0, rfl⟩ := seen_in rfl h.1
            have ee0 := getD_of yy0
            obtain ⟨_, yy1, rfl⟩ := seen_in rfl h.2.1
            have ee1 := getD_of yy1
            refine tupon_enter (f := 25) (args := #[.agg #[.int .i64 a, .int .i64 b], .int .u32 q]) (by simp [go_sem, ee0, yy0, ee1, yy1]) rfl ?_
            exact (KP.out g.w).mono fun e w' ⟨he, hB⟩ => ⟨_, he, hB, rfl⟩
          · refine ob_plain [48] rfl rfl fun aa g h => ?_
            obtain ⟨_, yy0, rfl⟩ := seen_in rfl h.1
            have ee0 := getD_of yy0
            refine tupon_enter (f := 24) (args := #[.int .i64 s]) (by simp [go_sem, ee0, yy0]) rfl ?_
            exact (KT.out g.w).mono fun e w' ⟨he, hB⟩ => ⟨_, he, hB, rfl⟩
          · refine ob_plain [49] rfl rfl fun aa g h => ?_
            obtain ⟨_, yy0, rfl⟩ := seen_in rfl h.1
            have ee0 := getD_of yy0
            exact tupon_value (v := .slice (some ⟨g.w.heap.size, 0, none⟩) 1 1) (w1 := g.w.alloc (.cells #[.int .i64 s, .int .i64 s] 45)) (by simp [go_sem, ee0, yy0]) ((Below.refl _ _).alloc (Nat.le_refl _) _) ⟨_, rfl, g.h.size, World.alloc_heap_new _ _⟩
        rintro w9 hB9 _ rfl _ rfl _ rfl _ rfl _ rfl _ rfl _ rfl _ rfl _ rfl _ rfl _ ⟨X50, rfl, hX50, hI50⟩
        simp only [Act.put, List.setIfInBounds_toArray, List.set_cons_succ, List.set_cons_zero, finP, List.drop_succ_cons, List.drop_zero, List.take_zero, List.filterMap_nil]
        have HR9 := Lib.hid (own_keptN HRW.out hB9)
        have HB9 := Lib.hid (below_then HB.out hB9)
        have HNB := Lib.hid (two_at (s, s) hI50)
        have hs9 : w3.heap.size ≤ w9.heap.size := HB9.out.size
        clear hB9 hI50 hX50 y1 f0 f1 KP KT HRW HB
        go_wp2_with (at_builtin; refine wpList_append_own _ rfl (.tmp 40) (.tmp 50) 26 rfl w3.heap.size 45 i0 (.agg #[.int .i64 0, .int .i64 0]) 2 16 Try.underlying26 hi0 hz0 hz1 hz2 rfl (by decide) (.slice pv k cv) k _ rfl HR9.out ⟨X50, 0, none⟩ 1 1 (encB (s, s)) rfl rfl HNB.out (one_b _) (by unfold maxLen; omega) (by omega) hs9 ?_)
        intro v' w8 hown' hgrow _
        have HB8 := Lib.hid (Below.grown HB9.out hgrow hs9 (fun i hi => (HR9.out.lt i hi).1))
        have HR8 := Lib.hid hown'
        clear hown' hgrow HB9 HR9 HNB hs9
        go_wp2_with (fail)
        go_roundw
        case rel => exact ⟨k + 1, by go_num, by omega, Lib.hid (by rw [HSN.out, cr_snoc]; exact HR8.out), HB8⟩
        case measure => simp [intOf]; omega
      · obtain rfl : N = k := by omega
        have i2 : ¬ (N : Int) < N := by omega
        have VY := Lib.hid (show Vx wr (.slice pv N cv) Y from by
          have h := HRW.out
          rw [EY.out, ← HYL.out] at h
          have h2 := Rx.own encB_len h (by rw [HYL.out]; unfold maxLen; omega)
          rwa [HYL.out] at h2)
        have HC := Lib.hid (HC.out.grow HB.out)
        have HS := Lib.hid (HS.out.grow HB.out)
        have HUX := Lib.hid (HUX.out.grow HB.out)
        have HR := Lib.hid (HR.out.grow HB.out)
        have HX := Lib.hid (HX.out.grow HB.out)
        have VD := Lib.hid (VD.out.grow HB.out)
        have HW := Lib.hid (below_then HW.out HB.out)
        have s0 := fun g : Grown wr => heapN_cellj (HS.out.grow g.h) (k := 0) rfl
        have s1 := fun g : Grown wr => heapN_cellj (HS.out.grow g.h) (k := 1) rfl
        clear HRW
        go_wp2_with (fail)
        refine region_pred_g (fun σ_ => lk [(52, fun z_ _ => z_ = .pointer (some ⟨w2.heap.size + 1, 0, none⟩)), (53, fun z_ _ => z_ = .int .i64 tm), (54, fun z_ _ => z_ = .int .u16 sh), (55, fun z_ _ => z_ = .int .i64 sh), (56, fun z_ _ => z_ = .pointer (some ⟨w2.heap.size + 1, 1, none⟩)), (57, fun z_ _ => z_ = .int .i64 hm), (58, fun z_ _ => z_ = .int .i64 m), (59, fun z_ _ => z_ = .int .i64 (1 + m)), (60, fun z_ _ => z_ = .agg #[.int .i64 tm, .int .i64 (1 + m)]), (15, fun z_ w' => ∃ X_, z_ = .pointer (some ⟨X_, 0, none⟩) ∧ wr.heap.size ≤ X_ ∧ w'.heap[X_]? = some (.cells (if σ_ 10 = true then #[(.int .i64 tm), (.int .i64 (1 + m))] else #[(.int .i64 0), (.int .i64 0)]) 33 (0, 0)))]) (kk [(15, ptrK)]) [(10, 15)] [] (by kernel_rfl) (by kernel_rfl) ?_ (fun σ_ => lk_steady _ ⟨steady_eq _, steady_eq _, steady_eq _, steady_eq _, steady_eq _, steady_eq _, steady_eq _, steady_eq _, steady_eq _, fun u w1 w2 hb ⟨X, e, h1, h2⟩ => ⟨X, e, h1, (hb.block X (Array.getElem?_eq_some_iff.1 h2).1).trans h2⟩, trivial⟩) ?_ ?_ ?_ ?_
        · intro x hx
          cases hx
        · intro σ_ t v w b h hb
          refine kk_lt (fun x hx e hl hb => ?_) h hb
          simp only [List.mem_cons, List.not_mem_nil, or_false] at hx
          rcases hx with rfl
          · subst e
            obtain ⟨X, rfl, hX, hI⟩ := hl
            obtain rfl : X = b := Option.some.inj hb
            exact (Array.getElem?_eq_some_iff.1 hI).1
        · refine ⟨?_, ?_, ?_, ?_, ?_, ?_, ?_, ?_, ?_, ?_, ?_, trivial⟩
          · intro _ σ_ hσ
            refine oblg_of (ob_plain [10] rfl rfl fun aa g h => ?_) (fun d v hd => by cases hd; rfl)
            have yy0 := seen_out (v := .pointer (some ⟨w2.heap.size + 1, 0, none⟩)) rfl rfl h.1
            have ee0 := getD_of yy0
            exact tupon_value (v := .pointer (some ⟨w2.heap.size + 1, 0, none⟩)) (by simp [go_sem, ee0, yy0]) (Below.refl _ _) rfl
          · intro _ σ_ hσ
            refine oblg_of (ob_plain [52] rfl rfl fun aa g h => ?_) (fun d v hd => by cases hd; rfl)
            obtain ⟨_, yy0, rfl⟩ := seen_in rfl h.1
            have ee0 := getD_of yy0
            exact tupon_value (v := .int .i64 tm) (by simp [go_sem, ee0, yy0, s0 g]) (Below.refl _ _) rfl
          · intro _ σ_ hσ
            refine oblg_of (ob_plain [2] rfl rfl fun aa g h => ?_) (fun d v hd => by cases hd; rfl)
            have yy0 := seen_out (v := .int .u16 sh) rfl rfl h.1
            have ee0 := getD_of yy0
            exact tupon_value (v := .int .u16 sh) (by simp [go_sem, ee0, yy0]) (Below.refl _ _) rfl
          · intro _ σ_ hσ
            refine oblg_of (ob_plain [54] rfl rfl fun aa g h => ?_) (fun d v hd => by cases hd; rfl)
            obtain ⟨_, yy0, rfl⟩ := seen_in rfl h.1
            have ee0 := getD_of yy0
            exact tupon_value (v := .int .i64 sh) (by simp [go_sem, ee0, yy0, U1]) (Below.refl _ _) rfl
          · intro _ σ_ hσ
            refine oblg_of (ob_plain [10] rfl rfl fun aa g h => ?_) (fun d v hd => by cases hd; rfl)
            have yy0 := seen_out (v := .pointer (some ⟨w2.heap.size + 1, 0, none⟩)) rfl rfl h.1
            have ee0 := getD_of yy0
            exact tupon_value (v := .pointer (some ⟨w2.heap.size + 1, 1, none⟩)) (by simp [go_sem, ee0, yy0]) (Below.refl _ _) rfl
          · intro _ σ_ hσ
            refine oblg_of (ob_plain [56] rfl rfl fun aa g h => ?_) (fun d v hd => by cases hd; rfl)
            obtain ⟨_, yy0, rfl⟩ := seen_in rfl h.1
            have ee0 := getD_of yy0
            exact tupon_value (v := .int .i64 hm) (by simp [go_sem, ee0, yy0, s1 g]) (Below.refl _ _) rfl
          · intro _ σ_ hσ
            refine oblg_of (ob_plain [55, 57] rfl rfl fun aa g h => ?_) (fun d v hd => by cases hd; rfl)
            obtain ⟨_, yy0, rfl⟩ := seen_in rfl h.1
            have ee0 := getD_of yy0
            obtain ⟨_, yy1, rfl⟩ := seen_in rfl h.2.1
            have ee1 := getD_of yy1
            exact tupon_value (v := .int .i64 m) (by simp [go_sem, ee0, yy0, ee1, yy1, hd0, t1, U2]) (Below.refl _ _) rfl
          · intro _ σ_ hσ
            refine oblg_of (ob_plain [58] rfl rfl fun aa g h => ?_) (fun d v hd => by cases hd; rfl)
            obtain ⟨_, yy0, rfl⟩ := seen_in rfl h.1
            have ee0 := getD_of yy0
            exact tupon_value (v := .int .i64 (1 + m)) (by simp [go_sem, ee0, yy0, U3]) (Below.refl _ _) rfl
          · intro _ σ_ hσ
            refine oblg_of (ob_plain [53, 59] rfl rfl fun aa g h => ?_) (fun d v hd => by cases hd; rfl)
            obtain ⟨_, yy0, rfl⟩ := seen_in rfl h.1
            have ee0 := getD_of yy0
            obtain ⟨_, yy1, rfl⟩ := seen_in rfl h.2.1
            have ee1 := getD_of yy1
            exact tupon_value (v := .agg #[.int .i64 tm, .int .i64 (1 + m)]) (by simp [go_sem, ee0, yy0, ee1, yy1]) (Below.refl _ _) rfl
          · intro _ σ_ hσ
            have hsx : σ_ 10 = false := by
              cases e : σ_ 10 with
              | false => rfl
              | true => exact absurd (hσ 10 _ e rfl) (by first | decide | decide +kernel)
            refine oblg_plain [] rfl rfl fun aa g h => ?_
            exact tupon_value (v := .pointer (some ⟨g.w.heap.size, 0, none⟩)) (w1 := g.w.alloc (.cells #[(.int .i64 0), (.int .i64 0)] 33)) (by simp [go_sem]) ((Below.refl _ _).alloc (Nat.le_refl _) _) ⟨⟨_, rfl, g.h.size, by rw [if_neg (by rw [hsx]; exact Bool.false_ne_true)]; exact World.alloc_heap_new _ _⟩, fun d b hd hb => by cases hd; obtain rfl := Option.some.inj hb; exact Nat.le_refl _⟩
          · exact fun h => absurd h (by decide)
        · intro i p os hm hos
          simp only [List.mem_cons, List.not_mem_nil, or_false, Prod.mk.injEq] at hm
          rcases hm with ⟨rfl, rfl⟩
          · obtain rfl := Option.some.inj hos
            intro σ_ aa gg hσ h
            obtain ⟨_, r0, X, rfl, hX, hI⟩ := seen_in rfl h.1
            have e0 := getD_of r0
            obtain ⟨_, r1, rfl⟩ := seen_in rfl h.2.1
            have e1 := getD_of r1
            rw [if_neg (by rw [hσ]; exact Bool.false_ne_true)] at hI
            have q0 := heapN_cellj hI (k := 0) rfl
            have z0 : gg.w.frozen? ⟨X, 0, none⟩ = false := by simp [World.frozen?, hI]
            have q1 := heapN_cellj hI (k := 1) rfl
            have z1 : gg.w.frozen? ⟨X, 1, none⟩ = false := by simp [World.frozen?, hI]
            refine ⟨((gg.w.setCell ⟨X, 0, none⟩ ((.int .i64 tm))).setCell ⟨X, 1, none⟩ ((.int .i64 (1 + m)))), by simp [go_sem, e0, r0, e1, r1, q0, z0, q1, z1], ((gg.h.setCell (p := ⟨X, 0, none⟩) hX _).setCell (p := ⟨X, 1, none⟩) hX _), fun t v hv hne hΦ => lk_pair ?_ hΦ⟩
            refine ⟨rfl, fun _ h => h, rfl, fun _ h => h, rfl, fun _ h => h, rfl, fun _ h => h, rfl, fun _ h => h, rfl, fun _ h => h, rfl, fun _ h => h, rfl, fun _ h => h, rfl, fun _ h => h, rfl, ?_, trivial⟩
            · intro e hx
              subst e
              obtain ⟨X', rfl, hX', hI'⟩ := hx
              rw [r0] at hv
              have e := Option.some.inj hv
              simp only [Value.pointer.injEq, Option.some.injEq, Addr.mk.injEq, and_true] at e
              subst e
              exact ⟨X, rfl, hX, by rw [if_pos (updS_self _ _)]; exact cellsT_setN (o := 1) (u := (.int .i64 (1 + m))) (cellsT_setN (o := 0) (u := (.int .i64 tm)) (hI))⟩
        rintro w6 hB _ rfl _ rfl _ rfl _ rfl _ rfl _ rfl _ rfl _ rfl _ rfl _ ⟨X15, rfl, hX15, hI15⟩
        simp only [Act.put, List.setIfInBounds_toArray, List.set_cons_succ, List.set_cons_zero, List.filterMap_nil, finP]
        intro _ _
        have HC := Lib.hid (HC.out.grow hB)
        have HS := Lib.hid (HS.out.grow hB)
        have HUX := Lib.hid (HUX.out.grow hB)
        have HR := Lib.hid (HR.out.grow hB)
        have HX := Lib.hid (HX.out.grow hB)
        have VD := Lib.hid (VD.out.grow hB)
        have VY := Lib.hid (VY.out.grow hB)
        have HW := Lib.hid (below_then HW.out hB)
        have HSH := Lib.hid (show Blk w6 X15 (.cells #[.int .i64 tm, .int .i64 (1 + m)] 33) from hI15)
        clear hB hI15 hX15 s0 s1
        have c0 := heapN_cellj HC.out (k := 0) rfl
        have c1 := heapN_cellj HC.out (k := 1) rfl
        have c2 := heapN_cellj HC.out (k := 2) rfl
        have s0 := heapN_cellj HS.out (k := 0) rfl
        have s1 := heapN_cellj HS.out (k := 1) rfl
        go_wp2_with (fail)
        refine (V1.out _ _ _ HUX.out HR.out VY.out VD.out).mono ?_
        rintro e w7 ⟨rfl, hB⟩
        have HC := Lib.hid (HC.out.grow hB)
        have HS := Lib.hid (HS.out.grow hB)
        have HSH := Lib.hid (HSH.out.grow hB)
        have HUX := Lib.hid (HUX.out.grow hB)
        have HR := Lib.hid (HR.out.grow hB)
        have HX := Lib.hid (HX.out.grow hB)
        have VD := Lib.hid (VD.out.grow hB)
        have VY := Lib.hid (VY.out.grow hB)
        have HW := Lib.hid (below_then HW.out hB)
        clear hB c0 c1 c2 s0 s1
        have c0 := heapN_cellj HC.out (k := 0) rfl
        have c1 := heapN_cellj HC.out (k := 1) rfl
        have c2 := heapN_cellj HC.out (k := 2) rfl
        have s0 := heapN_cellj HSH.out (k := 0) rfl
        have s1 := heapN_cellj HSH.out (k := 1) rfl
        go_wp2_with (fail)
        refine (V2.out _ _ _ HUX.out HR.out HX.out VD.out).mono ?_
        rintro e w8 ⟨rfl, hB⟩
        have HC := Lib.hid (HC.out.grow hB)
        have HS := Lib.hid (HS.out.grow hB)
        have HSH := Lib.hid (HSH.out.grow hB)
        have HUX := Lib.hid (HUX.out.grow hB)
        have HR := Lib.hid (HR.out.grow hB)
        have HX := Lib.hid (HX.out.grow hB)
        have VD := Lib.hid (VD.out.grow hB)
        have VY := Lib.hid (VY.out.grow hB)
        have HW := Lib.hid (below_then HW.out hB)
        clear hB c0 c1 c2 s0 s1
        have c0 := heapN_cellj HC.out (k := 0) rfl
        have c1 := heapN_cellj HC.out (k := 1) rfl
        have c2 := heapN_cellj HC.out (k := 2) rfl
        have s0 := heapN_cellj HSH.out (k := 0) rfl
        have s1 := heapN_cellj HSH.out (k := 1) rfl
        go_wp2_with (fail)
        refine (V3.out _ _ _ HUX.out HR.out VY.out VD.out).mono ?_
        rintro e w9 ⟨rfl, hB⟩
        have HC := Lib.hid (HC.out.grow hB)
        have HS := Lib.hid (HS.out.grow hB)
        have HSH := Lib.hid (HSH.out.grow hB)
        have HUX := Lib.hid (HUX.out.grow hB)
        have HR := Lib.hid (HR.out.grow hB)
        have HX := Lib.hid (HX.out.grow hB)
        have VD := Lib.hid (VD.out.grow hB)
        have VY := Lib.hid (VY.out.grow hB)
        have HW := Lib.hid (below_then HW.out hB)
        clear hB c0 c1 c2 s0 s1
        go_wp2_with (fail)
        go_ret
        exact ⟨rfl, HW.out⟩
end Go.Proofs.Ytecmgiihacigaaa
