/-
  The law PicardPaths.
-/
import Derived.Test.YtecmgiihacigaaaVu
import Derived.Test.YtecmgiihacigaaaVq
import Derived.Test.YtecmgiihacigaaaSubMath
namespace Go.Proofs.Ytecmgiihacigaaa
open Go.ChangeShapes Go.WideShapes Go.ChangeAt Go.RowKit Go.Maps
set_option linter.unusedVariables false
set_option linter.unusedSimpArgs false
set_option maxRecDepth 100000
attribute [local irreducible] Calls
theorem pt_num (x : Int) (h : Num x) (w : World) : Calls Try.prog 24 #[.int .i64 x] w fun e w' => e = .returned (.agg #[.int .i64 x, .int .i64 x]) ∧ Below w.heap.size w w' :=
  point_at x w (if_pos ⟨h, h⟩) (if_pos ⟨h, h⟩)
theorem u32_bd {ks : List Int} (h : ∀ x ∈ ks, IntKind.has .u32 x) (k : Nat) : 0 ≤ ks.getD k 0 ∧ ks.getD k 0 ≤ 4294967295 := by
  rw [List.getD_eq_getElem?_getD]
  cases e : ks[k]? with
  | none => exact ⟨Int.le_refl _, by decide⟩
  | some x =>
    have := h x (List.mem_of_getElem? e)
    exact this
theorem u32_at {W : World} {b0 b1 b2 b3 b4 b5 : Int} {b : Nat} {t : TypeId} (h : W.heap[b]? = some (.cells #[.int .u32 b0, .int .u32 b1, .int .u32 b2, .int .u32 b3, .int .u32 b4, .int .u32 b5] t (0, 0))) {k : Nat} (hk : k < 6) : W.cell? ⟨b, k, none⟩ = some (.int .u32 ([b0, b1, b2, b3, b4, b5].getD k 0)) := by
  refine heapN_cellj h ?_
  match k, hk with
  | 0, _ => rfl
  | 1, _ => rfl
  | 2, _ => rfl
  | 3, _ => rfl
  | 4, _ => rfl
  | 5, _ => rfl
theorem u12_at {W : World} {l0 l1 l2 l3 l4 l5 l6 l7 l8 l9 l10 l11 : Int} {b : Nat} {t : TypeId} (h : W.heap[b]? = some (.cells #[.int .u32 l0, .int .u32 l1, .int .u32 l2, .int .u32 l3, .int .u32 l4, .int .u32 l5, .int .u32 l6, .int .u32 l7, .int .u32 l8, .int .u32 l9, .int .u32 l10, .int .u32 l11] t (0, 0))) {j : Nat} (hj : j < 12) : W.cell? ⟨b, j, none⟩ = some (.int .u32 ([l0, l1, l2, l3, l4, l5, l6, l7, l8, l9, l10, l11].getD j 0)) := by
  refine heapN_cellj h ?_
  match j, hj with
  | 0, _ => rfl
  | 1, _ => rfl
  | 2, _ => rfl
  | 3, _ => rfl
  | 4, _ => rfl
  | 5, _ => rfl
  | 6, _ => rfl
  | 7, _ => rfl
  | 8, _ => rfl
  | 9, _ => rfl
  | 10, _ => rfl
  | 11, _ => rfl
/-- A path that has used the time u. -/
structure Pth (H xl xh c e : Int) (a l : Int) : Prop where
  l0 : 0 ≤ l
  l1 : l ≤ H
  lo : 65536 * xl + c * (H - l) ≤ a
  hi : a ≤ 65536 * xh + e * (H - l)
theorem Pth.go {H xl xh c e a l s v : Int} (h : Pth H xl xh c e a l) (hs : 0 ≤ s) (hl : s ≤ l) (h1 : c ≤ v) (h2 : v ≤ e) : Pth H xl xh c e (a + s * v) (l - s) := by
  have g1 := Int.mul_le_mul_of_nonneg_left h1 hs
  have g2 := Int.mul_le_mul_of_nonneg_left h2 hs
  have e1 : c * (H - (l - s)) = c * (H - l) + s * c := by grind
  have e2 : e * (H - (l - s)) = e * (H - l) + s * e := by grind
  have h3 := h.lo
  have h4 := h.hi
  have h5 := h.l1
  exact ⟨by omega, by omega, by rw [e1]; omega, by rw [e2]; omega⟩
theorem Pth.in {H xl xh c e a l dl dh : Int} (h : Pth H xl xh c e a l) (hH : 0 ≤ H) (hx : VI xl xh) (hb : ¬ Ent (imgP H (xl, xh) (c, e)).1 (imgP H (xl, xh) (c, e)).2) (hs : SbI (imgP H (xl, xh) (c, e)) (dl, dh)) : dl * 65536 ≤ a ∧ a ≤ dh * 65536 := by
  rw [imgP_eq] at hb hs
  dsimp only at hb
  obtain ⟨_, hm, _, _, ea, eb⟩ := add_not_ent hb
  obtain ⟨em, en⟩ := mul_not_ent hm
  have h1 := h.lo
  have h2 := h.hi
  have h3 := h.l0
  have h4 := h.l1
  obtain ⟨s1, s2⟩ := hs
  dsimp only at s1 s2
  rw [ea, em] at s1
  rw [eb, en] at s2
  have d1 := (dn_mul (mn4 0 H c e) (show (0 : Int) < 65536 by decide)).1
  have d2 := (up_mul (mx4 0 H c e) (show (0 : Int) < 65536 by decide)).1
  have m1 : mn4 0 H c e ≤ c * (H - l) := by
    have z1 : mn4 0 H c e ≤ 0 := by unfold mn4; rw [Int.zero_mul]; omega
    have z2 : mn4 0 H c e ≤ H * c := by unfold mn4; omega
    rcases Int.le_total 0 c with hc | hc
    · have := Int.mul_nonneg hc (show 0 ≤ H - l by omega)
      omega
    · have : c * H ≤ c * (H - l) := Int.mul_le_mul_of_nonpos_left hc (by omega)
      rw [Int.mul_comm] at z2
      omega
  have m2 : e * (H - l) ≤ mx4 0 H c e := by
    have z1 : 0 ≤ mx4 0 H c e := by unfold mx4; rw [Int.zero_mul]; omega
    have z2 : H * e ≤ mx4 0 H c e := by unfold mx4; omega
    rcases Int.le_total 0 e with hc | hc
    · have : e * (H - l) ≤ e * H := Int.mul_le_mul_of_nonneg_left (by omega) hc
      rw [Int.mul_comm] at z2
      omega
    · have := Int.mul_nonneg (show 0 ≤ -e by omega) (show 0 ≤ H - l by omega)
      rw [Int.neg_mul] at this
      omega
  omega
theorem Pth.bd {H xl xh c e a l : Int} (h : Pth H xl xh c e a l) (hH : H ≤ 32768) (h1 : -2000000 < xl) (h2 : xh < 2000000) (hc : -2147483648 < c) (he : e < 2147483648) : -281474976710656 ≤ a ∧ a ≤ 281474976710656 := by
  have g1 := h.lo
  have g2 := h.hi
  have g3 := h.l0
  have g4 := h.l1
  have b1 : -70368744177664 ≤ c * (H - l) := by
    rcases Int.le_total 0 c with hc0 | hc0
    · have := Int.mul_nonneg hc0 (show 0 ≤ H - l by omega)
      omega
    · have q1 : c * 32768 ≤ c * (H - l) := Int.mul_le_mul_of_nonpos_left hc0 (by omega)
      omega
  have b2 : e * (H - l) ≤ 70368744177664 := by
    rcases Int.le_total 0 e with hc0 | hc0
    · have q1 : e * (H - l) ≤ e * 32768 := Int.mul_le_mul_of_nonneg_left (by omega) hc0
      omega
    · have := Int.mul_nonneg (show 0 ≤ -e by omega) (show 0 ≤ H - l by omega)
      rw [Int.neg_mul] at this
      omega
  omega
theorem wrap_u32 (n : Int) : IntKind.u32.wrap n = n % 4294967296 := by simp [IntKind.wrap, IntKind.bits, IntKind.signed]
theorem imgP_ne {H : Int} {x f : Int × Int} (hb : ¬ Ent (imgP H x f).1 (imgP H x f).2) : ¬ Ent f.1 f.2 := by
  rw [imgP_eq] at hb
  dsimp only at hb
  obtain ⟨_, hm, _⟩ := add_not_ent hb
  intro he
  apply hm
  unfold mulLo mulHi
  rw [if_pos (.inr he), if_pos (.inr he)]
  exact ⟨rfl, rfl⟩
set_option maxHeartbeats 64000000 in
theorem ppth (w : World) (vL vO vX : Value) (n0 t ln : Int) (Lr : List Is) (outr : List Int) (Xr : List (Int × Int)) (hL : Ix w vL Lr ∧ ∀ x ∈ Lr, IW x) (hO : Px w vO outr ∧ ∀ x ∈ outr, W64 x) (hX : Vx w vX Xr ∧ ∀ q ∈ Xr, W64 q.1 ∧ W64 q.2) (hn : W64 n0) (ht : W64 t) (hln : W64 ln) (k0 k1 k2 k3 k4 k5 : Int) (hk : ∀ x ∈ [k0, k1, k2, k3, k4, k5], IntKind.has .u32 x) (l0 l1 l2 l3 l4 l5 l6 l7 l8 l9 l10 l11 : Int) (hl12 : ∀ x ∈ [l0, l1, l2, l3, l4, l5, l6, l7, l8, l9, l10, l11], IntKind.has .u32 x) :
    Calls Try.prog 8 #[.agg #[.int .i64 n0, vL, vO, vX, .int .i64 t, .int .i64 ln], .agg #[.int .u32 k0, .int .u32 k1, .int .u32 k2, .int .u32 k3, .int .u32 k4, .int .u32 k5], .agg #[.int .u32 l0, .int .u32 l1, .int .u32 l2, .int .u32 l3, .int .u32 l4, .int .u32 l5, .int .u32 l6, .int .u32 l7, .int .u32 l8, .int .u32 l9, .int .u32 l10, .int .u32 l11]] w fun e w' => e = .returned (.bool true) ∧ Below w.heap.size w w' := by
  obtain ⟨pl, cl, rfl⟩ := hL.1.cut
  obtain ⟨po, co, rfl⟩ := hO.1.cut
  obtain ⟨px, cx, rfl⟩ := hX.1.cut
  have HK := Lib.hid hk
  have HL12 := Lib.hid hl12
  clear hk hl12
  have hE : Below w.heap.size w (((w.alloc (.cells #[.int .i64 n0, .slice pl Lr.length cl, .slice po outr.length co, .slice px Xr.length cx, .int .i64 t, .int .i64 ln] 28)).alloc (.cells #[.int .u32 k0, .int .u32 k1, .int .u32 k2, .int .u32 k3, .int .u32 k4, .int .u32 k5] 50)).alloc (.cells #[.int .u32 l0, .int .u32 l1, .int .u32 l2, .int .u32 l3, .int .u32 l4, .int .u32 l5, .int .u32 l6, .int .u32 l7, .int .u32 l8, .int .u32 l9, .int .u32 l10, .int .u32 l11] 55)) := allocs_below [.cells #[.int .i64 n0, .slice pl Lr.length cl, .slice po outr.length co, .slice px Xr.length cx, .int .i64 t, .int .i64 ln] 28, .cells #[.int .u32 k0, .int .u32 k1, .int .u32 k2, .int .u32 k3, .int .u32 k4, .int .u32 k5] 50, .cells #[.int .u32 l0, .int .u32 l1, .int .u32 l2, .int .u32 l3, .int .u32 l4, .int .u32 l5, .int .u32 l6, .int .u32 l7, .int .u32 l8, .int .u32 l9, .int .u32 l10, .int .u32 l11] 55] w
  have HQ := Lib.hid (show Blk (((w.alloc (.cells #[.int .i64 n0, .slice pl Lr.length cl, .slice po outr.length co, .slice px Xr.length cx, .int .i64 t, .int .i64 ln] 28)).alloc (.cells #[.int .u32 k0, .int .u32 k1, .int .u32 k2, .int .u32 k3, .int .u32 k4, .int .u32 k5] 50)).alloc (.cells #[.int .u32 l0, .int .u32 l1, .int .u32 l2, .int .u32 l3, .int .u32 l4, .int .u32 l5, .int .u32 l6, .int .u32 l7, .int .u32 l8, .int .u32 l9, .int .u32 l10, .int .u32 l11] 55)) (w.heap.size) (.cells #[.int .i64 n0, .slice pl Lr.length cl, .slice po outr.length co, .slice px Xr.length cx, .int .i64 t, .int .i64 ln] 28) from allocs_at [.cells #[.int .i64 n0, .slice pl Lr.length cl, .slice po outr.length co, .slice px Xr.length cx, .int .i64 t, .int .i64 ln] 28, .cells #[.int .u32 k0, .int .u32 k1, .int .u32 k2, .int .u32 k3, .int .u32 k4, .int .u32 k5] 50, .cells #[.int .u32 l0, .int .u32 l1, .int .u32 l2, .int .u32 l3, .int .u32 l4, .int .u32 l5, .int .u32 l6, .int .u32 l7, .int .u32 l8, .int .u32 l9, .int .u32 l10, .int .u32 l11] 55] w 0 _ rfl)
  have HB1 := Lib.hid (show Blk (((w.alloc (.cells #[.int .i64 n0, .slice pl Lr.length cl, .slice po outr.length co, .slice px Xr.length cx, .int .i64 t, .int .i64 ln] 28)).alloc (.cells #[.int .u32 k0, .int .u32 k1, .int .u32 k2, .int .u32 k3, .int .u32 k4, .int .u32 k5] 50)).alloc (.cells #[.int .u32 l0, .int .u32 l1, .int .u32 l2, .int .u32 l3, .int .u32 l4, .int .u32 l5, .int .u32 l6, .int .u32 l7, .int .u32 l8, .int .u32 l9, .int .u32 l10, .int .u32 l11] 55)) (w.heap.size + 1) (.cells #[.int .u32 k0, .int .u32 k1, .int .u32 k2, .int .u32 k3, .int .u32 k4, .int .u32 k5] 50) from allocs_at [.cells #[.int .i64 n0, .slice pl Lr.length cl, .slice po outr.length co, .slice px Xr.length cx, .int .i64 t, .int .i64 ln] 28, .cells #[.int .u32 k0, .int .u32 k1, .int .u32 k2, .int .u32 k3, .int .u32 k4, .int .u32 k5] 50, .cells #[.int .u32 l0, .int .u32 l1, .int .u32 l2, .int .u32 l3, .int .u32 l4, .int .u32 l5, .int .u32 l6, .int .u32 l7, .int .u32 l8, .int .u32 l9, .int .u32 l10, .int .u32 l11] 55] w 1 _ rfl)
  have HB2 := Lib.hid (show Blk (((w.alloc (.cells #[.int .i64 n0, .slice pl Lr.length cl, .slice po outr.length co, .slice px Xr.length cx, .int .i64 t, .int .i64 ln] 28)).alloc (.cells #[.int .u32 k0, .int .u32 k1, .int .u32 k2, .int .u32 k3, .int .u32 k4, .int .u32 k5] 50)).alloc (.cells #[.int .u32 l0, .int .u32 l1, .int .u32 l2, .int .u32 l3, .int .u32 l4, .int .u32 l5, .int .u32 l6, .int .u32 l7, .int .u32 l8, .int .u32 l9, .int .u32 l10, .int .u32 l11] 55)) (w.heap.size + 1 + 1) (.cells #[.int .u32 l0, .int .u32 l1, .int .u32 l2, .int .u32 l3, .int .u32 l4, .int .u32 l5, .int .u32 l6, .int .u32 l7, .int .u32 l8, .int .u32 l9, .int .u32 l10, .int .u32 l11] 55) from allocs_at [.cells #[.int .i64 n0, .slice pl Lr.length cl, .slice po outr.length co, .slice px Xr.length cx, .int .i64 t, .int .i64 ln] 28, .cells #[.int .u32 k0, .int .u32 k1, .int .u32 k2, .int .u32 k3, .int .u32 k4, .int .u32 k5] 50, .cells #[.int .u32 l0, .int .u32 l1, .int .u32 l2, .int .u32 l3, .int .u32 l4, .int .u32 l5, .int .u32 l6, .int .u32 l7, .int .u32 l8, .int .u32 l9, .int .u32 l10, .int .u32 l11] 55] w 2 _ rfl)
  have HL := Lib.hid (hL.1.grow hE)
  have HO := Lib.hid (hO.1.grow hE)
  have HXV := Lib.hid (hX.1.grow hE)
  have HW := Lib.hid hE
  clear hE hL hO hX hn ht hln
  go_enter Try.func8, Try.ntmps8
  go_wp2_with (fail)
  refine (sanity11 _).mono ?_
  rintro e w1 ⟨rfl, hB⟩
  have HQ := Lib.hid (HQ.out.grow hB)
  have HB1 := Lib.hid (HB1.out.grow hB)
  have HB2 := Lib.hid (HB2.out.grow hB)
  have HL := Lib.hid (HL.out.grow hB)
  have HO := Lib.hid (HO.out.grow hB)
  have HXV := Lib.hid (HXV.out.grow hB)
  have HW := Lib.hid (below_then HW.out hB)
  clear hB
  have q0 := heapN_cellj HQ.out (k := 0) rfl
  have q1 := heapN_cellj HQ.out (k := 1) rfl
  have q2 := heapN_cellj HQ.out (k := 2) rfl
  have q3 := heapN_cellj HQ.out (k := 3) rfl
  have q4 := heapN_cellj HQ.out (k := 4) rfl
  have q5 := heapN_cellj HQ.out (k := 5) rfl
  go_wp2_with (fail)
  refine (made_ok n0 t ln _ _ _ Lr outr Xr _ HL.out HO.out HXV.out).mono ?_
  rintro e w2 ⟨N, T, O, pu, pr, pb, cu, cr', cb, rfl, hu, hr, hol, hx, htv, hN3, hT20, hB⟩
  clear q0 q1 q2 q3 q4 q5 HL HO HXV
  have htm := stpT_bd t
  have hhm := stpH_bd ln
  obtain ⟨tm, etm⟩ : ∃ m, stpT t = m := ⟨_, rfl⟩
  obtain ⟨hm, ehm⟩ : ∃ m, stpH ln = m := ⟨_, rfl⟩
  rw [etm] at htm
  rw [ehm] at hhm
  rw [etm, ehm]
  have HBD := Lib.hid (bx_bd Xr N)
  have hbl := boxI_len Xr N 65536
  obtain ⟨X, hX⟩ : ∃ X, boxI Xr N 65536 = X := ⟨_, rfl⟩
  rw [hX] at hx hbl HBD
  obtain ⟨hn1, hn6, h400, hon, hvl, hout⟩ := tv_cases htv
  have HXL := Lib.hid hbl
  have HVX := Lib.hid (bd_vi (by decide) (by decide) HBD.out)
  have HTV := Lib.hid htv
  have HUX := Lib.hid (Rx.own encI_len hu (by unfold maxLen; omega))
  have HX := Lib.hid hx
  have HR := Lib.hid hr
  have HOW := Lib.hid hu
  have hE : Below w2.heap.size w2 ((w2.alloc (.cells #[.int .i64 N, .slice pu T.length cu, .slice pr N cr'] 25)).alloc (.cells #[.int .i64 tm, .int .i64 hm] 33)) := allocs_below [.cells #[.int .i64 N, .slice pu T.length cu, .slice pr N cr'] 25, .cells #[.int .i64 tm, .int .i64 hm] 33] w2
  have hB2 := hB.trans (hE.mono hB.size)
  have HC := Lib.hid (show Blk ((w2.alloc (.cells #[.int .i64 N, .slice pu T.length cu, .slice pr N cr'] 25)).alloc (.cells #[.int .i64 tm, .int .i64 hm] 33)) w2.heap.size (.cells #[.int .i64 N, .slice pu T.length cu, .slice pr N cr'] 25) from allocs_at [.cells #[.int .i64 N, .slice pu T.length cu, .slice pr N cr'] 25, .cells #[.int .i64 tm, .int .i64 hm] 33] w2 0 _ rfl)
  have HS := Lib.hid (show Blk ((w2.alloc (.cells #[.int .i64 N, .slice pu T.length cu, .slice pr N cr'] 25)).alloc (.cells #[.int .i64 tm, .int .i64 hm] 33)) (w2.heap.size + 1) (.cells #[.int .i64 tm, .int .i64 hm] 33) from allocs_at [.cells #[.int .i64 N, .slice pu T.length cu, .slice pr N cr'] 25, .cells #[.int .i64 tm, .int .i64 hm] 33] w2 1 _ rfl)
  have HUX := Lib.hid (HUX.out.grow hE)
  have HX := Lib.hid (HX.out.grow hE)
  have HR := Lib.hid (HR.out.grow hE)
  have HOW := Lib.hid (own_keptN HOW.out hE)
  have HQ := Lib.hid (HQ.out.grow hB2)
  have HB1 := Lib.hid (HB1.out.grow hB2)
  have HB2 := Lib.hid (HB2.out.grow hB2)
  have HW := Lib.hid (below_then HW.out hB2)
  clear hB hB2 hE hu hr hx htv hX hbl etm ehm h400 hon hvl hout hn6
  go_wp2_with (fail)
  generalize hWc : World.alloc (World.alloc w2 _) _ = W5 at *
  clear hWc
  clear HQ HOW
  have hXN : (X.length : Int) = N := by rw [HXL.out]
  obtain ⟨r, er⟩ : ∃ r, encR (imgT T O tm hm X) X = r := ⟨_, rfl⟩
  have c0 := heapN_cellj HC.out (k := 0) rfl
  have c1 := heapN_cellj HC.out (k := 1) rfl
  have c2 := heapN_cellj HC.out (k := 2) rfl
  have s0 := heapN_cellj HS.out (k := 0) rfl
  have s1 := heapN_cellj HS.out (k := 1) rfl
  cases r with
  | none =>
    have KE := Lib.hid (fun w a b c => encl_no N tm hm (.slice pu T.length cu) (.slice pr N cr') (.slice pb N cb) T O X w a b c HTV.out hXN HVX.out htm.1 htm.2 (by omega) (by omega) er)
    clear er hXN
    go_wp2_with (fail)
    refine (KE.out _ HUX.out HR.out HX.out).mono ?_
    rintro e w3 ⟨pd, cd, rfl, hB⟩
    have HW := Lib.hid (below_then HW.out hB)
    clear hB
    go_wp2_with (fail)
    go_ret
    exact ⟨rfl, HW.out⟩
  | some d =>
    obtain ⟨hdl, hdv, hdb, him, hxd⟩ := encl_facts HTV.out hXN HVX.out htm.1 htm.2 (by omega) (by omega) er
    have KE := Lib.hid (fun w a b c => encl_yes N tm hm (.slice pu T.length cu) (.slice pr N cr') (.slice pb N cb) T O X d w a b c HTV.out hXN HVX.out htm.1 htm.2 (by omega) (by omega) er)
    obtain ⟨F, eF⟩ : ∃ F, outV (evL d (tm, tm + hm) T) O = F := ⟨_, rfl⟩
    obtain ⟨_, _, _, hon, hvl, _⟩ := tv_cases HTV.out
    have hFl : F.length = N := by rw [← eF, out_len]; omega
    have hFv : ∀ p ∈ F, VI p.1 p.2 := by rw [← eF]; exact out_vi (evL_vi hdv (time_vi htm.1 htm.2 (by omega) (by omega)) hvl)
    have KV := Lib.hid (fun (vd : Value) w a b c => eval_at N (.slice pu T.length cu) (.slice pr N cr') vd tm (tm + hm) T O d F w a b c (by rw [hdl]; exact hXN) HTV.out hdv (time_vi htm.1 htm.2 (by omega) (by omega)) eF)
    have HIM := Lib.hid (fun (k : Nat) (x f q : Int × Int) (h1 : X[k]? = some x) (h2 : F[k]? = some f) (h3 : d[k]? = some q) => (show SbI (imgP hm x f) q ∧ ¬ Ent (imgP hm x f).1 (imgP hm x f).2 from by
      have ha : (imgT T O tm hm X d)[k]? = some (imgP hm x f) := by
        have := imgL_at (H := hm) h1 h2
        rw [← eF] at this
        exact this
      obtain ⟨_, _, hs⟩ := him.2 k _ _ ha h3
      refine ⟨hs, fun he => ?_⟩
      have hb := bnd_sub him hdb
      unfold bndB at hb
      rw [Bool.not_eq_true', List.any_eq_false] at hb
      exact hb _ (List.mem_of_getElem? ha) ((entB_iff _).2 he)))
    have KNW := Lib.hid (fun w => new_at tm (tm + hm) (by unfold Num; omega) (by unfold Num; omega) w)
    have U1 : IntKind.i64.wrap (tm + hm) = tm + hm := wrapI _ (by omega) (by omega)
    have HDL := Lib.hid (hdl.trans HXL.out)
    have HFL := Lib.hid hFl
    have HFV := Lib.hid hFv
    have HHM := Lib.hid hhm
    have HDV := Lib.hid hdv
    rw [HXL.out] at KE
    clear er hXN hdv hdb him hxd htm hhm hdl eF hon hvl hFl hFv
    go_wp2_with (fail)
    refine (KE.out _ HUX.out HR.out HX.out).mono ?_
    rintro e w3 ⟨pd, cd, rfl, hv, hB⟩
    have HB1 := Lib.hid (HB1.out.grow hB)
    have HB2 := Lib.hid (HB2.out.grow hB)
    have HC := Lib.hid (HC.out.grow hB)
    have HS := Lib.hid (HS.out.grow hB)
    have HUX := Lib.hid (HUX.out.grow hB)
    have HX := Lib.hid (HX.out.grow hB)
    have HR := Lib.hid (HR.out.grow hB)
    have HW := Lib.hid (below_then HW.out hB)
    clear hB
    have VD := Lib.hid hv
    clear hv c0 c1 c2 s0 s1 KE
    have c0 := heapN_cellj HC.out (k := 0) rfl
    go_wp2_with (fail)
    clear c0
    have c0 := fun g : Grown w3 => heapN_cellj (HC.out.grow g.h) (k := 0) rfl
    have c1 := fun g : Grown w3 => heapN_cellj (HC.out.grow g.h) (k := 1) rfl
    have c2 := fun g : Grown w3 => heapN_cellj (HC.out.grow g.h) (k := 2) rfl
    have s0 := fun g : Grown w3 => heapN_cellj (HS.out.grow g.h) (k := 0) rfl
    have s1 := fun g : Grown w3 => heapN_cellj (HS.out.grow g.h) (k := 1) rfl
    refine region_pred (lk [(41, fun z_ _ => z_ = .agg #[.int .i64 N, .slice pu T.length cu, .slice pr N cr']), (42, fun z_ _ => z_ = .slice pd N cd), (43, fun z_ _ => z_ = .pointer (some ⟨w2.heap.size + 1, 0, none⟩)), (44, fun z_ _ => z_ = .int .i64 tm), (45, fun z_ _ => z_ = .pointer (some ⟨w2.heap.size + 1, 0, none⟩)), (46, fun z_ _ => z_ = .int .i64 tm), (47, fun z_ _ => z_ = .pointer (some ⟨w2.heap.size + 1, 1, none⟩)), (48, fun z_ _ => z_ = .int .i64 hm), (49, fun z_ _ => z_ = .int .i64 (tm + hm)), (50, fun z_ _ => z_ = .agg #[.int .i64 tm, .int .i64 (tm + hm)]), (51, fun z_ w' => Vx w' z_ F), (13, fun z_ w' => Vx w' z_ F)]) (by kernel_rfl) (by kernel_rfl) (lk_steady _ ⟨steady_eq _, steady_eq _, steady_eq _, steady_eq _, steady_eq _, steady_eq _, steady_eq _, steady_eq _, steady_eq _, steady_eq _, fun u w1 w2 hb h => h.grow hb, fun u w1 w2 hb h => h.grow hb, trivial⟩) ?_ ?_
    · refine ⟨?_, ?_, ?_, ?_, ?_, ?_, ?_, ?_, ?_, ?_, ?_, ?_, trivial⟩
      · refine ob_plain [8] rfl rfl fun aa g h => ?_
        have yy0 := seen_out (v := .pointer (some ⟨w2.heap.size, 0, none⟩)) rfl rfl h.1
        have ee0 := getD_of yy0
        exact tupon_value (v := .agg #[.int .i64 N, .slice pu T.length cu, .slice pr N cr']) (by simp [go_sem, ee0, yy0, c0 g, c1 g, c2 g]) (Below.refl _ _) rfl
      · refine ob_plain [11] rfl rfl fun aa g h => ?_
        have yy0 := seen_out (v := .slice pd N cd) rfl rfl h.1
        have ee0 := getD_of yy0
        exact tupon_value (v := .slice pd N cd) (by simp [go_sem, ee0, yy0]) (Below.refl _ _) rfl
      · refine ob_plain [10] rfl rfl fun aa g h => ?_
        have yy0 := seen_out (v := .pointer (some ⟨w2.heap.size + 1, 0, none⟩)) rfl rfl h.1
        have ee0 := getD_of yy0
        exact tupon_value (v := .pointer (some ⟨w2.heap.size + 1, 0, none⟩)) (by simp [go_sem, ee0, yy0]) (Below.refl _ _) rfl
      · refine ob_plain [43] rfl rfl fun aa g h => ?_
        obtain ⟨_, yy0, rfl⟩ := seen_in rfl h.1
        have ee0 := getD_of yy0
        exact tupon_value (v := .int .i64 tm) (by simp [go_sem, ee0, yy0, s0 g]) (Below.refl _ _) rfl
      · refine ob_plain [10] rfl rfl fun aa g h => ?_
        have yy0 := seen_out (v := .pointer (some ⟨w2.heap.size + 1, 0, none⟩)) rfl rfl h.1
        have ee0 := getD_of yy0
        exact tupon_value (v := .pointer (some ⟨w2.heap.size + 1, 0, none⟩)) (by simp [go_sem, ee0, yy0]) (Below.refl _ _) rfl
      · refine ob_plain [45] rfl rfl fun aa g h => ?_
        obtain ⟨_, yy0, rfl⟩ := seen_in rfl h.1
        have ee0 := getD_of yy0
        exact tupon_value (v := .int .i64 tm) (by simp [go_sem, ee0, yy0, s0 g]) (Below.refl _ _) rfl
      · refine ob_plain [10] rfl rfl fun aa g h => ?_
        have yy0 := seen_out (v := .pointer (some ⟨w2.heap.size + 1, 0, none⟩)) rfl rfl h.1
        have ee0 := getD_of yy0
        exact tupon_value (v := .pointer (some ⟨w2.heap.size + 1, 1, none⟩)) (by simp [go_sem, ee0, yy0]) (Below.refl _ _) rfl
      · refine ob_plain [47] rfl rfl fun aa g h => ?_
        obtain ⟨_, yy0, rfl⟩ := seen_in rfl h.1
        have ee0 := getD_of yy0
        exact tupon_value (v := .int .i64 hm) (by simp [go_sem, ee0, yy0, s1 g]) (Below.refl _ _) rfl
      · refine ob_plain [46, 48] rfl rfl fun aa g h => ?_
        obtain ⟨_, yy0, rfl⟩ := seen_in rfl h.1
        have ee0 := getD_of yy0
        obtain ⟨_, yy1, rfl⟩ := seen_in rfl h.2.1
        have ee1 := getD_of yy1
        exact tupon_value (v := .int .i64 (tm + hm)) (by simp [go_sem, ee0, yy0, ee1, yy1, U1]) (Below.refl _ _) rfl
      · refine ob_plain [44, 49] rfl rfl fun aa g h => ?_
        obtain ⟨_, yy0, rfl⟩ := seen_in rfl h.1
        have ee0 := getD_of yy0
        obtain ⟨_, yy1, rfl⟩ := seen_in rfl h.2.1
        have ee1 := getD_of yy1
        refine tupon_enter (f := 27) (args := #[.int .i64 tm, .int .i64 (tm + hm)]) (by simp [go_sem, ee0, yy0, ee1, yy1]) rfl ?_
        exact (KNW.out g.w).mono fun e w' ⟨he, hB⟩ => ⟨_, he, hB, rfl⟩
      · refine ob_plain [41, 42, 50] rfl rfl fun aa g h => ?_
        obtain ⟨_, yy0, rfl⟩ := seen_in rfl h.1
        have ee0 := getD_of yy0
        obtain ⟨_, yy1, rfl⟩ := seen_in rfl h.2.1
        have ee1 := getD_of yy1
        obtain ⟨_, yy2, rfl⟩ := seen_in rfl h.2.2.1
        have ee2 := getD_of yy2
        refine tupon_enter (f := 26) (args := #[.agg #[.int .i64 N, .slice pu T.length cu, .slice pr N cr'], .slice pd N cd, .agg #[.int .i64 tm, .int .i64 (tm + hm)]]) (by simp [go_sem, ee0, yy0, ee1, yy1, ee2, yy2]) rfl ?_
        exact (KV.out _ g.w (HUX.out.grow g.h) (HR.out.grow g.h) (VD.out.grow g.h)).mono fun e w' ⟨u9, he, hv, hB⟩ => ⟨_, he, hB, hv⟩
      · refine ob_plain [51] rfl rfl fun aa g h => ?_
        obtain ⟨z51, yy0, hv51⟩ := seen_in rfl h.1
        have ee0 := getD_of yy0
        exact tupon_value (v := z51) (by simp [go_sem, ee0, yy0]) (Below.refl _ _) hv51
    rintro w4 hB _ rfl _ rfl _ rfl _ rfl _ rfl _ rfl _ rfl _ rfl _ rfl _ rfl z51 hv51 z13 hv13
    simp only [Act.put, List.setIfInBounds_toArray, List.set_cons_succ, List.set_cons_zero, List.filterMap_nil, finP]
    have HB1 := Lib.hid (HB1.out.grow hB)
    have HB2 := Lib.hid (HB2.out.grow hB)
    have HC := Lib.hid (HC.out.grow hB)
    have HS := Lib.hid (HS.out.grow hB)
    have HUX := Lib.hid (HUX.out.grow hB)
    have HX := Lib.hid (HX.out.grow hB)
    have HR := Lib.hid (HR.out.grow hB)
    have VD := Lib.hid (VD.out.grow hB)
    have HW := Lib.hid (below_then HW.out hB)
    clear hB
    clear c0 c1 c2 s0 s1 hv51 U1 KV KNW
    obtain ⟨pf, cf, rfl⟩ := hv13.cut
    rw [HFL.out] at hv13 ⊢
    have VF := Lib.hid hv13
    clear hv13
    have c0 := heapN_cellj HC.out (k := 0) rfl
    go_wp2_with (fail)
    go_loopw [14] (fun i wr => ∃ k : Nat, i = .int .i64 k ∧ k ≤ N ∧ Hid (Below w4.heap.size w4 wr)) (fun i _ => N - (intOf i).toNat)
    case atStart => exact ⟨0, rfl, Nat.zero_le _, Lib.hid (Below.refl _ _)⟩
    case round =>
      clear c0
      obtain ⟨k, rfl, hk, HB⟩ := hrel
      have c0 := heapN_cellj (HC.out.grow HB.out) (k := 0) rfl
      by_cases hlt : k < N
      · have i2 : (k : Int) < N := by omega
        have i6 : (k : Int) < 6 := by omega
        obtain ⟨⟨xl, xh⟩, hx⟩ : ∃ x, X[k]? = some x := ⟨_, List.getElem?_eq_getElem (by rw [HXL.out]; exact hlt)⟩
        obtain ⟨⟨c, e⟩, hf⟩ : ∃ x, F[k]? = some x := ⟨_, List.getElem?_eq_getElem (by rw [HFL.out]; exact hlt)⟩
        obtain ⟨⟨dl, dh⟩, hd⟩ : ∃ x, d[k]? = some x := ⟨_, List.getElem?_eq_getElem (by rw [HDL.out]; exact hlt)⟩
        obtain ⟨hx1, hx2, hx3⟩ := HBD.out _ (List.mem_of_getElem? hx)
        dsimp only at hx1 hx2 hx3
        obtain ⟨hsb, hne⟩ := HIM.out k _ _ _ hx hf hd
        have hfne := imgP_ne hne
        have hfv := HFV.out _ (List.mem_of_getElem? hf)
        dsimp only at hfv hfne
        obtain ⟨hc1, he1, hce⟩ := hfv.resolve_left hfne
        have hdb := (HDV.out _ (List.mem_of_getElem? hd)).bd
        dsimp only at hdb
        have X1 : IntKind.i64.wrap (dl * 65536) = dl * 65536 := wrapI _ (by omega) (by omega)
        have X2 : IntKind.i64.wrap (dh * 65536) = dh * 65536 := wrapI _ (by omega) (by omega)
        have hq := u32_bd HK.out k
        have y1 := fun g : Grown wr => u32_at ((HB1.out.grow HB.out).grow g.h) (k := k) (by omega)
        obtain ⟨q, eq⟩ : ∃ q, [k0, k1, k2, k3, k4, k5].getD k 0 = q := ⟨_, rfl⟩
        rw [eq] at hq y1
        have hin := pickI_in (a := xl) (b := xh) (x := q) hx2
        have KP := Lib.hid (fun w => pick_ok xl xh q w (by unfold Num; omega) (by unfold Num; omega) hx2 hq.1 hq.2)
        obtain ⟨s, es⟩ : ∃ s, pickI xl xh q = s := ⟨_, rfl⟩
        rw [es] at KP hin
        have U1 : IntKind.i64.wrap (s * 65536) = s * 65536 := wrapI _ (by omega) (by omega)
        have HP0 := Lib.hid (show Pth hm xl xh c e (s * 65536) hm from ⟨by have := HHM.out; omega, Int.le_refl _, by rw [Int.sub_self, Int.mul_zero]; omega, by rw [Int.sub_self, Int.mul_zero]; omega⟩)
        have PIN := Lib.hid (fun (a l : Int) (h : Pth hm xl xh c e a l) => h.in (by have := HHM.out; omega) (.inr ⟨by unfold Num; omega, by unfold Num; omega, hx2⟩) hne hsb)
        have PBD := Lib.hid (fun (a l : Int) (h : Pth hm xl xh c e a l) => h.bd HHM.out.2 (by omega) (by omega) hc1.1 he1.2)
        have KP2 := Lib.hid (fun (y : Int) (h : 0 ≤ y ∧ y ≤ 4294967295) w => pick_ok c e y w hc1 he1 hce h.1 h.2)
        have HCE := Lib.hid hce
        obtain ⟨bx, ox, hpx, hbx, rdx⟩ := vx_rd (n := N) HX.out hx
        obtain ⟨bf, of, hpf, hbf, rdf⟩ := vx_rd (n := N) VF.out hf
        obtain ⟨bd, od, hpd, hbd, rdd⟩ := vx_rd (n := N) VD.out hd
        subst hpx hpf hpd
        have f0 := fun g : Grown wr => (rdx ⟨g.w, HB.out.trans (g.h.mono HB.out.size)⟩).1
        have f1 := fun g : Grown wr => (rdx ⟨g.w, HB.out.trans (g.h.mono HB.out.size)⟩).2
        have s1 := fun g : Grown wr => heapN_cellj ((HS.out.grow HB.out).grow g.h) (k := 1) rfl
        have RDF := Lib.hid rdf
        have RDD := Lib.hid rdd
        clear rdx rdf rdd hx hf hd hq eq hin es hx1 hx2 hx3 hsb hne hfne hfv hc1 he1 hce hdb
        go_wp2_with (fail)
        refine region_pred (lk [(63, fun z_ _ => z_ = .slice (some ⟨bx, ox, none⟩) N cb), (64, fun z_ _ => z_ = .int .i64 (k : Int)), (65, fun z_ _ => z_ = .pointer (some ⟨bx, ox + k * 2, none⟩)), (66, fun z_ _ => z_ = .agg #[.int .i64 xl, .int .i64 xh]), (67, fun z_ _ => z_ = .int .i64 (k : Int)), (68, fun z_ _ => z_ = .pointer (some ⟨w.heap.size + 1, k, none⟩)), (69, fun z_ _ => z_ = .int .u32 q), (70, fun z_ _ => z_ = .int .i64 s), (71, fun z_ _ => z_ = .int .i64 (s * 65536)), (72, fun z_ _ => z_ = .pointer (some ⟨w2.heap.size + 1, 1, none⟩)), (73, fun z_ _ => z_ = .int .i64 hm), (15, fun z_ _ => z_ = .int .i64 (s * 65536)), (16, fun z_ _ => z_ = .int .i64 hm)]) (by kernel_rfl) (by kernel_rfl) (lk_steady _ ⟨steady_eq _, steady_eq _, steady_eq _, steady_eq _, steady_eq _, steady_eq _, steady_eq _, steady_eq _, steady_eq _, steady_eq _, steady_eq _, steady_eq _, steady_eq _, trivial⟩) ?_ ?_
        · refine ⟨?_, ?_, ?_, ?_, ?_, ?_, ?_, ?_, ?_, ?_, ?_, ?_, ?_, trivial⟩
          · refine ob_plain [9] rfl rfl fun aa g h => ?_
            have yy0 := seen_out (v := .slice (some ⟨bx, ox, none⟩) N cb) rfl rfl h.1
            have ee0 := getD_of yy0
            exact tupon_value (v := .slice (some ⟨bx, ox, none⟩) N cb) (by simp [go_sem, ee0, yy0]) (Below.refl _ _) rfl
          · refine ob_plain [14] rfl rfl fun aa g h => ?_
            have yy0 := seen_out (v := .int .i64 (k : Int)) rfl rfl h.1
            have ee0 := getD_of yy0
            exact tupon_value (v := .int .i64 (k : Int)) (by simp [go_sem, ee0, yy0]) (Below.refl _ _) rfl
          · refine ob_plain [63, 64] rfl rfl fun aa g h => ?_
            obtain ⟨_, yy0, rfl⟩ := seen_in rfl h.1
            have ee0 := getD_of yy0
            obtain ⟨_, yy1, rfl⟩ := seen_in rfl h.2.1
            have ee1 := getD_of yy1
            exact tupon_value (v := .pointer (some ⟨bx, ox + k * 2, none⟩)) (by simp [go_sem, ee0, yy0, ee1, yy1, i2]) (Below.refl _ _) rfl
          · refine ob_plain [65] rfl rfl fun aa g h => ?_
            obtain ⟨_, yy0, rfl⟩ := seen_in rfl h.1
            have ee0 := getD_of yy0
            exact tupon_value (v := .agg #[.int .i64 xl, .int .i64 xh]) (by simp [go_sem, ee0, yy0, f0 g, f1 g]) (Below.refl _ _) rfl
          · refine ob_plain [14] rfl rfl fun aa g h => ?_
            have yy0 := seen_out (v := .int .i64 (k : Int)) rfl rfl h.1
            have ee0 := getD_of yy0
            exact tupon_value (v := .int .i64 (k : Int)) (by simp [go_sem, ee0, yy0]) (Below.refl _ _) rfl
          · refine ob_plain [4, 67] rfl rfl fun aa g h => ?_
            have yy0 := seen_out (v := .pointer (some ⟨w.heap.size + 1, 0, none⟩)) rfl rfl h.1
            have ee0 := getD_of yy0
            obtain ⟨_, yy1, rfl⟩ := seen_in rfl h.2.1
            have ee1 := getD_of yy1
            exact tupon_value (v := .pointer (some ⟨w.heap.size + 1, k, none⟩)) (by simp [go_sem, ee0, yy0, ee1, yy1, i6]) (Below.refl _ _) rfl
          · refine ob_plain [68] rfl rfl fun aa g h => ?_
            obtain ⟨_, yy0, rfl⟩ := seen_in rfl h.1
            have ee0 := getD_of yy0
            exact tupon_value (v := .int .u32 q) (by simp [go_sem, ee0, yy0, y1 g]) (Below.refl _ _) rfl
          · refine ob_plain [66, 69] rfl rfl fun aa g h => ?_
            obtain ⟨_, yy0, rfl⟩ := seen_in rfl h.1
            have ee0 := getD_of yy0
            obtain ⟨_, yy1, rfl⟩ := seen_in rfl h.2.1
            have ee1 := getD_of yy1
            refine tupon_enter (f := 25) (args := #[.agg #[.int .i64 xl, .int .i64 xh], .int .u32 q]) (by simp [go_sem, ee0, yy0, ee1, yy1]) rfl ?_
            exact (KP.out g.w).mono fun e w' ⟨he, hB⟩ => ⟨_, he, hB, rfl⟩
          · refine ob_plain [70] rfl rfl fun aa g h => ?_
            obtain ⟨_, yy0, rfl⟩ := seen_in rfl h.1
            have ee0 := getD_of yy0
            exact tupon_value (v := .int .i64 (s * 65536)) (by simp [go_sem, ee0, yy0, U1]) (Below.refl _ _) rfl
          · refine ob_plain [10] rfl rfl fun aa g h => ?_
            have yy0 := seen_out (v := .pointer (some ⟨w2.heap.size + 1, 0, none⟩)) rfl rfl h.1
            have ee0 := getD_of yy0
            exact tupon_value (v := .pointer (some ⟨w2.heap.size + 1, 1, none⟩)) (by simp [go_sem, ee0, yy0]) (Below.refl _ _) rfl
          · refine ob_plain [72] rfl rfl fun aa g h => ?_
            obtain ⟨_, yy0, rfl⟩ := seen_in rfl h.1
            have ee0 := getD_of yy0
            exact tupon_value (v := .int .i64 hm) (by simp [go_sem, ee0, yy0, s1 g]) (Below.refl _ _) rfl
          · refine ob_plain [71] rfl rfl fun aa g h => ?_
            obtain ⟨_, yy0, rfl⟩ := seen_in rfl h.1
            have ee0 := getD_of yy0
            exact tupon_value (v := .int .i64 (s * 65536)) (by simp [go_sem, ee0, yy0]) (Below.refl _ _) rfl
          · refine ob_plain [73] rfl rfl fun aa g h => ?_
            obtain ⟨_, yy0, rfl⟩ := seen_in rfl h.1
            have ee0 := getD_of yy0
            exact tupon_value (v := .int .i64 hm) (by simp [go_sem, ee0, yy0]) (Below.refl _ _) rfl
        rintro w5 hB _ rfl _ rfl _ rfl _ rfl _ rfl _ rfl _ rfl _ rfl _ rfl _ rfl _ rfl _ rfl _ rfl
        simp only [Act.put, List.setIfInBounds_toArray, List.set_cons_succ, List.set_cons_zero, List.filterMap_nil, finP]
        have HB5 := Lib.hid (HB.out.trans (hB.mono HB.out.size))
        clear hB f0 f1 y1 s1 KP U1 HB c0
        go_wp2_with (fail)
        go_loopw [15, 16, 17] (fun a l i wr => ∃ (m : Nat) (at' lf : Int), a = .int .i64 at' ∧ l = .int .i64 lf ∧ i = .int .i64 m ∧ m ≤ 6 ∧ Hid (Pth hm xl xh c e at' lf) ∧ Hid (Below w4.heap.size w4 wr)) (fun _ _ i _ => 6 - (intOf i).toNat)
        case atStart => exact ⟨0, _, _, rfl, rfl, rfl, Nat.zero_le _, HP0, HB5⟩
        case round =>
          clear HP0 HB5
          obtain ⟨m, at', lf, rfl, rfl, rfl, hm6, HP, HB⟩ := hrel
          by_cases hmt : m < 6
          · have i3 : (m : Int) < 6 := by omega
            have hp0 := HP.out.l0
            have hp1 := HP.out.l1
            have hhm := HHM.out
            have hL1 := u32_bd HL12.out (m * 2)
            have hL2 := u32_bd HL12.out (m * 2 + 1)
            have z1 := u12_at (HB2.out.grow HB.out) (j := m * 2) (by omega)
            have z2 := fun g : Grown wr => u12_at ((HB2.out.grow HB.out).grow g.h) (j := m * 2 + 1) (by omega)
            obtain ⟨u, eu⟩ : ∃ q, [l0, l1, l2, l3, l4, l5, l6, l7, l8, l9, l10, l11].getD (m * 2) 0 = q := ⟨_, rfl⟩
            obtain ⟨v, ev⟩ : ∃ q, [l0, l1, l2, l3, l4, l5, l6, l7, l8, l9, l10, l11].getD (m * 2 + 1) 0 = q := ⟨_, rfl⟩
            rw [eu] at hL1 z1
            rw [ev] at hL2 z2
            have W1 : IntKind.i64.wrap u = u := wrapI _ (by omega) (by omega)
            have W2 : IntKind.i64.wrap (lf + 1) = lf + 1 := wrapI _ (by omega) (by omega)
            have hd0 : ¬ lf + 1 = 0 := by omega
            have t1 : u.tmod (lf + 1) = u % (lf + 1) := Int.tmod_eq_emod_of_nonneg hL1.1
            have n1 := Int.emod_nonneg u hd0
            have n2 := Int.emod_lt_of_pos u (show 0 < lf + 1 by omega)
            obtain ⟨s', es⟩ : ∃ s, u % (lf + 1) = s := ⟨_, rfl⟩
            rw [es] at t1 n1 n2
            have W3 : IntKind.i64.wrap s' = s' := wrapI _ (by omega) (by omega)
            have W4 : IntKind.i64.wrap (lf - s') = lf - s' := wrapI _ (by omega) (by omega)
            have W5 : IntKind.u32.wrap (k : Int) = (k : Int) := by rw [wrap_u32]; omega
            obtain ⟨y, ey⟩ : ∃ y, IntKind.u32.wrap (v + (k : Int)) = y := ⟨_, rfl⟩
            have hy : 0 ≤ y ∧ y ≤ 4294967295 := by rw [← ey, wrap_u32]; omega
            have KQ := Lib.hid (fun w => KP2.out y hy w)
            have hin := pickI_in (a := c) (b := e) (x := y) HCE.out
            obtain ⟨x, ex⟩ : ∃ x, pickI c e y = x := ⟨_, rfl⟩
            rw [ex] at KQ hin
            have hgo := HP.out.go n1 (by omega) hin.1 hin.2
            have hbd := PBD.out _ _ hgo
            have hbd0 := PBD.out _ _ HP.out
            obtain ⟨i1, i4⟩ := PIN.out _ _ hgo
            have HGO := Lib.hid hgo
            have W6 : IntKind.i64.wrap (s' * x) = s' * x := wrapI _ (by omega) (by omega)
            have W7 : IntKind.i64.wrap (at' + s' * x) = at' + s' * x := wrapI _ (by omega) (by omega)
            have j1 : ¬ at' + s' * x < dl * 65536 := by omega
            have j2 : ¬ dh * 65536 < at' + s' * x := by omega
            have g0 := fun g : Grown wr => (RDF.out ⟨g.w, HB.out.trans (g.h.mono HB.out.size)⟩).1
            have g1 := fun g : Grown wr => (RDF.out ⟨g.w, HB.out.trans (g.h.mono HB.out.size)⟩).2
            clear hp0 hp1 hhm hL1 hL2 eu ev n1 n2 es hy hin ex hgo hbd hbd0 i1 i4
            go_wp2_with (fail)
            clear z1 W1 W2 hd0 t1 W3 W4
            refine region_pred_n 16 (lk [(89, fun z_ _ => z_ = .int .i64 at'), (90, fun z_ _ => z_ = .int .i64 s'), (91, fun z_ _ => z_ = .slice (some ⟨bf, of, none⟩) N cf), (92, fun z_ _ => z_ = .int .i64 (k : Int)), (93, fun z_ _ => z_ = .pointer (some ⟨bf, of + k * 2, none⟩)), (94, fun z_ _ => z_ = .agg #[.int .i64 c, .int .i64 e]), (95, fun z_ _ => z_ = .int .i64 (m : Int)), (96, fun z_ _ => z_ = .pointer (some ⟨w.heap.size + 1 + 1, m * 2, none⟩)), (97, fun z_ _ => z_ = .pointer (some ⟨w.heap.size + 1 + 1, m * 2 + 1, none⟩)), (98, fun z_ _ => z_ = .int .u32 v), (99, fun z_ _ => z_ = .int .i64 (k : Int)), (100, fun z_ _ => z_ = .int .u32 (k : Int)), (101, fun z_ _ => z_ = .int .u32 y), (102, fun z_ _ => z_ = .int .i64 x), (103, fun z_ _ => z_ = .int .i64 (s' * x)), (104, fun z_ _ => z_ = .int .i64 (at' + s' * x))]) (by kernel_rfl) (by kernel_rfl) (lk_steady _ ⟨steady_eq _, steady_eq _, steady_eq _, steady_eq _, steady_eq _, steady_eq _, steady_eq _, steady_eq _, steady_eq _, steady_eq _, steady_eq _, steady_eq _, steady_eq _, steady_eq _, steady_eq _, steady_eq _, trivial⟩) ?_ ?_
            · refine ⟨?_, ?_, ?_, ?_, ?_, ?_, ?_, ?_, ?_, ?_, ?_, ?_, ?_, ?_, ?_, ?_, trivial⟩
              · refine ob_plain [15] rfl rfl fun aa g h => ?_
                have yy0 := seen_out (v := .int .i64 at') rfl rfl h.1
                have ee0 := getD_of yy0
                exact tupon_value (v := .int .i64 at') (by simp [go_sem, ee0, yy0]) (Below.refl _ _) rfl
              · refine ob_plain [18] rfl rfl fun aa g h => ?_
                have yy0 := seen_out (v := .int .i64 s') rfl rfl h.1
                have ee0 := getD_of yy0
                exact tupon_value (v := .int .i64 s') (by simp [go_sem, ee0, yy0]) (Below.refl _ _) rfl
              · refine ob_plain [13] rfl rfl fun aa g h => ?_
                have yy0 := seen_out (v := .slice (some ⟨bf, of, none⟩) N cf) rfl rfl h.1
                have ee0 := getD_of yy0
                exact tupon_value (v := .slice (some ⟨bf, of, none⟩) N cf) (by simp [go_sem, ee0, yy0]) (Below.refl _ _) rfl
              · refine ob_plain [14] rfl rfl fun aa g h => ?_
                have yy0 := seen_out (v := .int .i64 (k : Int)) rfl rfl h.1
                have ee0 := getD_of yy0
                exact tupon_value (v := .int .i64 (k : Int)) (by simp [go_sem, ee0, yy0]) (Below.refl _ _) rfl
              · refine ob_plain [91, 92] rfl rfl fun aa g h => ?_
                obtain ⟨_, yy0, rfl⟩ := seen_in rfl h.1
                have ee0 := getD_of yy0
                obtain ⟨_, yy1, rfl⟩ := seen_in rfl h.2.1
                have ee1 := getD_of yy1
                exact tupon_value (v := .pointer (some ⟨bf, of + k * 2, none⟩)) (by simp [go_sem, ee0, yy0, ee1, yy1, i2]) (Below.refl _ _) rfl
              · refine ob_plain [93] rfl rfl fun aa g h => ?_
                obtain ⟨_, yy0, rfl⟩ := seen_in rfl h.1
                have ee0 := getD_of yy0
                exact tupon_value (v := .agg #[.int .i64 c, .int .i64 e]) (by simp [go_sem, ee0, yy0, g0 g, g1 g]) (Below.refl _ _) rfl
              · refine ob_plain [17] rfl rfl fun aa g h => ?_
                have yy0 := seen_out (v := .int .i64 (m : Int)) rfl rfl h.1
                have ee0 := getD_of yy0
                exact tupon_value (v := .int .i64 (m : Int)) (by simp [go_sem, ee0, yy0]) (Below.refl _ _) rfl
              · refine ob_plain [5, 95] rfl rfl fun aa g h => ?_
                have yy0 := seen_out (v := .pointer (some ⟨w.heap.size + 1 + 1, 0, none⟩)) rfl rfl h.1
                have ee0 := getD_of yy0
                obtain ⟨_, yy1, rfl⟩ := seen_in rfl h.2.1
                have ee1 := getD_of yy1
                exact tupon_value (v := .pointer (some ⟨w.heap.size + 1 + 1, m * 2, none⟩)) (by simp [go_sem, ee0, yy0, ee1, yy1, i3]) (Below.refl _ _) rfl
              · refine ob_plain [96] rfl rfl fun aa g h => ?_
                obtain ⟨_, yy0, rfl⟩ := seen_in rfl h.1
                have ee0 := getD_of yy0
                exact tupon_value (v := .pointer (some ⟨w.heap.size + 1 + 1, m * 2 + 1, none⟩)) (by simp [go_sem, ee0, yy0]) (Below.refl _ _) rfl
              · refine ob_plain [97] rfl rfl fun aa g h => ?_
                obtain ⟨_, yy0, rfl⟩ := seen_in rfl h.1
                have ee0 := getD_of yy0
                exact tupon_value (v := .int .u32 v) (by simp [go_sem, ee0, yy0, z2 g]) (Below.refl _ _) rfl
              · refine ob_plain [14] rfl rfl fun aa g h => ?_
                have yy0 := seen_out (v := .int .i64 (k : Int)) rfl rfl h.1
                have ee0 := getD_of yy0
                exact tupon_value (v := .int .i64 (k : Int)) (by simp [go_sem, ee0, yy0]) (Below.refl _ _) rfl
              · refine ob_plain [99] rfl rfl fun aa g h => ?_
                obtain ⟨_, yy0, rfl⟩ := seen_in rfl h.1
                have ee0 := getD_of yy0
                exact tupon_value (v := .int .u32 (k : Int)) (by simp [go_sem, ee0, yy0, W5]) (Below.refl _ _) rfl
              · refine ob_plain [98, 100] rfl rfl fun aa g h => ?_
                obtain ⟨_, yy0, rfl⟩ := seen_in rfl h.1
                have ee0 := getD_of yy0
                obtain ⟨_, yy1, rfl⟩ := seen_in rfl h.2.1
                have ee1 := getD_of yy1
                exact tupon_value (v := .int .u32 y) (by simp [go_sem, ee0, yy0, ee1, yy1, ey]) (Below.refl _ _) rfl
              · refine ob_plain [94, 101] rfl rfl fun aa g h => ?_
                obtain ⟨_, yy0, rfl⟩ := seen_in rfl h.1
                have ee0 := getD_of yy0
                obtain ⟨_, yy1, rfl⟩ := seen_in rfl h.2.1
                have ee1 := getD_of yy1
                refine tupon_enter (f := 25) (args := #[.agg #[.int .i64 c, .int .i64 e], .int .u32 y]) (by simp [go_sem, ee0, yy0, ee1, yy1]) rfl ?_
                exact (KQ.out g.w).mono fun e w' ⟨he, hB⟩ => ⟨_, he, hB, rfl⟩
              · refine ob_plain [90, 102] rfl rfl fun aa g h => ?_
                obtain ⟨_, yy0, rfl⟩ := seen_in rfl h.1
                have ee0 := getD_of yy0
                obtain ⟨_, yy1, rfl⟩ := seen_in rfl h.2.1
                have ee1 := getD_of yy1
                exact tupon_value (v := .int .i64 (s' * x)) (by simp [go_sem, ee0, yy0, ee1, yy1, W6]) (Below.refl _ _) rfl
              · refine ob_plain [89, 103] rfl rfl fun aa g h => ?_
                obtain ⟨_, yy0, rfl⟩ := seen_in rfl h.1
                have ee0 := getD_of yy0
                obtain ⟨_, yy1, rfl⟩ := seen_in rfl h.2.1
                have ee1 := getD_of yy1
                exact tupon_value (v := .int .i64 (at' + s' * x)) (by simp [go_sem, ee0, yy0, ee1, yy1, W7]) (Below.refl _ _) rfl
            rintro w6 hB _ rfl _ rfl _ rfl _ rfl _ rfl _ rfl _ rfl _ rfl _ rfl _ rfl _ rfl _ rfl _ rfl _ rfl _ rfl _ rfl
            simp only [Act.put, List.setIfInBounds_toArray, List.set_cons_succ, List.set_cons_zero, finP, List.drop_succ_cons, List.drop_zero, List.take_zero, List.filterMap_nil]
            have HB6 := Lib.hid (HB.out.trans (hB.mono HB.out.size))
            obtain ⟨q0, q1⟩ := RDD.out ⟨w6, HB6.out⟩
            dsimp only at q0 q1
            clear hB g0 g1 z2 W5 ey KQ W6 W7 HB
            go_wp2_with (fail)
            go_roundw
            case rel => exact ⟨m + 1, _, _, rfl, rfl, by go_num, by omega, HGO, HB6⟩
            case measure => simp [intOf]; omega
          · obtain rfl : m = 6 := by omega
            have i3 : ¬ ((6 : Nat) : Int) < 6 := by decide
            go_wp2_with (fail)
            go_roundw
            case rel => exact ⟨k + 1, by go_num, by omega, HB⟩
            case measure => simp [intOf]; omega
      · obtain rfl : N = k := by omega
        have i2 : ¬ (N : Int) < N := by omega
        have HT := Lib.hid (below_then HW.out HB.out)
        go_wp2_with (fail)
        go_ret
        exact ⟨rfl, HT.out⟩
end Go.Proofs.Ytecmgiihacigaaa
