/-
  law04: MatrixInverseInclusion.
-/
import Derived.Test.YthejcoidgmaidaaGreatK4
import Derived.Test.YthejcoidgmaidaaGreatIncMath
import Derived.Test.YthejcoidgmaidaaGreatRead4
import Derived.Test.YthejcoidgmaidaaGreatRefA
import Derived.Test.YthejcoidgmaidaaGreatInvB
namespace Go.Proofs.YthejcoidgmaidaaGreat
open Go.ChangeShapes Go.WideShapes Go.ChangeAt Go.RowKit
set_option linter.unusedVariables false
set_option linter.unusedSimpArgs false
set_option maxRecDepth 100000
attribute [local irreducible] Calls

set_option maxHeartbeats 32000000 in
theorem invinc (w : World) (vA vB vC : Value) (n : Int) (la lb lc : List (Int × Int)) (hA : Bx w vA la ∧ I64 la) (hB : Bx w vB lb ∧ I64 lb) (hC : Bx w vC lc ∧ I64 lc) (hn : 0 ≤ n ∧ n < 256) (a1 : Value) (fl1 : List Int) (hF : Us w a1 fl1 ∧ U16 fl1) (a2 : Value) (fl2 : List Int) (hG : Us w a2 fl2 ∧ U16 fl2) :
    Calls Tryz.prog 4 #[.agg #[vA, vB, vC, .int .u8 n], a1, a2] w fun e w' => e = .returned (.bool true) ∧ Below w.heap.size w w' := by
  obtain ⟨hn0, hn1⟩ := hn
  have hm0 : 0 ≤ n % 4 := Int.emod_nonneg _ (by decide)
  have hm1 : n % 4 < 4 := Int.emod_lt_of_pos _ (by decide)
  obtain ⟨k, hk⟩ : ∃ k : Nat, 1 + n % 4 = (k : Int) := ⟨(1 + n % 4).toNat, by omega⟩
  have hk1 : 1 ≤ k := by omega
  have hk4 : k ≤ 4 := by omega
  have hk6 : k ≤ 6 := by omega
  have HA := Lib.hid hA
  have HB := Lib.hid hB
  have HC := Lib.hid hC
  clear hA hB hC
  have HF := Lib.hid hF
  have HG := Lib.hid hG
  clear hF hG
  go_enter Tryz.func4, Tryz.ntmps4
  go_wp2_with (fail)
  generalize hW0 : World.alloc w _ = W0
  have hT0 : Below w.heap.size w W0 := by subst hW0; exact ((Below.refl w.heap.size w).alloc (by go_size) _)
  have Y0 : w.heap.size < W0.heap.size := by subst hW0; simp <;> omega
  have F0_0 : ∀ g : Grown W0, g.w.cell? ⟨w.heap.size, 0, none⟩ = some (vA) := fun g => (g.cell Y0).trans (by subst hW0; simp [go_sem])
  have F0_1 : ∀ g : Grown W0, g.w.cell? ⟨w.heap.size, 1, none⟩ = some (vB) := fun g => (g.cell Y0).trans (by subst hW0; simp [go_sem])
  have F0_2 : ∀ g : Grown W0, g.w.cell? ⟨w.heap.size, 2, none⟩ = some (vC) := fun g => (g.cell Y0).trans (by subst hW0; simp [go_sem])
  have F0_3 : ∀ g : Grown W0, g.w.cell? ⟨w.heap.size, 3, none⟩ = some (.int .u8 n) := fun g => (g.cell Y0).trans (by subst hW0; simp [go_sem])
  clear Y0 hW0
  obtain ⟨g0, hg0⟩ : ∃ g : Grown W0, W0 = g.w := ⟨⟨W0, Below.refl _ _⟩, rfl⟩
  rw [hg0]
  refine (sanity4 _).mono ?_
  rintro e w' ⟨rfl, hB⟩
  obtain ⟨g1, rfl⟩ := grow g0 hB
  clear hB hg0
  go_wp2_with (fail)
  refine (law4small vA vB vC la lb lc n k _ ((HA.out.1.grow hT0).grow g1.h) ((HB.out.1.grow hT0).grow g1.h) ((HC.out.1.grow hT0).grow g1.h) HA.out.2 HB.out.2 HC.out.2 hn0 hn1 hk).mono ?_
  rintro e w' ⟨va, vb, vd, d, rfl, sA, sB, qdl, qdv, hd, hB⟩
  obtain ⟨A, qA, ha⟩ := smat_mx sA hk6
  have QA := Lib.hid qA
  have Qdl := Lib.hid qdl
  have Qdv := Lib.hid qdv
  clear sA sB qA qdl qdv
  obtain ⟨g2, rfl⟩ := grow g1 hB
  clear hB
  go_wp2_with (fail)
  refine (r4sample va a1 A fl1 k _ ha QA.out ((HF.out.1.grow hT0).grow g2.h) HF.out.2 hk6).mono ?_
  rintro e w' ⟨vm, P, rfl, qP1, qP2, hm, hB⟩
  obtain ⟨g3, rfl⟩ := grow g2 hB
  replace hd := hd.grow hB
  replace ha := ha.grow grows_bx hB
  clear hB
  have QP1 := Lib.hid qP1
  have QP2 := Lib.hid qP2
  clear qP1 qP2
  go_wp2_with (fail)
  refine (r3point vd a2 d fl2 _ hd ((HG.out.1.grow hT0).grow g3.h) (by rw [Qdl.out]; omega) (fun p hp => sm_vb (Qdv.out p hp)) HG.out.2).mono ?_
  rintro e w' ⟨vp, p, rfl, qp1, _, qp3, hp, hB⟩
  obtain ⟨g4, rfl⟩ := grow g3 hB
  replace hd := hd.grow hB
  replace ha := ha.grow grows_bx hB
  replace hm := hm.grow grows_pt hB
  clear hB
  rw [Qdl.out] at qp1
  have Qp1 := Lib.hid qp1
  have Qp3 := Lib.hid qp3
  clear qp1 qp3 hd
  obtain ⟨pa, ca, rfl⟩ := ha.shape QA.out.1
  obtain ⟨pp, cp, rfl⟩ := pt_shape hp Qp1.out
  go_wp2_with (fail)
  refine (inv_ok _ A k _ ha (qm_sq QA.out) hk1 hk6).mono ?_
  rintro e w' ⟨hs, hn, hB⟩
  obtain ⟨g5, rfl⟩ := grow g4 hB
  replace hp := hp.grow hB
  replace ha := ha.grow grows_bx hB
  replace hm := hm.grow grows_pt hB
  clear hB
  clear ha
  have HS := Lib.hid hs
  have HNN := Lib.hid hn
  clear hs hn
  rcases hinv : invV A k with _ | N
  · obtain rfl := HNN.out hinv
    clear hinv
    go_wp2_with (fail)
    go_ret
    exact ⟨rfl, below_then hT0 g5.h⟩
  · obtain ⟨vn, rfl, hN⟩ := HS.out N hinv
    obtain ⟨hNsq, hNE, _⟩ := inv_encl (A := fun i j => (elP P i j : Rat) / 65536) (qm_sq QA.out) (fun i j hi hj => cont_num (elP_in QA.out QP1.out QP2.out hi hj)) hinv
    obtain ⟨hPr, hPq, _⟩ := fromN_sq QA.out QP1.out QP2.out
    have hbk := fun j x y z hj hxy hz => back_ok (j := j) (x := x) (y := y) (z := z) QA.out QP1.out QP2.out Qp1.out Qp3.out hinv hj hxy hz
    have hil : (apM (P.map (List.map ptI)) (p.map ptI)).length = k := ap_len hPq
    have hiv : ∀ q ∈ apM (P.map (List.map ptI)) (p.map ptI), VB q := fun q hq => by
      unfold apM at hq
      rw [List.mem_map] at hq
      obtain ⟨_, _, rfl⟩ := hq
      exact dotI_vb _
    obtain ⟨img, himg⟩ : ∃ d, apM (P.map (List.map ptI)) (p.map ptI) = d := ⟨_, rfl⟩
    rw [himg] at hil hiv
    rw [himg] at hbk
    have hpv : ∀ q ∈ p.map ptI, VB q := fun q hq => by
      rw [List.mem_map] at hq
      obtain ⟨x, _, rfl⟩ := hq
      exact mk_vi (Int.le_refl x)
    have HNS := Lib.hid hNsq
    have HNE := Lib.hid hNE
    have HPR := Lib.hid hPr
    have HPQ := Lib.hid hPq
    have HBK := Lib.hid hbk
    have HIL := Lib.hid hil
    have HIV := Lib.hid hiv
    have HIM := Lib.hid himg
    have HPV := Lib.hid hpv
    clear hNsq hNE hPr hPq hbk hil hiv himg hpv hinv
    obtain ⟨pn, cn, rfl⟩ := hN.shape HNS.out.1
    go_wp2_with (fail)
    refine (r4valid _ N k _ hN HNS.out hk1 hk6).mono ?_
    rintro e w' ⟨rfl, hB⟩
    obtain ⟨g6, rfl⟩ := grow g5 hB
    replace hp := hp.grow hB
    replace hN := hN.grow grows_bx hB
    replace hm := hm.grow grows_pt hB
    clear hB
    go_wp2_with (fail)
    refine (r4from vm P k _ hm QP1.out HPR.out hk1 hk6).mono ?_
    rintro e w' ⟨vf, rfl, hf, hB⟩
    obtain ⟨g7, rfl⟩ := grow g6 hB
    replace hp := hp.grow hB
    replace hN := hN.grow grows_bx hB
    replace hm := hm.grow grows_pt hB
    clear hB
    go_wp2_with (fail)
    refine (r3pt _ p _ hp (by rw [Qp1.out]; omega)).mono ?_
    rintro e w' ⟨vq, rfl, hq, hB⟩
    obtain ⟨g8, rfl⟩ := grow g7 hB
    replace hp := hp.grow hB
    replace hN := hN.grow grows_bx hB
    replace hf := hf.grow grows_bx hB
    replace hm := hm.grow grows_pt hB
    clear hB
    go_wp2_with (fail)
    refine (r4apply vf vq (P.map (List.map ptI)) (p.map ptI) k _ hf hq HPQ.out (by rw [List.length_map, Qp1.out]) HPV.out hk1 hk6).mono ?_
    rintro e w' ⟨vi, rfl, hi, hB⟩
    obtain ⟨g9, rfl⟩ := grow g8 hB
    replace hp := hp.grow hB
    replace hq := hq.grow hB
    replace hN := hN.grow grows_bx hB
    replace hf := hf.grow grows_bx hB
    replace hm := hm.grow grows_pt hB
    clear hB
    rw [HIM.out] at hi
    clear hf hq hm
    go_wp2_with (fail)
    refine (r4apply _ vi N img k _ hN hi HNS.out HIL.out HIV.out hk1 hk6).mono ?_
    rintro e w' ⟨vk, rfl, hkk, hB⟩
    obtain ⟨g10, rfl⟩ := grow g9 hB
    replace hp := hp.grow hB
    replace hi := hi.grow hB
    replace hN := hN.grow grows_bx hB
    clear hB
    obtain ⟨bk0, hbk0⟩ : ∃ d, apM N img = d := ⟨_, rfl⟩
    have hbl : bk0.length = k := by rw [← hbk0]; exact ap_len HNS.out
    have HBL := Lib.hid hbl
    have HBK0 := Lib.hid hbk0
    rw [hbk0] at hkk
    obtain ⟨pk, ck, rfl⟩ := hkk.shape hbl
    have hT := below_then hT0 g10.h
    obtain ⟨W9, hW9⟩ : ∃ W9, g10.w = W9 := ⟨_, rfl⟩
    rw [hW9] at hkk hN hp hT ⊢
    have HK := Lib.hid hkk
    have HN := Lib.hid hN
    have HP := Lib.hid hp
    clear hkk hN hp hi hW9 hbk0 hbl HS HNN
    have n0 : (0 : Int) < k := by omega
    have kn0 : ¬ k = 0 := by omega
    go_wp2_with (fail)
    go_loopw [17] (fun u wr => ∃ j : Nat, u = .int .i64 j ∧ j ≤ k ∧ Below W9.heap.size W9 wr) (fun i _ => k - (intOf i).toNat)
    case atStart => exact ⟨0, rfl, Nat.zero_le _, Below.refl _ _⟩
    case round =>
      obtain ⟨j, rfl, hj, hB⟩ := hrel
      by_cases hjk : j < k
      · have ij : (j : Int) < k := by omega
        obtain ⟨x, y, hxy⟩ : ∃ x y, bk0[j]? = some (x, y) := ⟨(bk0[j]'(by rw [HBL.out]; exact hjk)).1, (bk0[j]'(by rw [HBL.out]; exact hjk)).2, List.getElem?_eq_getElem _⟩
        obtain ⟨z, hz⟩ : ∃ z, p[j]? = some z := ⟨_, List.getElem?_eq_getElem (by rw [Qp1.out]; exact hjk)⟩
        obtain ⟨r, hr⟩ : ∃ r, N[j]? = some r := ⟨_, List.getElem?_eq_getElem (by rw [HNS.out.1]; exact hjk)⟩
        have hrl := (HNS.out.2 r (List.mem_of_getElem? hr)).1
        obtain ⟨q1, q2, hqq⟩ : ∃ x y, r[0]? = some (x, y) := ⟨(r[0]'(by omega)).1, (r[0]'(by omega)).2, List.getElem?_eq_getElem _⟩
        have hct := HBK.out j x y z hjk (by rw [HBK0.out]; exact hxy) hz
        have hen : ¬ Ent q1 q2 := by
          have := HNE.out j 0 hjk (by omega)
          rw [el_some hr hqq] at this
          exact this
        obtain ⟨bk, ok, rfl, hb1, rd1⟩ := HK.out.rd2 hxy
        have f1 := fun g : Grown wr => (rd1 ⟨g.w, below_then hB g.h⟩).2.1
        have f2 := fun g : Grown wr => (rd1 ⟨g.w, below_then hB g.h⟩).2.2
        obtain ⟨_, p3, c3, e3, hpp⟩ := HP.out
        simp only [Value.slice.injEq] at e3
        obtain ⟨bp, op, e4, hb3, hc3⟩ := hpp j z hz
        obtain rfl : pp = some ⟨bp, op, none⟩ := e3.1.trans e4
        have f3 := fun g : Grown wr => ((below_then hB g.h).cell (p := ⟨bp, op + j, none⟩) hb3).trans hc3
        obtain ⟨bn, on, un, hpn, hbn, rdn⟩ := HN.out.rd grows_bx hr
        subst hpn
        have hun := (rdn ⟨W9, Below.refl _ _⟩).2.2
        dsimp only at hun
        obtain ⟨p4, cr, rfl⟩ := hun.shape hrl
        have f4 := fun g : Grown wr => (rdn ⟨g.w, below_then hB g.h⟩).2.1
        obtain ⟨br, orr, rfl, hb5, rd5⟩ := hun.rd2 hqq
        have f5 : ∀ g : Grown wr, g.w.cell? ⟨br, orr, none⟩ = some (.int .i64 q1) := fun g => by
          have := (rd5 ⟨g.w, below_then hB g.h⟩).2.1
          rw [show orr + 0 * 2 = orr by omega] at this
          exact this
        have f6 : ∀ g : Grown wr, g.w.cell? ⟨br, orr + 1, none⟩ = some (.int .i64 q2) := fun g => by
          have := (rd5 ⟨g.w, below_then hB g.h⟩).2.2
          rw [show orr + 0 * 2 + 1 = orr + 1 by omega] at this
          exact this
        dsimp only at f1 f2 f3 f4
        have HCT := Lib.hid (fun w => r2contains x y z true w hct)
        have HEN := Lib.hid (fun w => r2ent_no q1 q2 w hen)
        clear rd1 rdn rd5 hun hpp e3 e4 hct hen hxy hz hr hrl hqq hc3
        go_wp2_with (fail)
        refine region_pred (lk [(68, fun u _ => u = .slice (some ⟨bk, ok, none⟩) k ck), (69, fun u _ => u = .int .i64 (j : Int)), (70, fun u _ => u = .pointer (some ⟨bk, ok + j * 2, none⟩)), (71, fun u _ => u = .agg #[.int .i64 x, .int .i64 y]), (72, fun u _ => u = .slice (some ⟨bp, op, none⟩) k cp), (73, fun u _ => u = .int .i64 (j : Int)), (74, fun u _ => u = .pointer (some ⟨bp, op + j, none⟩)), (75, fun u _ => u = .int .i64 z), (76, fun u _ => u = .bool true), (77, fun u _ => u = .bool false), (78, fun u _ => u = .bool false), (79, fun u _ => u = .slice (some ⟨bn, on, none⟩) k cn), (80, fun u _ => u = .int .i64 (j : Int)), (81, fun u _ => u = .pointer (some ⟨bn, on + j, none⟩)), (82, fun u _ => u = .slice (some ⟨br, orr, none⟩) k cr), (83, fun u _ => u = .pointer (some ⟨br, orr, none⟩)), (84, fun u _ => u = .agg #[.int .i64 q1, .int .i64 q2]), (85, fun u _ => u = .bool false), (86, fun u _ => u = .bool false)]) (by kernel_rfl) (by kernel_rfl) (lk_steady _ ⟨steady_eq _, steady_eq _, steady_eq _, steady_eq _, steady_eq _, steady_eq _, steady_eq _, steady_eq _, steady_eq _, steady_eq _, steady_eq _, steady_eq _, steady_eq _, steady_eq _, steady_eq _, steady_eq _, steady_eq _, steady_eq _, steady_eq _, trivial⟩) ?_ ?_
        · refine ⟨?_, ?_, ?_, ?_, ?_, ?_, ?_, ?_, ?_, ?_, ?_, ?_, ?_, ?_, ?_, ?_, ?_, ?_, ?_, trivial⟩
          · refine ob_plain [16] rfl rfl fun aa g h => ?_
            have r0 := seen_out (v := .slice (some ⟨bk, ok, none⟩) k ck) rfl rfl h.1
            have e0 := getD_of r0
            exact upon_value (v := .slice (some ⟨bk, ok, none⟩) k ck) (by simp [go_sem, e0, r0]) (Below.refl _ _) rfl
          · refine ob_plain [17] rfl rfl fun aa g h => ?_
            have r0 := seen_out (v := .int .i64 (j : Int)) rfl rfl h.1
            have e0 := getD_of r0
            exact upon_value (v := .int .i64 (j : Int)) (by simp [go_sem, e0, r0]) (Below.refl _ _) rfl
          · refine ob_plain [68, 69] rfl rfl fun aa g h => ?_
            obtain ⟨_, r0, rfl⟩ := seen_in rfl h.1
            have e0 := getD_of r0
            obtain ⟨_, r1, rfl⟩ := seen_in rfl h.2.1
            have e1 := getD_of r1
            exact upon_value (v := .pointer (some ⟨bk, ok + j * 2, none⟩)) (by simp [go_sem, e0, r0, e1, r1, ij]) (Below.refl _ _) rfl
          · refine ob_plain [70] rfl rfl fun aa g h => ?_
            obtain ⟨_, r0, rfl⟩ := seen_in rfl h.1
            have e0 := getD_of r0
            exact upon_value (v := .agg #[.int .i64 x, .int .i64 y]) (by simp [go_sem, e0, r0, f1 g, f2 g]) (Below.refl _ _) rfl
          · refine ob_plain [12] rfl rfl fun aa g h => ?_
            have r0 := seen_out (v := .slice (some ⟨bp, op, none⟩) k cp) rfl rfl h.1
            have e0 := getD_of r0
            exact upon_value (v := .slice (some ⟨bp, op, none⟩) k cp) (by simp [go_sem, e0, r0]) (Below.refl _ _) rfl
          · refine ob_plain [17] rfl rfl fun aa g h => ?_
            have r0 := seen_out (v := .int .i64 (j : Int)) rfl rfl h.1
            have e0 := getD_of r0
            exact upon_value (v := .int .i64 (j : Int)) (by simp [go_sem, e0, r0]) (Below.refl _ _) rfl
          · refine ob_plain [72, 73] rfl rfl fun aa g h => ?_
            obtain ⟨_, r0, rfl⟩ := seen_in rfl h.1
            have e0 := getD_of r0
            obtain ⟨_, r1, rfl⟩ := seen_in rfl h.2.1
            have e1 := getD_of r1
            exact upon_value (v := .pointer (some ⟨bp, op + j, none⟩)) (by simp [go_sem, e0, r0, e1, r1, ij]) (Below.refl _ _) rfl
          · refine ob_plain [74] rfl rfl fun aa g h => ?_
            obtain ⟨_, r0, rfl⟩ := seen_in rfl h.1
            have e0 := getD_of r0
            exact upon_value (v := .int .i64 z) (by simp [go_sem, e0, r0, f3 g]) (Below.refl _ _) rfl
          · refine ob_plain [71, 75] rfl rfl fun aa g h => ?_
            obtain ⟨_, r0, rfl⟩ := seen_in rfl h.1
            have e0 := getD_of r0
            obtain ⟨_, r1, rfl⟩ := seen_in rfl h.2.1
            have e1 := getD_of r1
            refine upon_enter (f := 33) (args := #[.agg #[.int .i64 x, .int .i64 y], .int .i64 z]) (by simp [go_sem, e0, r0, e1, r1]) rfl ?_
            exact (HCT.out _).mono fun e w' ⟨he, hB⟩ => ⟨_, he, hB, rfl⟩
          · refine ob_plain [76] rfl rfl fun aa g h => ?_
            obtain ⟨_, r0, rfl⟩ := seen_in rfl h.1
            have e0 := getD_of r0
            exact upon_value (v := .bool false) (by simp [go_sem, e0, r0]) (Below.refl _ _) rfl
          · refine ob_plain [77] rfl rfl fun aa g h => ?_
            obtain ⟨_, r0, rfl⟩ := seen_in rfl h.1
            have e0 := getD_of r0
            exact upon_value (v := .bool false) (by simp [go_sem, e0, r0]) (Below.refl _ _) rfl
          · refine ob_gtrue [13] 10 false 78 rfl rfl rfl rfl (fun v w h => h) fun aa g h => ?_
            have r0 := seen_out (v := .slice (some ⟨bn, on, none⟩) k cn) rfl rfl h.1
            have e0 := getD_of r0
            exact upon_value (v := .slice (some ⟨bn, on, none⟩) k cn) (by simp [go_sem, e0, r0]) (Below.refl _ _) rfl
          · refine ob_gtrue [17] 10 false 78 rfl rfl rfl rfl (fun v w h => h) fun aa g h => ?_
            have r0 := seen_out (v := .int .i64 (j : Int)) rfl rfl h.1
            have e0 := getD_of r0
            exact upon_value (v := .int .i64 (j : Int)) (by simp [go_sem, e0, r0]) (Below.refl _ _) rfl
          · refine ob_gtrue [79, 80] 10 false 78 rfl rfl rfl rfl (fun v w h => h) fun aa g h => ?_
            obtain ⟨_, r0, rfl⟩ := seen_in rfl h.1
            have e0 := getD_of r0
            obtain ⟨_, r1, rfl⟩ := seen_in rfl h.2.1
            have e1 := getD_of r1
            exact upon_value (v := .pointer (some ⟨bn, on + j, none⟩)) (by simp [go_sem, e0, r0, e1, r1, ij]) (Below.refl _ _) rfl
          · refine ob_gtrue [81] 10 false 78 rfl rfl rfl rfl (fun v w h => h) fun aa g h => ?_
            obtain ⟨_, r0, rfl⟩ := seen_in rfl h.1
            have e0 := getD_of r0
            exact upon_value (v := .slice (some ⟨br, orr, none⟩) k cr) (by simp [go_sem, e0, r0, f4 g]) (Below.refl _ _) rfl
          · refine ob_gtrue [82] 10 false 78 rfl rfl rfl rfl (fun v w h => h) fun aa g h => ?_
            obtain ⟨_, r0, rfl⟩ := seen_in rfl h.1
            have e0 := getD_of r0
            exact upon_value (v := .pointer (some ⟨br, orr, none⟩)) (by simp [go_sem, e0, r0, n0, hk1, kn0]) (Below.refl _ _) rfl
          · refine ob_gtrue [83] 10 false 78 rfl rfl rfl rfl (fun v w h => h) fun aa g h => ?_
            obtain ⟨_, r0, rfl⟩ := seen_in rfl h.1
            have e0 := getD_of r0
            exact upon_value (v := .agg #[.int .i64 q1, .int .i64 q2]) (by simp [go_sem, e0, r0, f5 g, f6 g]) (Below.refl _ _) rfl
          · refine ob_gtrue [84] 10 false 78 rfl rfl rfl rfl (fun v w h => h) fun aa g h => ?_
            obtain ⟨_, r0, rfl⟩ := seen_in rfl h.1
            have e0 := getD_of r0
            refine upon_enter (f := 34) (args := #[.agg #[.int .i64 q1, .int .i64 q2]]) (by simp [go_sem, e0, r0]) rfl ?_
            exact (HEN.out _).mono fun e w' ⟨he, hB⟩ => ⟨_, he, hB, rfl⟩
          · refine ob_plain [78, 85] rfl rfl fun aa g h => ?_
            obtain ⟨_, r0, rfl⟩ := seen_in rfl h.1
            have e0 := getD_of r0
            obtain ⟨_, r1, rfl⟩ := seen_in rfl h.2.1
            have e1 := getD_of r1
            exact upon_value (v := .bool false) (by simp [go_sem, e0, r0, e1, r1]) (Below.refl _ _) rfl
        rintro w5 hB5 _ rfl _ rfl _ rfl _ rfl _ rfl _ rfl _ rfl _ rfl _ rfl _ rfl _ rfl _ rfl _ rfl _ rfl _ rfl _ rfl _ rfl _ rfl _ rfl
        simp only [Act.put, List.setIfInBounds_toArray, List.set_cons_succ, List.set_cons_zero]
        clear f1 f2 f3 f4 f5 f6
        rename_i K hK
        refine hK _ _ ?_
        clear hK K
        have hB6 := below_then hB hB5
        go_wp2_with (fail)
        go_roundw
        case rel => exact ⟨j + 1, by go_num, by omega, hB6⟩
        case measure => simp [intOf]; omega
      · obtain rfl : j = k := by omega
        go_wp2_with (fail)
        go_ret
        exact ⟨rfl, below_then hT hB⟩
end Go.Proofs.YthejcoidgmaidaaGreat
