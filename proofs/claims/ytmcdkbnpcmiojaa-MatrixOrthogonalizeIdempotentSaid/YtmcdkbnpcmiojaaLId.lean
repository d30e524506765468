/-
  law04: MatrixOrthogonalizeIdempotent.
-/
import Derived.Test.YtmcdkbnpcmiojaaLOr
import Derived.Test.YtmcdkbnpcmiojaaIdA
import Derived.Test.YtmcdkbnpcmiojaaRefN
namespace Go.Proofs.Ytmcdkbnpcmiojaa
open Go.ChangeShapes Go.WideShapes Go.ChangeAt Go.RowKit
set_option linter.unusedVariables false
set_option linter.unusedSimpArgs false
set_option maxRecDepth 100000

attribute [local irreducible] Calls
theorem mat_el {F : Nat → Nat → Int} {n i k : Nat} (hi : i < n) (hk : k < n) : ∃ r, (matOf F n)[i]? = some r ∧ r.length = n ∧ r[k]? = some (F i k) := by
  refine ⟨rowOf F n i, ?_, by simp [rowOf], ?_⟩
  · unfold matOf; rw [List.getElem?_map, List.getElem?_range hi]; rfl
  · unfold rowOf; rw [List.getElem?_map, List.getElem?_range hk]; rfl
theorem colL_fst0 {M : List (List Int)} {n : Nat} (hM : M.length = n) (h4 : n ≤ 4) (k : Nat) : colL M k = (colV4 M k).fst n := by
  unfold V4.fst
  rw [← col_l (by omega) k]
  apply List.ext_getElem?
  intro i
  unfold colL colV
  rw [List.getElem?_map, List.getElem?_take]
  by_cases hi : i < n
  · obtain ⟨r, hr⟩ : ∃ r, M[i]? = some r := ⟨_, List.getElem?_eq_getElem (by omega)⟩
    rw [if_pos hi, List.getElem?_map, List.getElem?_range (by omega), Option.map_some, hr, Option.map_some]
    unfold colE
    rw [hr, Option.bind_some]
  · rw [if_neg hi, List.getElem?_eq_none (by omega)]
    rfl
set_option maxHeartbeats 16000000 in
theorem idempotent (w : World) (vl : Value) (l : List Int) (hl : Pt w vl l ∧ ∀ x ∈ l, -9223372036854775808 ≤ x ∧ x ≤ 9223372036854775807) (n : Int) (hn : (Lit.int .u8 n).wf = true) :
    Calls Try.prog 4 #[vl, .int .u8 n] w fun e w' => e = .returned (.bool true) ∧ Below w.heap.size w w' := by
  have hn0 := (bounds_u8 hn).1
  have hn1 : n < 256 := by have := (bounds_u8 hn).2; omega
  have hm0 : 0 ≤ n % 4 := Int.emod_nonneg _ (by decide)
  have hm1 : n % 4 < 4 := Int.emod_lt_of_pos _ (by decide)
  obtain ⟨k, hk⟩ : ∃ k : Nat, 1 + n % 4 = (k : Int) := ⟨(1 + n % 4).toNat, by omega⟩
  have hk1 : 1 ≤ k := by omega
  have hk4 : k ≤ 4 := by omega
  obtain ⟨hl1, hl2⟩ := hl
  have HL1 := Lib.hid hl1
  have HL2 := Lib.hid hl2
  have HD := Lib.hid (r4dim n · hn0 hn1)
  rw [hk] at HD
  clear hl1 hl2 hn hk hm0 hm1
  go_enter Try.func4, Try.ntmps4
  go_wp2_with (fail)
  refine (sanity4 _).mono ?_
  rintro e w1 ⟨rfl, hB1⟩
  go_wp2_with (fail)
  refine (HD.out _).mono ?_
  rintro e w2 ⟨rfl, rfl⟩
  go_wp2_with (fail)
  refine (r4numbers vl l k _ (HL1.out.grow hB1) HL2.out hk1 (by omega)).mono ?_
  rintro e w3 ⟨u, us, M, rfl, hM, hMr, hO, hB3⟩
  have hB13 := below_then hB1 hB3
  have hnx := hO.nx (by rw [hM]; unfold maxLen; omega) fun r hr => by rw [(hMr r hr).1]; unfold maxLen; omega
  have hMb : ∀ r ∈ M, ∀ x ∈ r, -16777216 ≤ x ∧ x ≤ 16777216 := fun r hr x hx => by
    have := (hMr r hr).2 x hx
    omega
  have hpre := orth_pre hM hk4 hMb
  obtain ⟨fs, hfl, hfe, hfg⟩ := frame_good hM hk4 hMb k (Nat.le_refl _)
  have hOr := orth_rows hfe hfg
  have hOb : ∀ r ∈ matOf (orthF M k) k, ∀ x ∈ r, -16777216 ≤ x ∧ x ≤ 16777216 := fun r hr x hx => by
    have := (hOr r hr).2 x hx
    omega
  have hid := idem_all hM hk1 hk4 hMb hOb
  have hOl : (matOf (orthF M k) k).length = k := by simp [matOf]
  have hpre2 := orth_pre hOl hk4 hOb
  obtain ⟨gs, hgl, hge, hgg⟩ := frame_good hOl hk4 hOb k (Nat.le_refl _)
  have hPr := orth_rows hge hgg
  have hPl : (matOf (orthF (matOf (orthF M k) k) k) k).length = k := by simp [matOf]
  have HC := Lib.hid (orth_ok u M k w3 hnx hM hk1 (by omega) (fun r hr => (hMr r hr).1) hpre.1 hpre.2)
  have HC2 : Hid (∀ (v : Value) (W : World), Nx W v (matOf (orthF M k) k) → Calls Try.prog 7 #[v] W fun e w' => ∃ u, e = .returned u ∧ Nx w' u (matOf (orthF (matOf (orthF M k) k) k) k) ∧ Below W.heap.size W w') := Lib.hid (fun v W h => orth_ok v _ k W h hOl hk1 (by omega) (fun r hr => (hOr r hr).1) hpre2.1 hpre2.2)
  obtain ⟨L, hL⟩ : ∃ L, isq (sqV ((colV4 M 0).fst k)) = L := ⟨_, rfl⟩
  have hfc := fun i v (h : 4096 ≤ L) hv => first_col (i := i) (v := v) hM hk1 hk4 hMb hL h hv
  have hcl := colL_fst0 hM hk4 0
  have hcb : ∀ a ∈ (colV4 M 0).fst k, -33554532 ≤ a ∧ a ≤ 33554532 := fst_lim (A := 33554532) (by decide) (by have := col_sq hMb 0; omega) k
  have hLb : 0 ≤ L ∧ L ≤ 33554532 := by
    have hs := sq_fst hk1 hk4 (col_sup hM 0)
    have hq := col_sq hMb 0
    rw [hs] at hL
    have h0 := isq_spec (colV4 M 0).self_nn
    have h2 := isq_lt (q := 33554533) (colV4 M 0).self_nn (by omega) (by decide)
    omega
  have hMl : ∀ r ∈ M, r.length = k := fun r hr => (hMr r hr).1
  have hob : ∀ i, i < k → -65556 ≤ orthF M k i 0 ∧ orthF M k i 0 ≤ 65556 := fun i hi => by
    obtain ⟨q, hq⟩ : ∃ q, fs[0]? = some q := ⟨_, List.getElem?_eq_getElem (by omega)⟩
    rw [orth_el hfe hq, List.getElem?_eq_getElem (by simp [V4.l]; omega)]
    exact comp_bd (A := 65556) (by decide) (V4.nrm_sq (hfg.1 q (List.mem_of_getElem? hq)).1) _ (List.getElem_mem _)
  obtain ⟨F, hF⟩ : ∃ F, orthF M k = F := ⟨_, rfl⟩
  rw [hF] at HC HC2 hid hOr hPr hOl hPl hfc hob
  obtain ⟨G, hG⟩ : ∃ G, orthF (matOf F k) k = G := ⟨_, rfl⟩
  rw [hG] at HC2 hid hPr hPl
  have HOR := Lib.hid hOr
  have HPR := Lib.hid hPr
  have HOL := Lib.hid hOl
  have HPL := Lib.hid hPl
  have HID := Lib.hid hid
  have HFC := Lib.hid hfc
  have HCL := Lib.hid hcl
  have HCB := Lib.hid hcb
  have HLL := Lib.hid hL
  have HOB := Lib.hid hob
  have HML := Lib.hid hMl
  have HM := Lib.hid hM
  have HNX := Lib.hid hnx
  obtain ⟨L0, L1⟩ := hLb
  clear hM hMr hO hnx hMb hpre hfl hfe hfg hOr hOb hid hOl hpre2 hgl hge hgg hPr hPl hL hfc hcl hcb hMl hob hF hG
  go_wp2_with (fail)
  refine HC.out.mono ?_
  rintro e w4 ⟨v, rfl, hv, hB4⟩
  have hB14 := below_then hB13 hB4
  have hm4 := HNX.out.grow grows_pt hB4
  have HV := Lib.hid hv
  have HM4 := Lib.hid hm4
  clear HC hv hB4 hB3 hB13 hm4 HNX
  go_wp2_with (fail)
  refine (bounded_ok v _ k _ HV.out HOL.out HOR.out (by omega)).mono ?_
  rintro e w5 ⟨rfl, hB5⟩
  have hV5 := Lib.hid (HV.out.grow grows_pt hB5)
  have hM5 := Lib.hid (HM4.out.grow grows_pt hB5)
  have hB15 := below_then hB14 hB5
  clear HV HM4 hB5 hB14
  go_wp2_with (fail)
  refine (HC2.out _ _ hV5.out).mono ?_
  rintro e w6 ⟨v2, rfl, hv2, hB6⟩
  have hV6 := Lib.hid (hV5.out.grow grows_pt hB6)
  have hM6 := Lib.hid (hM5.out.grow grows_pt hB6)
  have hB16 := below_then hB15 hB6
  have HV2 := Lib.hid hv2
  clear hv2 hV5 hM5 hB6 hB15
  go_wp2_with (fail)
  refine (bounded_ok v2 _ k _ HV2.out HPL.out HPR.out (by omega)).mono ?_
  rintro e w7 ⟨rfl, hB7⟩
  have hV7 := hV6.out.grow grows_pt hB7
  have hP7 := HV2.out.grow grows_pt hB7
  have hM7 := hM6.out.grow grows_pt hB7
  have hB17 := below_then hB16 hB7
  obtain ⟨pv, cv, rfl⟩ := hV7.shape HOL.out
  obtain ⟨pp, cp, rfl⟩ := hP7.shape HPL.out
  have HV7 := Lib.hid hV7
  have HP7 := Lib.hid hP7
  have HM7 := Lib.hid hM7
  obtain ⟨WV, hWV⟩ : ∃ W, W = w7 := ⟨_, rfl⟩
  subst hWV
  clear hV7 hP7 hM7 hV6 HV2 hM6 hB7 hB16
  go_wp2_with (fail)
  go_loopw [10] (fun i wr => ∃ d : Nat, i = .int .i64 d ∧ d ≤ k ∧ ∃ g : Grown WV, wr = g.w) (fun i _ => k - (intOf i).toNat)
  case atStart => exact ⟨0, rfl, Nat.zero_le _, ⟨WV, Below.refl _ _⟩, rfl⟩
  case round =>
    obtain ⟨d, rfl, hd, g0, rfl⟩ := hrel
    by_cases hdk : d < k
    · have idk : (d : Int) < k := by omega
      go_wp2_with (fail)
      go_loopw [11] (fun i wr => ∃ m : Nat, i = .int .i64 m ∧ m ≤ k ∧ ∃ g : Grown WV, wr = g.w) (fun i _ => k - (intOf i).toNat)
      case atStart => exact ⟨0, rfl, Nat.zero_le _, g0, rfl⟩
      case round =>
        obtain ⟨m, rfl, hm, g1, rfl⟩ := hrel
        by_cases hmk : m < k
        · have imk : (m : Int) < k := by omega
          obtain ⟨r, hr, hrl, hrx⟩ := mat_el (F := F) hdk hmk
          obtain ⟨r', hr', hrl', hrx'⟩ := mat_el (F := G) hdk hmk
          obtain ⟨b, o, b2, o2, c2, rfl, f1, f2⟩ := nx_open HV7.out hr (by omega)
          obtain ⟨b', o', b3, o3, c3, rfl, f3, f4⟩ := nx_open HP7.out hr' (by omega)
          rw [hrl] at f1
          rw [hrl'] at f3
          have h2 := fun g => f2 g m _ hrx
          have h4 := fun g => f4 g m _ hrx'
          have hxy := HID.out d m hdk hmk
          clear f2 f4 hr hr' hrx hrx'
          generalize F d m = x at *
          generalize G d m = y at *
          have hc := fun w => abs_big (x - y) w (by omega)
          obtain ⟨z, hz⟩ : ∃ z, max (x - y) (-(x - y)) = z := ⟨_, rfl⟩
          rw [hz] at hc
          have hz2 : z ≤ 1024 := by omega
          have Wr := wrap_ok (x - y) (by omega) (by omega)
          have HC := Lib.hid hc
          clear hc hz hxy hrl hrl'
          go_wp2_with (fail)
          refine region_quiet' g1 (by kernel_rfl) (by kernel_rfl) ?_
          repeat (go_big_quiet_step (first | exact qs (HC.out _)))
          refine wpQuiet_nil ?_
          rintro _ ⟨g2, rfl⟩
          go_wp2_with (fail)
          go_roundw
          case rel => exact ⟨m + 1, by go_num, by omega, g2, rfl⟩
          case measure => simp [intOf]; omega
        · obtain rfl : m = k := by omega
          go_wp2_with (fail)
          go_roundw
          case rel => exact ⟨d + 1, by go_num, by omega, g1, rfl⟩
          case measure => simp [intOf]; omega
    · obtain rfl : d = k := by omega
      have HC1 := Lib.hid (r4column u M 0 g0.w (HM7.out.grow grows_pt g0.h) (by rw [HM.out]; omega) fun r hr => by rw [HML.out r hr]; omega)
      rw [HCL.out] at HC1
      go_wp2_with (fail)
      refine HC1.out.mono ?_
      rintro e w8 ⟨vw, rfl, hvw, hB8⟩
      have hfl : ((colV4 M 0).fst d).length = d := fst_len _ hk4
      have HC2 := Lib.hid (r4length vw ((colV4 M 0).fst d) w8 hvw (by rw [hfl]; omega) fun a ha => by have := HCB.out a ha; omega)
      rw [HLL.out] at HC2
      have HFL := Lib.hid hfl
      have HVW := Lib.hid hvw
      obtain ⟨g8, rfl⟩ := grow g0 hB8
      clear hfl hvw HC1
      go_wp2_with (fail)
      refine HC2.out.mono ?_
      rintro e w9 ⟨rfl, hB9⟩
      have HV9 := HVW.out.grow hB9
      obtain ⟨g9, rfl⟩ := grow g8 hB9
      obtain ⟨_, pw, cw, rfl, hpw⟩ := HV9
      rw [HFL.out]
      have HPW := Lib.hid hpw
      clear HC2 HVW hpw
      go_wp2_with (fail)
      obtain ⟨W9, hW9⟩ : ∃ W, g9.w = W := ⟨_, rfl⟩
      have hB19 : Below WV.heap.size WV W9 := by rw [← hW9]; exact g9.h
      rw [hW9] at HPW
      rw [hW9]
      clear hW9
      go_loopw [14] (fun i wr => ∃ m : Nat, i = .int .i64 m ∧ m ≤ d ∧ ∃ g : Grown W9, wr = g.w) (fun i _ => d - (intOf i).toNat)
      case atStart => exact ⟨0, rfl, Nat.zero_le _, ⟨W9, Below.refl _ _⟩, rfl⟩
      case round =>
        obtain ⟨m, rfl, hm, g1, rfl⟩ := hrel
        by_cases hmd : m < d
        · have imd : (m : Int) < d := by omega
          by_cases hL : 4096 ≤ L
          · have iz : (0 : Int) < d := by omega
            obtain ⟨r, hr, hrl, hrx⟩ := mat_el (F := F) hmd (show 0 < d by omega)
            obtain ⟨b, o, b2, o2, c2, rfl, f1, f2⟩ := nx_open HV7.out hr (by omega)
            rw [hrl] at f1
            have h1 : ∀ gg : Grown W9, gg.w.cell? ⟨b, o + m, none⟩ = some (.slice (some ⟨b2, o2, none⟩) d c2) := fun gg => f1 ⟨gg.w, below_then hB19 gg.h⟩
            have h2 : ∀ gg : Grown W9, gg.w.cell? ⟨b2, o2, none⟩ = some (.int .i64 (F m 0)) := fun gg => f2 ⟨gg.w, below_then hB19 gg.h⟩ 0 _ hrx
            obtain ⟨v, hv⟩ := fst_at (x := colV4 M 0) hk4 hmd
            obtain ⟨b3, o3, rfl, hb3, c3⟩ := HPW.out m v hv
            have h3 : ∀ gg : Grown W9, gg.w.cell? ⟨b3, o3 + m, none⟩ = some (.int .i64 v) := fun gg => (gg.cell hb3).trans c3
            have hfc := HFC.out m v hL hv
            have hvb := HCB.out v (List.mem_of_getElem? hv)
            have hxb := HOB.out m hmd
            clear f1 f2 hr hrx hrl hv c3
            generalize F m 0 = x at *
            have hxl := mul_bound x L 65556 33554532 hxb.1 hxb.2 (by omega) L1
            have hc := fun w => abs_big (x * L - v * 65536) w (by omega)
            obtain ⟨z, hz⟩ : ∃ z, max (x * L - v * 65536) (-(x * L - v * 65536)) = z := ⟨_, rfl⟩
            rw [hz] at hc
            have hz2 : decide (2 * L < z) = false := decide_eq_false (by omega)
            have Wa := wrap_ok (x * L) (by omega) (by omega)
            have Wb := wrap_ok (v * 65536) (by omega) (by omega)
            have Wc := wrap_ok (x * L - v * 65536) (by omega) (by omega)
            have Wd := wrap_ok (2 * L) (by omega) (by omega)
            have HC := Lib.hid hc
            clear hc hz hfc hxl
            go_wp2_with (fail)
            refine region_quiet' g1 (by kernel_rfl) (by kernel_rfl) ?_
            repeat (go_big_quiet_step (first | exact qs (HC.out _)))
            refine wpQuiet_nil ?_
            rintro _ ⟨g2, rfl⟩
            go_wp2_with (fail)
            go_roundw
            case rel => exact ⟨m + 1, by go_num, by omega, g2, rfl⟩
            case measure => simp [intOf]; omega
          · have hL2 : L < 4096 := by omega
            go_wp2_with (fail)
            go_ret
            exact ⟨rfl, below_then hB17 (below_then hB19 g1.h)⟩
        · obtain rfl : m = d := by omega
          go_wp2_with (fail)
          go_ret
          exact ⟨rfl, below_then hB17 (below_then hB19 g1.h)⟩
end Go.Proofs.Ytmcdkbnpcmiojaa
