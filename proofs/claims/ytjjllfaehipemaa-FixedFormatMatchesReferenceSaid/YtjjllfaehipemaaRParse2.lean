/-
  The contract of package armillaryref01's Parse, at a text of at most 60 bytes: its walk.
-/
import Derived.Test.YtjjllfaehipemaaRParse
namespace Go.Proofs.Ytjjllfaehipemaa
open Go.ChangeShapes Go.WideShapes Go.ChangeAt Go.RowKit

theorem rvalid_yes (x : Int) (w : World) (h1 : -2147483648 < x) (h2 : x < 2147483648) :
    Calls Try.prog 14 #[.int .i64 x] w fun e w' => e = .returned (.bool true) ∧ w = w' := by
  have h := rvalid_any x w
  simpa [h1, h2] using h
theorem rvalid_no (x : Int) (w : World) (h2 : ¬ x < 2147483648) :
    Calls Try.prog 14 #[.int .i64 x] w fun e w' => e = .returned (.bool false) ∧ w = w' := by
  have h := rvalid_any x w
  simpa [h2] using h

theorem rparse_err (s : ByteArray) (o : Nat) (w : World) (hs : s.size ≤ maxLen) (h : perr s = some o) :
    Calls Try.prog 25 #[.string s] w fun e w' => e = .returned (.tuple #[.int .i64 0, .int .i64 0, .int .i64 (o : Int), .int .i64 10]) ∧ w = w' := by
  have hsc := fun w => scan_any s w hs
  rw [h, off_err h] at hsc
  clear h
  generalize ptOf s = pt at *
  go_enter Try.func25, Try.ntmps25
  go_wp2_with (fail)
  refine (hsc _).mono ?_
  rintro e1 w1 ⟨rfl, rfl⟩
  go_wp2_with (fail)
  exact bodyPost_ret (results_tmp4 rfl _ _ _) rfl ⟨rfl, rfl⟩

theorem min_val {k : IntKind} {a b c : Int} (h : a = b) : Value.int k (if c < a then c else a) = .int k (min b c) := by
  subst h
  congr 1
  split <;> omega

set_option maxHeartbeats 1500000 in
theorem rparse_neg_dot (s : ByteArray) (w : World) (hs : s.size ≤ 60) (h : perr s = none) (hsg : sgn s = 1) (hpt : ptOf s < s.size) :
    Calls Try.prog 25 #[.string s] w fun e w' => e = .returned (quad (parseV s)) ∧ Below w.heap.size w w' := by
  have hsc := fun w => scan_any s w (by unfold maxLen; omega)
  have hw0 := whole_pos s h
  have hp1 : ptOf s = sgn s + (wholeOf s).size := rfl
  have hps : ptOf s ≤ s.size := by have := runAt_size s (sgn s) (by rw [hsg]; omega); unfold ptOf wholeOf; omega
  have h0 : 0 < s.size := by omega
  have hb0 : ((s[0].toNat : Int) == 45) = true := by
    rw [← byteAt_in s 0 h0]
    unfold sgn at hsg
    split at hsg
    · rename_i hc; rw [hc]; rfl
    · cases hsg
  have hfr := frac_all s h hpt
  have hfs : (fracIf s).size ≤ 60 := by rw [← hfr]; simp only [ByteArray.size_extract]; omega
  have hscl := fun w => scale_any (fracIf s) w hfs (fracIf_digits s)
  obtain ⟨rI, rH⟩ := scale_round _ (fracIf_digits s)
  have HV := Lib.hid (parseV_ref s h)
  have HS := Lib.hid (ref_small s)
  have HB := Lib.hid (whole_byte s)
  have hlo : refLo s = wv 1000000 (wholeOf s).data.toList * 65536 + (dblN 16 (dvs (fracIf s).data.toList, 0)).2 := by unfold refLo; rw [rI]
  have hhi : refHi s = hiv (dblN 16 (dvs (fracIf s).data.toList, 0)).1 (refLo s) (dblN 16 (dvs (fracIf s).data.toList, 0)).1.length := by rw [hlo, rH]; rfl
  have r1 := (dblN_spec _ (dvs_dig9 (fracIf_digits s)) 16).1
  have r3 := (dblN_spec _ (dvs_dig9 (fracIf_digits s)) 16).2.2.1
  have hI := dblN_small _ (dvs_dig9 (fracIf_digits s)) 16 (by omega)
  have hlen : (dblN 16 (dvs (fracIf s).data.toList, 0)).1.length ≤ 60 := by
    rw [(dblN_spec _ (dvs_dig9 (fracIf_digits s)) 16).2.1]
    simp [dvs]
    omega
  have HWD := Lib.hid (run_digits s (sgn s))
  have HWL : Hid ((wholeOf s).data.toList.take (wholeOf s).size = (wholeOf s).data.toList) := List.take_of_length_le (by simp)
  rw [h] at hsc
  rw [hsg] at hp1
  have HX := Lib.hid hfr
  have HLo := Lib.hid hlo
  have HHi := Lib.hid hhi
  have HR9 := Lib.hid r1
  have hp2 : ptOf s ≤ 60 := by omega
  have hp3 : 1 ≤ ptOf s := by omega
  have HP1 := Lib.hid hp1
  have HSG := Lib.hid hsg
  clear h hw0 hlo hhi rI rH hfr hp1 r1 hsg
  generalize offOf s = off at *
  generalize (dblN 16 (dvs (fracIf s).data.toList, 0)).1 = D at *
  generalize (dblN 16 (dvs (fracIf s).data.toList, 0)).2 = I at *
  generalize hpt0 : ptOf s = pt at *
  have HP0 := Lib.hid hpt0
  clear hpt0



  go_enter Try.func25, Try.ntmps25
  go_wp2_with (fail)
  refine (hsc _).mono ?_
  rintro e1 w1 ⟨rfl, rfl⟩
  go_wp2_with (fail)
  go_loop [10, 11] (fun n c => ∃ k : Nat, c = .int .i64 k ∧ 1 ≤ k ∧ k ≤ pt ∧ n = .int .i64 (wv 1000000 ((wholeOf s).data.toList.take (k - 1)))) (fun _ c => pt - (intOf c).toNat)
  case atStart => exact ⟨1, rfl, by omega, hp3, by simp [wv]⟩
  case round =>
    obtain ⟨k, rfl, hk0, hk1, rfl⟩ := hrel
    obtain ⟨n0, n1⟩ := wv_bd (cap := 1000000) (by decide) ((wholeOf s).data.toList.take (k - 1)) (fun c hc => HWD.out c (List.mem_of_mem_take hc))
    by_cases hlt : k < pt
    · obtain ⟨hks, htk, hdk⟩ : ∃ hk : k < s.size, (wholeOf s).data.toList.take (k - 1 + 1) = (wholeOf s).data.toList.take (k - 1) ++ [s[k]] ∧ isD s[k] := by
        have e : sgn s + (k - 1) = k := by have := HSG.out; omega
        have := HB.out (k - 1) (by have := HP1.out; omega)
        simpa only [e] using this
      have d1 : 48 ≤ (s[k].toNat : Int) := hdk.1
      have d2 : (s[k].toNat : Int) ≤ 57 := hdk.2
      have HT : Hid (wv 1000000 ((wholeOf s).data.toList.take (k + 1 - 1)) = min (10 * wv 1000000 ((wholeOf s).data.toList.take (k - 1)) + ((s[k].toNat : Int) - 48)) 1000000) := by
        rw [show k + 1 - 1 = k - 1 + 1 by omega, htk, wv_snoc]
        exact rfl
      clear htk hdk
      generalize wv 1000000 ((wholeOf s).data.toList.take (k - 1)) = n at *
      go_wp2_with (fail)
      go_round
      case rel =>
        refine ⟨k + 1, by go_num, by omega, by omega, ?_⟩
        rw [HT.out]
        exact min_val (by omega)
      case measure => simp [intOf]; omega
    · have HN : Hid (wv 1000000 ((wholeOf s).data.toList.take (k - 1)) = wv 1000000 (wholeOf s).data.toList) := by
        have e : k - 1 = (wholeOf s).size := by have := HP1.out; omega
        rw [e, HWL.out]
        exact rfl
      have hLO := HLo.out
      rw [← HN.out] at hLO
      have HLO := Lib.hid hLO
      clear hLO
      generalize wv 1000000 ((wholeOf s).data.toList.take (k - 1)) = n at *
      have hkp : True := trivial
      have hX := HX.out
      go_wp2_with (fail)
      refine (hscl _).mono ?_
      rintro e2 w2 ⟨v, rfl, ⟨g, cap, rfl, hown⟩, hB2⟩
      clear hX
      go_wp2_with (fail)
      go_loop [15, 16] (fun h c => ∃ i : Nat, c = .int .i64 i ∧ i ≤ D.length ∧ h = .int .i64 (hiv D (n * 65536 + I) i)) (fun _ c => D.length - (intOf c).toNat)
      case atStart => exact ⟨0, rfl, Nat.zero_le _, by rw [hiv_zero]⟩
      case round =>
        obtain ⟨i, rfl, hi, rfl⟩ := hrel
        obtain ⟨b1, b2⟩ := hiv_bd D (n * 65536 + I) i
        by_cases hil : i < D.length
        · obtain ⟨x, hx0, hcell, hp, hq⟩ : ∃ x : Int, 0 ≤ x ∧ w2.cell? ⟨g, i, none⟩ = some (.int .i64 x) ∧ (0 < x → hiv D (n * 65536 + I) (i + 1) = n * 65536 + I + 1) ∧ (x = 0 → hiv D (n * 65536 + I) (i + 1) = hiv D (n * 65536 + I) i) :=
            ⟨D[i], (HR9.out D[i] (List.getElem_mem hil)).1, by rw [hown.cellAt i (by omega)]; simp [hil], hiv_pos D _ i hil, hiv_same D _ i hil⟩
          have HP := Lib.hid hp
          have HQ := Lib.hid hq
          clear hp hq
          by_cases hx : 0 < x
          · have HR := Lib.hid (HP.out hx)
            generalize hiv D (n * 65536 + I) i = y at *
            go_wp2_with (fail)
            go_round
            case rel => exact ⟨i + 1, by go_num, by omega, by rw [HR.out]⟩
            case measure => simp [intOf]; omega
          · have HR := Lib.hid (HQ.out (by omega))
            generalize hiv D (n * 65536 + I) i = y at *
            go_wp2_with (fail)
            go_round
            case rel => exact ⟨i + 1, by go_num, by omega, by rw [HR.out]⟩
            case measure => simp [intOf]; omega
        · obtain rfl : i = D.length := by omega
          have HXR : Hid (refHi s = hiv D (n * 65536 + I) D.length) := by rw [HHi.out, HLO.out]; exact rfl
          generalize hiv D (n * 65536 + I) D.length = X at *
          by_cases hbig : X < 2147483648
          · go_wp2_with (fail)
            refine (rvalid_yes X _ (by omega) hbig).mono ?_
            rintro e3 w3 ⟨rfl, rfl⟩
            go_wp2_with (fail)
            exact bodyPost_ret (results_tmp4 rfl _ _ _) rfl ⟨by rw [HV.out, HXR.out, HLO.out, if_pos hbig, if_pos HSG.out]; rfl, hB2⟩
          · go_wp2_with (fail)
            refine (rvalid_no X _ (by omega)).mono ?_
            rintro e3 w3 ⟨rfl, rfl⟩
            go_wp2_with (fail)
            exact bodyPost_ret (results_tmp4 rfl _ _ _) rfl ⟨by rw [HV.out, HXR.out, if_neg (by omega)]; rfl, hB2⟩

set_option maxHeartbeats 1500000 in
theorem rparse_neg_end (s : ByteArray) (w : World) (hs : s.size ≤ 60) (h : perr s = none) (hsg : sgn s = 1) (hpt : ptOf s = s.size) :
    Calls Try.prog 25 #[.string s] w fun e w' => e = .returned (quad (parseV s)) ∧ Below w.heap.size w w' := by
  have hsc := fun w => scan_any s w (by unfold maxLen; omega)
  have hw0 := whole_pos s h
  have hp1 : ptOf s = sgn s + (wholeOf s).size := rfl
  have hps : ptOf s ≤ s.size := by have := runAt_size s (sgn s) (by rw [hsg]; omega); unfold ptOf wholeOf; omega
  have h0 : 0 < s.size := by omega
  have hb0 : ((s[0].toNat : Int) == 45) = true := by
    rw [← byteAt_in s 0 h0]
    unfold sgn at hsg
    split at hsg
    · rename_i hc; rw [hc]; rfl
    · cases hsg
  have hfe : fracIf s = ByteArray.empty := by unfold fracIf; rw [if_neg (by omega)]; rfl
  have hfs : (fracIf s).size ≤ 60 := by rw [hfe]; decide
  have hscl := fun w => scale_any (fracIf s) w hfs (fracIf_digits s)
  obtain ⟨rI, rH⟩ := scale_round _ (fracIf_digits s)
  have HV := Lib.hid (parseV_ref s h)
  have HS := Lib.hid (ref_small s)
  have HB := Lib.hid (whole_byte s)
  have hlo : refLo s = wv 1000000 (wholeOf s).data.toList * 65536 + (dblN 16 (dvs (fracIf s).data.toList, 0)).2 := by unfold refLo; rw [rI]
  have hhi : refHi s = hiv (dblN 16 (dvs (fracIf s).data.toList, 0)).1 (refLo s) (dblN 16 (dvs (fracIf s).data.toList, 0)).1.length := by rw [hlo, rH]; rfl
  have r1 := (dblN_spec _ (dvs_dig9 (fracIf_digits s)) 16).1
  have r3 := (dblN_spec _ (dvs_dig9 (fracIf_digits s)) 16).2.2.1
  have hI := dblN_small _ (dvs_dig9 (fracIf_digits s)) 16 (by omega)
  have hlen : (dblN 16 (dvs (fracIf s).data.toList, 0)).1.length ≤ 60 := by
    rw [(dblN_spec _ (dvs_dig9 (fracIf_digits s)) 16).2.1]
    simp [dvs]
    omega
  have HWD := Lib.hid (run_digits s (sgn s))
  have HWL : Hid ((wholeOf s).data.toList.take (wholeOf s).size = (wholeOf s).data.toList) := List.take_of_length_le (by simp)
  rw [h] at hsc
  rw [hsg] at hp1
  simp only [hfe] at hscl hlo hhi r1 r3 hI hlen
  clear hfe hfs
  have HLo := Lib.hid hlo
  have HHi := Lib.hid hhi
  have HR9 := Lib.hid r1
  have hp2 : ptOf s ≤ 60 := by omega
  have hp3 : 1 ≤ ptOf s := by omega
  have HP1 := Lib.hid hp1
  have HSG := Lib.hid hsg
  clear h hw0 hlo hhi rI rH hp1 r1 hsg
  have HPT := Lib.hid hpt
  have hpt2 : ¬ ptOf s < s.size := by omega
  generalize offOf s = off at *
  generalize (dblN 16 (dvs (ByteArray.empty).data.toList, 0)).1 = D at *
  generalize (dblN 16 (dvs (ByteArray.empty).data.toList, 0)).2 = I at *
  generalize hpt0 : ptOf s = pt at *
  have HP0 := Lib.hid hpt0
  clear hpt0 hpt HP0
  have hpz := HPT.out
  clear HPT hps hpt2
  subst hpz
  go_enter Try.func25, Try.ntmps25
  go_wp2_with (fail)
  refine (hsc _).mono ?_
  rintro e1 w1 ⟨rfl, rfl⟩
  go_wp2_with (fail)
  go_loop [10, 11] (fun n c => ∃ k : Nat, c = .int .i64 k ∧ 1 ≤ k ∧ k ≤ s.size ∧ n = .int .i64 (wv 1000000 ((wholeOf s).data.toList.take (k - 1)))) (fun _ c => s.size - (intOf c).toNat)
  case atStart => exact ⟨1, rfl, by omega, hp3, by simp [wv]⟩
  case round =>
    obtain ⟨k, rfl, hk0, hk1, rfl⟩ := hrel
    obtain ⟨n0, n1⟩ := wv_bd (cap := 1000000) (by decide) ((wholeOf s).data.toList.take (k - 1)) (fun c hc => HWD.out c (List.mem_of_mem_take hc))
    by_cases hlt : k < s.size
    · obtain ⟨hks, htk, hdk⟩ : ∃ hk : k < s.size, (wholeOf s).data.toList.take (k - 1 + 1) = (wholeOf s).data.toList.take (k - 1) ++ [s[k]] ∧ isD s[k] := by
        have e : sgn s + (k - 1) = k := by have := HSG.out; omega
        have := HB.out (k - 1) (by have := HP1.out; omega)
        simpa only [e] using this
      have d1 : 48 ≤ (s[k].toNat : Int) := hdk.1
      have d2 : (s[k].toNat : Int) ≤ 57 := hdk.2
      have HT : Hid (wv 1000000 ((wholeOf s).data.toList.take (k + 1 - 1)) = min (10 * wv 1000000 ((wholeOf s).data.toList.take (k - 1)) + ((s[k].toNat : Int) - 48)) 1000000) := by
        rw [show k + 1 - 1 = k - 1 + 1 by omega, htk, wv_snoc]
        exact rfl
      clear htk hdk
      generalize wv 1000000 ((wholeOf s).data.toList.take (k - 1)) = n at *
      go_wp2_with (fail)
      go_round
      case rel =>
        refine ⟨k + 1, by go_num, by omega, by omega, ?_⟩
        rw [HT.out]
        exact min_val (by omega)
      case measure => simp [intOf]; omega
    · have HN : Hid (wv 1000000 ((wholeOf s).data.toList.take (k - 1)) = wv 1000000 (wholeOf s).data.toList) := by
        have e : k - 1 = (wholeOf s).size := by have := HP1.out; omega
        rw [e, HWL.out]
        exact rfl
      have hLO := HLo.out
      rw [← HN.out] at hLO
      have HLO := Lib.hid hLO
      clear hLO
      generalize wv 1000000 ((wholeOf s).data.toList.take (k - 1)) = n at *
      have hkp : True := trivial
      go_wp2_with (fail)
      refine (hscl _).mono ?_
      rintro e2 w2 ⟨v, rfl, ⟨g, cap, rfl, hown⟩, hB2⟩

      go_wp2_with (fail)
      go_loop [15, 16] (fun h c => ∃ i : Nat, c = .int .i64 i ∧ i ≤ D.length ∧ h = .int .i64 (hiv D (n * 65536 + I) i)) (fun _ c => D.length - (intOf c).toNat)
      case atStart => exact ⟨0, rfl, Nat.zero_le _, by rw [hiv_zero]⟩
      case round =>
        obtain ⟨i, rfl, hi, rfl⟩ := hrel
        obtain ⟨b1, b2⟩ := hiv_bd D (n * 65536 + I) i
        by_cases hil : i < D.length
        · obtain ⟨x, hx0, hcell, hp, hq⟩ : ∃ x : Int, 0 ≤ x ∧ w2.cell? ⟨g, i, none⟩ = some (.int .i64 x) ∧ (0 < x → hiv D (n * 65536 + I) (i + 1) = n * 65536 + I + 1) ∧ (x = 0 → hiv D (n * 65536 + I) (i + 1) = hiv D (n * 65536 + I) i) :=
            ⟨D[i], (HR9.out D[i] (List.getElem_mem hil)).1, by rw [hown.cellAt i (by omega)]; simp [hil], hiv_pos D _ i hil, hiv_same D _ i hil⟩
          have HP := Lib.hid hp
          have HQ := Lib.hid hq
          clear hp hq
          by_cases hx : 0 < x
          · have HR := Lib.hid (HP.out hx)
            generalize hiv D (n * 65536 + I) i = y at *
            go_wp2_with (fail)
            go_round
            case rel => exact ⟨i + 1, by go_num, by omega, by rw [HR.out]⟩
            case measure => simp [intOf]; omega
          · have HR := Lib.hid (HQ.out (by omega))
            generalize hiv D (n * 65536 + I) i = y at *
            go_wp2_with (fail)
            go_round
            case rel => exact ⟨i + 1, by go_num, by omega, by rw [HR.out]⟩
            case measure => simp [intOf]; omega
        · obtain rfl : i = D.length := by omega
          have HXR : Hid (refHi s = hiv D (n * 65536 + I) D.length) := by rw [HHi.out, HLO.out]; exact rfl
          generalize hiv D (n * 65536 + I) D.length = X at *
          by_cases hbig : X < 2147483648
          · go_wp2_with (fail)
            refine (rvalid_yes X _ (by omega) hbig).mono ?_
            rintro e3 w3 ⟨rfl, rfl⟩
            go_wp2_with (fail)
            exact bodyPost_ret (results_tmp4 rfl _ _ _) rfl ⟨by rw [HV.out, HXR.out, HLO.out, if_pos hbig, if_pos HSG.out]; rfl, hB2⟩
          · go_wp2_with (fail)
            refine (rvalid_no X _ (by omega)).mono ?_
            rintro e3 w3 ⟨rfl, rfl⟩
            go_wp2_with (fail)
            exact bodyPost_ret (results_tmp4 rfl _ _ _) rfl ⟨by rw [HV.out, HXR.out, if_neg (by omega)]; rfl, hB2⟩

set_option maxHeartbeats 1500000 in
theorem rparse_pos_dot (s : ByteArray) (w : World) (hs : s.size ≤ 60) (h : perr s = none) (hsg : sgn s = 0) (hpt : ptOf s < s.size) :
    Calls Try.prog 25 #[.string s] w fun e w' => e = .returned (quad (parseV s)) ∧ Below w.heap.size w w' := by
  have hsc := fun w => scan_any s w (by unfold maxLen; omega)
  have hw0 := whole_pos s h
  have hp1 : ptOf s = sgn s + (wholeOf s).size := rfl
  have hps : ptOf s ≤ s.size := by have := runAt_size s (sgn s) (by rw [hsg]; omega); unfold ptOf wholeOf; omega
  have h0 : 0 < s.size := by omega
  have hb0 : ((s[0].toNat : Int) == 45) = false := by
    rw [← byteAt_in s 0 h0]
    unfold sgn at hsg
    split at hsg
    · cases hsg
    · rename_i hc; simpa using hc
  have hfr := frac_all s h hpt
  have hfs : (fracIf s).size ≤ 60 := by rw [← hfr]; simp only [ByteArray.size_extract]; omega
  have hscl := fun w => scale_any (fracIf s) w hfs (fracIf_digits s)
  obtain ⟨rI, rH⟩ := scale_round _ (fracIf_digits s)
  have HV := Lib.hid (parseV_ref s h)
  have HS := Lib.hid (ref_small s)
  have HB := Lib.hid (whole_byte s)
  have hlo : refLo s = wv 1000000 (wholeOf s).data.toList * 65536 + (dblN 16 (dvs (fracIf s).data.toList, 0)).2 := by unfold refLo; rw [rI]
  have hhi : refHi s = hiv (dblN 16 (dvs (fracIf s).data.toList, 0)).1 (refLo s) (dblN 16 (dvs (fracIf s).data.toList, 0)).1.length := by rw [hlo, rH]; rfl
  have r1 := (dblN_spec _ (dvs_dig9 (fracIf_digits s)) 16).1
  have r3 := (dblN_spec _ (dvs_dig9 (fracIf_digits s)) 16).2.2.1
  have hI := dblN_small _ (dvs_dig9 (fracIf_digits s)) 16 (by omega)
  have hlen : (dblN 16 (dvs (fracIf s).data.toList, 0)).1.length ≤ 60 := by
    rw [(dblN_spec _ (dvs_dig9 (fracIf_digits s)) 16).2.1]
    simp [dvs]
    omega
  have HWD := Lib.hid (run_digits s (sgn s))
  have HWL : Hid ((wholeOf s).data.toList.take (wholeOf s).size = (wholeOf s).data.toList) := List.take_of_length_le (by simp)
  rw [h] at hsc
  rw [hsg] at hp1
  have HX := Lib.hid hfr
  have HLo := Lib.hid hlo
  have HHi := Lib.hid hhi
  have HR9 := Lib.hid r1
  have hp2 : ptOf s ≤ 60 := by omega
  have hp3 : 0 ≤ ptOf s := by omega
  have HP1 := Lib.hid hp1
  have HSG := Lib.hid hsg
  clear h hw0 hlo hhi rI rH hfr hp1 r1 hsg
  generalize offOf s = off at *
  generalize (dblN 16 (dvs (fracIf s).data.toList, 0)).1 = D at *
  generalize (dblN 16 (dvs (fracIf s).data.toList, 0)).2 = I at *
  generalize hpt0 : ptOf s = pt at *
  have HP0 := Lib.hid hpt0
  clear hpt0



  go_enter Try.func25, Try.ntmps25
  go_wp2_with (fail)
  refine (hsc _).mono ?_
  rintro e1 w1 ⟨rfl, rfl⟩
  go_wp2_with (fail)
  go_loop [10, 11] (fun n c => ∃ k : Nat, c = .int .i64 k ∧ 0 ≤ k ∧ k ≤ pt ∧ n = .int .i64 (wv 1000000 ((wholeOf s).data.toList.take (k - 0)))) (fun _ c => pt - (intOf c).toNat)
  case atStart => exact ⟨0, rfl, by omega, hp3, by simp [wv]⟩
  case round =>
    obtain ⟨k, rfl, hk0, hk1, rfl⟩ := hrel
    obtain ⟨n0, n1⟩ := wv_bd (cap := 1000000) (by decide) ((wholeOf s).data.toList.take (k - 0)) (fun c hc => HWD.out c (List.mem_of_mem_take hc))
    by_cases hlt : k < pt
    · obtain ⟨hks, htk, hdk⟩ : ∃ hk : k < s.size, (wholeOf s).data.toList.take (k - 0 + 1) = (wholeOf s).data.toList.take (k - 0) ++ [s[k]] ∧ isD s[k] := by
        have e : sgn s + (k - 0) = k := by have := HSG.out; omega
        have := HB.out (k - 0) (by have := HP1.out; omega)
        simpa only [e] using this
      have d1 : 48 ≤ (s[k].toNat : Int) := hdk.1
      have d2 : (s[k].toNat : Int) ≤ 57 := hdk.2
      have HT : Hid (wv 1000000 ((wholeOf s).data.toList.take (k + 1 - 0)) = min (10 * wv 1000000 ((wholeOf s).data.toList.take (k - 0)) + ((s[k].toNat : Int) - 48)) 1000000) := by
        rw [show k + 1 - 0 = k - 0 + 1 by omega, htk, wv_snoc]
        exact rfl
      clear htk hdk
      generalize wv 1000000 ((wholeOf s).data.toList.take (k - 0)) = n at *
      go_wp2_with (fail)
      go_round
      case rel =>
        refine ⟨k + 1, by go_num, by omega, by omega, ?_⟩
        rw [HT.out]
        exact min_val (by omega)
      case measure => simp [intOf]; omega
    · have HN : Hid (wv 1000000 ((wholeOf s).data.toList.take (k - 0)) = wv 1000000 (wholeOf s).data.toList) := by
        have e : k - 0 = (wholeOf s).size := by have := HP1.out; omega
        rw [e, HWL.out]
        exact rfl
      have hLO := HLo.out
      rw [← HN.out] at hLO
      have HLO := Lib.hid hLO
      clear hLO
      generalize wv 1000000 ((wholeOf s).data.toList.take (k - 0)) = n at *
      have hkp : True := trivial
      have hX := HX.out
      go_wp2_with (fail)
      refine (hscl _).mono ?_
      rintro e2 w2 ⟨v, rfl, ⟨g, cap, rfl, hown⟩, hB2⟩
      clear hX
      go_wp2_with (fail)
      go_loop [15, 16] (fun h c => ∃ i : Nat, c = .int .i64 i ∧ i ≤ D.length ∧ h = .int .i64 (hiv D (n * 65536 + I) i)) (fun _ c => D.length - (intOf c).toNat)
      case atStart => exact ⟨0, rfl, Nat.zero_le _, by rw [hiv_zero]⟩
      case round =>
        obtain ⟨i, rfl, hi, rfl⟩ := hrel
        obtain ⟨b1, b2⟩ := hiv_bd D (n * 65536 + I) i
        by_cases hil : i < D.length
        · obtain ⟨x, hx0, hcell, hp, hq⟩ : ∃ x : Int, 0 ≤ x ∧ w2.cell? ⟨g, i, none⟩ = some (.int .i64 x) ∧ (0 < x → hiv D (n * 65536 + I) (i + 1) = n * 65536 + I + 1) ∧ (x = 0 → hiv D (n * 65536 + I) (i + 1) = hiv D (n * 65536 + I) i) :=
            ⟨D[i], (HR9.out D[i] (List.getElem_mem hil)).1, by rw [hown.cellAt i (by omega)]; simp [hil], hiv_pos D _ i hil, hiv_same D _ i hil⟩
          have HP := Lib.hid hp
          have HQ := Lib.hid hq
          clear hp hq
          by_cases hx : 0 < x
          · have HR := Lib.hid (HP.out hx)
            generalize hiv D (n * 65536 + I) i = y at *
            go_wp2_with (fail)
            go_round
            case rel => exact ⟨i + 1, by go_num, by omega, by rw [HR.out]⟩
            case measure => simp [intOf]; omega
          · have HR := Lib.hid (HQ.out (by omega))
            generalize hiv D (n * 65536 + I) i = y at *
            go_wp2_with (fail)
            go_round
            case rel => exact ⟨i + 1, by go_num, by omega, by rw [HR.out]⟩
            case measure => simp [intOf]; omega
        · obtain rfl : i = D.length := by omega
          have HXR : Hid (refHi s = hiv D (n * 65536 + I) D.length) := by rw [HHi.out, HLO.out]; exact rfl
          generalize hiv D (n * 65536 + I) D.length = X at *
          by_cases hbig : X < 2147483648
          · go_wp2_with (fail)
            refine (rvalid_yes X _ (by omega) hbig).mono ?_
            rintro e3 w3 ⟨rfl, rfl⟩
            go_wp2_with (fail)
            exact bodyPost_ret (results_tmp4 rfl _ _ _) rfl ⟨by rw [HV.out, HXR.out, HLO.out, if_pos hbig, if_neg (by have := HSG.out; omega)]; rfl, hB2⟩
          · go_wp2_with (fail)
            refine (rvalid_no X _ (by omega)).mono ?_
            rintro e3 w3 ⟨rfl, rfl⟩
            go_wp2_with (fail)
            exact bodyPost_ret (results_tmp4 rfl _ _ _) rfl ⟨by rw [HV.out, HXR.out, if_neg (by omega)]; rfl, hB2⟩

set_option maxHeartbeats 1500000 in
theorem rparse_pos_end (s : ByteArray) (w : World) (hs : s.size ≤ 60) (h : perr s = none) (hsg : sgn s = 0) (hpt : ptOf s = s.size) :
    Calls Try.prog 25 #[.string s] w fun e w' => e = .returned (quad (parseV s)) ∧ Below w.heap.size w w' := by
  have hsc := fun w => scan_any s w (by unfold maxLen; omega)
  have hw0 := whole_pos s h
  have hp1 : ptOf s = sgn s + (wholeOf s).size := rfl
  have hps : ptOf s ≤ s.size := by have := runAt_size s (sgn s) (by rw [hsg]; omega); unfold ptOf wholeOf; omega
  have h0 : 0 < s.size := by omega
  have hb0 : ((s[0].toNat : Int) == 45) = false := by
    rw [← byteAt_in s 0 h0]
    unfold sgn at hsg
    split at hsg
    · cases hsg
    · rename_i hc; simpa using hc
  have hfe : fracIf s = ByteArray.empty := by unfold fracIf; rw [if_neg (by omega)]; rfl
  have hfs : (fracIf s).size ≤ 60 := by rw [hfe]; decide
  have hscl := fun w => scale_any (fracIf s) w hfs (fracIf_digits s)
  obtain ⟨rI, rH⟩ := scale_round _ (fracIf_digits s)
  have HV := Lib.hid (parseV_ref s h)
  have HS := Lib.hid (ref_small s)
  have HB := Lib.hid (whole_byte s)
  have hlo : refLo s = wv 1000000 (wholeOf s).data.toList * 65536 + (dblN 16 (dvs (fracIf s).data.toList, 0)).2 := by unfold refLo; rw [rI]
  have hhi : refHi s = hiv (dblN 16 (dvs (fracIf s).data.toList, 0)).1 (refLo s) (dblN 16 (dvs (fracIf s).data.toList, 0)).1.length := by rw [hlo, rH]; rfl
  have r1 := (dblN_spec _ (dvs_dig9 (fracIf_digits s)) 16).1
  have r3 := (dblN_spec _ (dvs_dig9 (fracIf_digits s)) 16).2.2.1
  have hI := dblN_small _ (dvs_dig9 (fracIf_digits s)) 16 (by omega)
  have hlen : (dblN 16 (dvs (fracIf s).data.toList, 0)).1.length ≤ 60 := by
    rw [(dblN_spec _ (dvs_dig9 (fracIf_digits s)) 16).2.1]
    simp [dvs]
    omega
  have HWD := Lib.hid (run_digits s (sgn s))
  have HWL : Hid ((wholeOf s).data.toList.take (wholeOf s).size = (wholeOf s).data.toList) := List.take_of_length_le (by simp)
  rw [h] at hsc
  rw [hsg] at hp1
  simp only [hfe] at hscl hlo hhi r1 r3 hI hlen
  clear hfe hfs
  have HLo := Lib.hid hlo
  have HHi := Lib.hid hhi
  have HR9 := Lib.hid r1
  have hp2 : ptOf s ≤ 60 := by omega
  have hp3 : 0 ≤ ptOf s := by omega
  have HP1 := Lib.hid hp1
  have HSG := Lib.hid hsg
  clear h hw0 hlo hhi rI rH hp1 r1 hsg
  have HPT := Lib.hid hpt
  have hpt2 : ¬ ptOf s < s.size := by omega
  generalize offOf s = off at *
  generalize (dblN 16 (dvs (ByteArray.empty).data.toList, 0)).1 = D at *
  generalize (dblN 16 (dvs (ByteArray.empty).data.toList, 0)).2 = I at *
  generalize hpt0 : ptOf s = pt at *
  have HP0 := Lib.hid hpt0
  clear hpt0 hpt HP0
  have hpz := HPT.out
  clear HPT hps hpt2
  subst hpz
  go_enter Try.func25, Try.ntmps25
  go_wp2_with (fail)
  refine (hsc _).mono ?_
  rintro e1 w1 ⟨rfl, rfl⟩
  go_wp2_with (fail)
  go_loop [10, 11] (fun n c => ∃ k : Nat, c = .int .i64 k ∧ 0 ≤ k ∧ k ≤ s.size ∧ n = .int .i64 (wv 1000000 ((wholeOf s).data.toList.take (k - 0)))) (fun _ c => s.size - (intOf c).toNat)
  case atStart => exact ⟨0, rfl, by omega, hp3, by simp [wv]⟩
  case round =>
    obtain ⟨k, rfl, hk0, hk1, rfl⟩ := hrel
    obtain ⟨n0, n1⟩ := wv_bd (cap := 1000000) (by decide) ((wholeOf s).data.toList.take (k - 0)) (fun c hc => HWD.out c (List.mem_of_mem_take hc))
    by_cases hlt : k < s.size
    · obtain ⟨hks, htk, hdk⟩ : ∃ hk : k < s.size, (wholeOf s).data.toList.take (k - 0 + 1) = (wholeOf s).data.toList.take (k - 0) ++ [s[k]] ∧ isD s[k] := by
        have e : sgn s + (k - 0) = k := by have := HSG.out; omega
        have := HB.out (k - 0) (by have := HP1.out; omega)
        simpa only [e] using this
      have d1 : 48 ≤ (s[k].toNat : Int) := hdk.1
      have d2 : (s[k].toNat : Int) ≤ 57 := hdk.2
      have HT : Hid (wv 1000000 ((wholeOf s).data.toList.take (k + 1 - 0)) = min (10 * wv 1000000 ((wholeOf s).data.toList.take (k - 0)) + ((s[k].toNat : Int) - 48)) 1000000) := by
        rw [show k + 1 - 0 = k - 0 + 1 by omega, htk, wv_snoc]
        exact rfl
      clear htk hdk
      generalize wv 1000000 ((wholeOf s).data.toList.take (k - 0)) = n at *
      go_wp2_with (fail)
      go_round
      case rel =>
        refine ⟨k + 1, by go_num, by omega, by omega, ?_⟩
        rw [HT.out]
        exact min_val (by omega)
      case measure => simp [intOf]; omega
    · have HN : Hid (wv 1000000 ((wholeOf s).data.toList.take (k - 0)) = wv 1000000 (wholeOf s).data.toList) := by
        have e : k - 0 = (wholeOf s).size := by have := HP1.out; omega
        rw [e, HWL.out]
        exact rfl
      have hLO := HLo.out
      rw [← HN.out] at hLO
      have HLO := Lib.hid hLO
      clear hLO
      generalize wv 1000000 ((wholeOf s).data.toList.take (k - 0)) = n at *
      have hkp : True := trivial
      go_wp2_with (fail)
      refine (hscl _).mono ?_
      rintro e2 w2 ⟨v, rfl, ⟨g, cap, rfl, hown⟩, hB2⟩

      go_wp2_with (fail)
      go_loop [15, 16] (fun h c => ∃ i : Nat, c = .int .i64 i ∧ i ≤ D.length ∧ h = .int .i64 (hiv D (n * 65536 + I) i)) (fun _ c => D.length - (intOf c).toNat)
      case atStart => exact ⟨0, rfl, Nat.zero_le _, by rw [hiv_zero]⟩
      case round =>
        obtain ⟨i, rfl, hi, rfl⟩ := hrel
        obtain ⟨b1, b2⟩ := hiv_bd D (n * 65536 + I) i
        by_cases hil : i < D.length
        · obtain ⟨x, hx0, hcell, hp, hq⟩ : ∃ x : Int, 0 ≤ x ∧ w2.cell? ⟨g, i, none⟩ = some (.int .i64 x) ∧ (0 < x → hiv D (n * 65536 + I) (i + 1) = n * 65536 + I + 1) ∧ (x = 0 → hiv D (n * 65536 + I) (i + 1) = hiv D (n * 65536 + I) i) :=
            ⟨D[i], (HR9.out D[i] (List.getElem_mem hil)).1, by rw [hown.cellAt i (by omega)]; simp [hil], hiv_pos D _ i hil, hiv_same D _ i hil⟩
          have HP := Lib.hid hp
          have HQ := Lib.hid hq
          clear hp hq
          by_cases hx : 0 < x
          · have HR := Lib.hid (HP.out hx)
            generalize hiv D (n * 65536 + I) i = y at *
            go_wp2_with (fail)
            go_round
            case rel => exact ⟨i + 1, by go_num, by omega, by rw [HR.out]⟩
            case measure => simp [intOf]; omega
          · have HR := Lib.hid (HQ.out (by omega))
            generalize hiv D (n * 65536 + I) i = y at *
            go_wp2_with (fail)
            go_round
            case rel => exact ⟨i + 1, by go_num, by omega, by rw [HR.out]⟩
            case measure => simp [intOf]; omega
        · obtain rfl : i = D.length := by omega
          have HXR : Hid (refHi s = hiv D (n * 65536 + I) D.length) := by rw [HHi.out, HLO.out]; exact rfl
          generalize hiv D (n * 65536 + I) D.length = X at *
          by_cases hbig : X < 2147483648
          · go_wp2_with (fail)
            refine (rvalid_yes X _ (by omega) hbig).mono ?_
            rintro e3 w3 ⟨rfl, rfl⟩
            go_wp2_with (fail)
            exact bodyPost_ret (results_tmp4 rfl _ _ _) rfl ⟨by rw [HV.out, HXR.out, HLO.out, if_pos hbig, if_neg (by have := HSG.out; omega)]; rfl, hB2⟩
          · go_wp2_with (fail)
            refine (rvalid_no X _ (by omega)).mono ?_
            rintro e3 w3 ⟨rfl, rfl⟩
            go_wp2_with (fail)
            exact bodyPost_ret (results_tmp4 rfl _ _ _) rfl ⟨by rw [HV.out, HXR.out, if_neg (by omega)]; rfl, hB2⟩


theorem rparse_any (s : ByteArray) (w : World) (hs : s.size ≤ 60) :
    Calls Try.prog 25 #[.string s] w fun e w' => e = .returned (quad (parseV s)) ∧ Below w.heap.size w w' := by
  cases h : perr s with
  | some o =>
    have e : parseV s = (0, 0, (o : Int), 10) := by unfold parseV; rw [h]
    rw [e]
    refine (rparse_err s o w (by unfold maxLen; omega) h).mono ?_
    rintro e w' ⟨rfl, rfl⟩
    exact ⟨rfl, Below.refl _ _⟩
  | none =>
    have hp : ptOf s < s.size ∨ ptOf s = s.size := by
      have hw := whole_pos s h
      have : sgn s ≤ s.size := by
        unfold sgn
        split
        · rename_i hc
          refine Nat.succ_le_of_lt ?_
          rcases Nat.lt_or_ge 0 s.size with h0 | h0
          · exact h0
          · unfold byteAt at hc
            rw [dif_neg (by omega)] at hc
            cases hc
        · exact Nat.zero_le _
      have := runAt_size s (sgn s) this
      unfold ptOf wholeOf
      omega
    have hg : sgn s = 1 ∨ sgn s = 0 := by unfold sgn; split <;> simp
    rcases hg with hg | hg <;> rcases hp with hp | hp
    · exact rparse_neg_dot s w hs h hg hp
    · exact rparse_neg_end s w hs h hg hp
    · exact rparse_pos_dot s w hs h hg hp
    · exact rparse_pos_end s w hs h hg hp
end Go.Proofs.Ytjjllfaehipemaa
