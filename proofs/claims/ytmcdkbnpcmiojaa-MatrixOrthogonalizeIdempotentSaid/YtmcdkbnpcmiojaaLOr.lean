/-
  law04: MatrixOrthogonality.
-/
import Derived.Test.YtmcdkbnpcmiojaaOrthA
import Derived.Test.YtmcdkbnpcmiojaaRefC
import Derived.Test.YtmcdkbnpcmiojaaSan4
import Derived.Test.YtmcdkbnpcmiojaaRead4
namespace Go.Proofs.Ytmcdkbnpcmiojaa
open Go.ChangeShapes Go.WideShapes Go.ChangeAt Go.RowKit
set_option linter.unusedVariables false
set_option linter.unusedSimpArgs false
set_option maxRecDepth 100000

attribute [local irreducible] Calls
attribute [local go_sem ↓] run_max_two run_min_two run_max_three in
theorem abs_big (x : Int) (w : World) (h : -1125899906842624 ≤ x ∧ x ≤ 1125899906842624) :
    Calls Try.prog 12 #[.int .i64 x] w fun e w' => e = .returned (.int .i64 (max x (-x))) ∧ w = w' := by
  obtain ⟨h1, h2⟩ := h
  go_enter Try.func12, Try.ntmps12
  go_wp2_with (fail)
  go_ret
  exact ⟨rfl, rfl⟩
set_option maxHeartbeats 4000000 in
theorem bounded_ok (v : Value) (P : List (List Int)) (n : Nat) (w : World) (hv : Nx w v P) (hP : P.length = n) (hr : ∀ r ∈ P, r.length = n ∧ ∀ x ∈ r, -1048576 ≤ x ∧ x ≤ 1048576) (h6 : n ≤ 6) :
    Calls Try.prog 9 #[v, .int .i64 (n : Int)] w fun e w' => e = .returned (.bool true) ∧ Below w.heap.size w w' := by
  obtain ⟨p, c, rfl⟩ := hv.shape hP
  have HV := Lib.hid hv
  have HP := Lib.hid hP
  have HR := Lib.hid hr
  have q0 : ((n : Int) != (n : Int)) = false := by simp
  clear hv hP hr
  go_enter Try.func9, Try.ntmps9
  go_wp2_with (fail)
  go_loopw [5] (fun i wr => ∃ k : Nat, i = .int .i64 k ∧ k ≤ n ∧ Below w.heap.size w wr) (fun i _ => n - (intOf i).toNat)
  case atStart => exact ⟨0, rfl, Nat.zero_le _, Below.refl _ _⟩
  case round =>
    obtain ⟨k, rfl, hk, hB⟩ := hrel
    by_cases hlt : k < n
    · have ik : (k : Int) < n := by omega
      obtain ⟨r, hrk⟩ : ∃ r, P[k]? = some r := ⟨_, List.getElem?_eq_getElem (by rw [HP.out]; exact hlt)⟩
      obtain ⟨hrl, hrx⟩ := HR.out r (List.mem_of_getElem? hrk)
      obtain ⟨b, o, b2, o2, c2, rfl, f1, f2⟩ := nx_open HV.out hrk (by omega)
      rw [hrl] at f1
      have HRL := Lib.hid hrl
      have HRX := Lib.hid hrx
      have HF1 := Lib.hid f1
      have HF2 := Lib.hid f2
      have h1 := f1 ⟨wr, hB⟩
      dsimp only at h1
      obtain ⟨W0, rfl⟩ : ∃ W0, W0 = wr := ⟨_, rfl⟩
      clear f1 f2 hrk hrl hrx
      go_wp2_with (fail)
      go_loopw [6] (fun i wr => ∃ d : Nat, i = .int .i64 d ∧ d ≤ n ∧ Below w.heap.size w wr) (fun i _ => n - (intOf i).toNat)
      case atStart => exact ⟨0, rfl, Nat.zero_le _, hB⟩
      case round =>
        clear h1
        obtain ⟨d, rfl, hd, hB1⟩ := hrel
        by_cases hdn : d < n
        · have id : (d : Int) < n := by omega
          obtain ⟨x, hx⟩ : ∃ x, r[d]? = some x := ⟨_, List.getElem?_eq_getElem (by rw [HRL.out]; exact hdn)⟩
          have hxb := HRX.out x (List.mem_of_getElem? hx)
          have h1 := HF1.out ⟨wr, hB1⟩
          have h2 := HF2.out ⟨wr, hB1⟩ d x hx
          dsimp only at h1 h2
          have hc := fun w => abs_big x w (by omega)
          obtain ⟨y, hy⟩ : ∃ y, max x (-x) = y := ⟨_, rfl⟩
          rw [hy] at hc
          have hy2 : y ≤ 1048576 := by omega
          have HC := Lib.hid hc
          clear hx hc hxb hy
          go_wp2_with (fail)
          refine (HC.out _).mono ?_
          rintro e w' ⟨rfl, rfl⟩
          go_wp2_with (fail)
          go_roundw
          case rel => exact ⟨d + 1, by go_num, by omega, hB1⟩
          case measure => simp [intOf]; omega
        · obtain rfl : d = n := by omega
          go_wp2_with (fail)
          go_roundw
          case rel => exact ⟨k + 1, by go_num, by omega, hB1⟩
          case measure => simp [intOf]; omega
    · obtain rfl : k = n := by omega
      go_wp2_with (fail)
      go_ret
      exact ⟨rfl, hB⟩
theorem dot_fst {u v : V4} {n : Nat} (h1 : 1 ≤ n) (h4 : n ≤ 4) (hu : u.sup n) : dotN (u.fst n) (v.fst n) = u.dot v := by
  obtain ⟨s1, s2, s3⟩ := hu
  match n, h1, h4 with
  | 1, _, _ => simp [dotN, V4.fst, V4.l, V4.dot, s1 (by decide), s2 (by decide), s3 (by decide)]
  | 2, _, _ => simp [dotN, V4.fst, V4.l, V4.dot, s2 (by decide), s3 (by decide)]
  | 3, _, _ => simp [dotN, V4.fst, V4.l, V4.dot, s3 (by decide)]; omega
  | 4, _, _ => simp [dotN, V4.fst, V4.l, V4.dot]; omega
theorem col_orth {M : List (List Int)} {n j : Nat} {fs : List V4} {q : V4} (h4 : n ≤ 4) (he : frameV M n n = fs.map V4.l) (hj : j < n) (hq : fs[j]? = some q) : colL (matOf (orthF M n) n) j = q.fst n := by
  apply List.ext_getElem?
  intro i
  unfold colL matOf V4.fst
  rw [List.map_map, List.getElem?_map]
  by_cases hi : i < n
  · rw [List.getElem?_range hi, Option.map_some, List.getElem?_take, if_pos hi]
    have hl : q.l[i]? = some (q.l[i]'(by simp [V4.l]; omega)) := List.getElem?_eq_getElem _
    rw [hl]
    congr 1
    show ((rowOf (orthF M n) n i)[j]?).getD 0 = _
    unfold rowOf
    rw [List.getElem?_map, List.getElem?_range hj, Option.map_some, Option.getD_some]
    unfold orthF
    rw [he, List.getElem?_map, hq, Option.map_some, Option.bind_some, hl, Option.getD_some]
  · rw [List.getElem?_eq_none (by simpa using Nat.le_of_not_lt hi), List.getElem?_eq_none (by simp [V4.l]; omega)]
    rfl
theorem zip_bd {u v : List Int} (hu : ∀ a ∈ u, -65556 ≤ a ∧ a ≤ 65556) (hv : ∀ a ∈ v, -65556 ≤ a ∧ a ≤ 65556) : ∀ z ∈ u.zip v, -4503599627370496 ≤ z.1 * z.2 ∧ z.1 * z.2 ≤ 4503599627370496 := fun z hz => by
  have a := hu z.1 (List.of_mem_zip hz).1
  have b := hv z.2 (List.of_mem_zip hz).2
  have := mul_bound z.1 z.2 65556 65556 a.1 a.2 b.1 b.2
  omega
theorem orth_rows {M : List (List Int)} {n : Nat} {fs : List V4} (he : frameV M n n = fs.map V4.l) (hg : Good n fs) : ∀ r ∈ matOf (orthF M n) n, r.length = n ∧ ∀ x ∈ r, -1048576 ≤ x ∧ x ≤ 1048576 := fun r hr => by
  unfold matOf at hr
  rw [List.mem_map] at hr
  obtain ⟨i, _, rfl⟩ := hr
  refine ⟨by simp [rowOf], fun x hx => ?_⟩
  unfold rowOf at hx
  rw [List.mem_map] at hx
  obtain ⟨j, _, rfl⟩ := hx
  unfold orthF
  rw [he, List.getElem?_map]
  cases hq : fs[j]? with
  | none => simp
  | some q =>
    rw [Option.map_some, Option.bind_some]
    cases ha : q.l[i]? with
    | none => simp
    | some a =>
      have := comp_bd (A := 65556) (by decide) (V4.nrm_sq (hg.1 q (List.mem_of_getElem? hq)).1) a (List.mem_of_getElem? ha)
      rw [Option.getD_some]
      omega
set_option maxHeartbeats 16000000 in
theorem orthogonality (w : World) (vl : Value) (l : List Int) (hl : Pt w vl l ∧ ∀ x ∈ l, -9223372036854775808 ≤ x ∧ x ≤ 9223372036854775807) (n : Int) (hn : (Lit.int .u8 n).wf = true) :
    Calls Try.prog 3 #[vl, .int .u8 n] w fun e w' => e = .returned (.bool true) ∧ Below w.heap.size w w' := by
  have hn0 := (bounds_u8 hn).1
  have hn1 : n < 256 := by have := (bounds_u8 hn).2; omega
  have hm0 : 0 ≤ n % 4 := Int.emod_nonneg _ (by decide)
  have hm1 : n % 4 < 4 := Int.emod_lt_of_pos _ (by decide)
  obtain ⟨k, hk⟩ : ∃ k : Nat, 1 + n % 4 = (k : Int) := ⟨(1 + n % 4).toNat, by omega⟩
  have hk1 : 1 ≤ k := by omega
  have hk4 : k ≤ 4 := by omega
  obtain ⟨hl1, hl2⟩ := hl
  have HL1 := Lib.hid hl1
  have HL2 := Lib.hid hl2
  have HD := Lib.hid (r4dim n · hn0 hn1)
  rw [hk] at HD
  clear hl1 hl2 hn hk hm0 hm1
  go_enter Try.func3, Try.ntmps3
  go_wp2_with (fail)
  refine (sanity4 _).mono ?_
  rintro e w1 ⟨rfl, hB1⟩
  go_wp2_with (fail)
  refine (HD.out _).mono ?_
  rintro e w2 ⟨rfl, rfl⟩
  go_wp2_with (fail)
  refine (r4numbers vl l k _ (HL1.out.grow hB1) HL2.out hk1 (by omega)).mono ?_
  rintro e w3 ⟨u, us, M, rfl, hM, hMr, hO, hB3⟩
  have hB13 := below_then hB1 hB3
  have hnx := hO.nx (by rw [hM]; unfold maxLen; omega) fun r hr => by rw [(hMr r hr).1]; unfold maxLen; omega
  have hMb : ∀ r ∈ M, ∀ x ∈ r, -16777216 ≤ x ∧ x ≤ 16777216 := fun r hr x hx => by
    have := (hMr r hr).2 x hx
    omega
  have hpre := orth_pre hM hk4 hMb
  obtain ⟨fs, hfl, hfe, hfg⟩ := frame_good hM hk4 hMb k (Nat.le_refl _)
  have HC := Lib.hid (orth_ok u M k w3 hnx hM hk1 (by omega) (fun r hr => (hMr r hr).1) hpre.1 hpre.2)
  obtain ⟨O, hOO⟩ : ∃ O, matOf (orthF M k) k = O := ⟨_, rfl⟩
  have hOl : O.length = k := by rw [← hOO]; simp [matOf]
  have hOr := orth_rows hfe hfg
  have hcol : ∀ j q, j < k → fs[j]? = some q → colL O j = q.fst k := fun j q hj hq => by rw [← hOO]; exact col_orth hk4 hfe hj hq
  rw [hOO] at HC hOr
  have HOL := Lib.hid hOl
  have HOR := Lib.hid hOr
  have HCOL := Lib.hid hcol
  have HFL := Lib.hid hfl
  have HFG := Lib.hid hfg
  clear hM hMr hO hnx hMb hpre hfl hfe hfg hOO hOl hOr hcol
  go_wp2_with (fail)
  refine HC.out.mono ?_
  rintro e w4 ⟨v, rfl, hv, hB4⟩
  have hB14 := below_then hB13 hB4
  have HV := Lib.hid hv
  clear HC hv hB4 hB3 hB13
  go_wp2_with (fail)
  refine (bounded_ok v O k _ HV.out HOL.out HOR.out (by omega)).mono ?_
  rintro e w5 ⟨rfl, hB5⟩
  have hV5 := Lib.hid (HV.out.grow grows_pt hB5)
  have hB15 := below_then hB14 hB5
  obtain ⟨WV, hWV⟩ : ∃ W, W = w5 := ⟨_, rfl⟩
  subst hWV
  clear HV hB5 hB14
  go_wp2_with (fail)
  go_loopw [8] (fun i wr => ∃ d : Nat, i = .int .i64 d ∧ d ≤ k ∧ Below WV.heap.size WV wr) (fun i _ => k - (intOf i).toNat)
  case atStart => exact ⟨0, rfl, Nat.zero_le _, Below.refl _ _⟩
  case round =>
    obtain ⟨d, rfl, hd, hB⟩ := hrel
    by_cases hdk : d < k
    · have idk : (d : Int) < k := by omega
      obtain ⟨q, hq⟩ : ∃ q, fs[d]? = some q := ⟨_, List.getElem?_eq_getElem (by rw [HFL.out]; exact hdk)⟩
      obtain ⟨hqn, hqs⟩ := HFG.out.1 q (List.mem_of_getElem? hq)
      have hcq := HCOL.out d q hdk hq
      have HQ := Lib.hid hq
      have HQN := Lib.hid hqn
      have HQS := Lib.hid hqs
      have hself : dotN (q.fst k) (q.fst k) = q.dot q := dot_fst hk1 hk4 hqs
      have HC1 := Lib.hid (r4column v O d wr (hV5.out.grow grows_pt hB) (by rw [HOL.out]; omega) fun r hr => by rw [(HOR.out r hr).1]; exact hdk)
      rw [hcq] at HC1
      obtain ⟨sq, hsq⟩ : ∃ s, q.dot q = s := ⟨_, rfl⟩
      have t1 : 4290774016 ≤ sq := by rw [← hsq]; have := hqn.1; omega
      have t2 : sq ≤ 4299162624 := by rw [← hsq]; have := hqn.2; omega
      rw [hsq] at hself
      have HSF := Lib.hid hself
      have hql : (q.fst k).length = k := by simp [V4.fst, V4.l]; omega
      have HQL := Lib.hid hql
      have s1 : decide (sq < 4290774016) = false := decide_eq_false (by omega)
      have s2 : decide (4299162624 < sq) = false := decide_eq_false (by omega)
      clear hq hqn hqs hcq hself hsq hql
      go_wp2_with (fail)
      refine HC1.out.mono ?_
      rintro e w6 ⟨vq, rfl, hvq, hB6⟩
      have hBW6 := below_then hB hB6
      have HC2 := Lib.hid (r4dot vq vq (q.fst k) (q.fst k) w6 hvq hvq (by rw [HQL.out]; omega) rfl (zip_bd (fst_bd HQN.out k) (fst_bd HQN.out k)))
      rw [HSF.out] at HC2
      have HVQ := Lib.hid hvq
      clear hvq
      go_wp2_with (fail)
      refine HC2.out.mono ?_
      rintro e w7 ⟨rfl, hB7⟩
      have hBW7 := below_then hBW6 hB7
      have HV7 := Lib.hid (HVQ.out.grow hB7)
      clear HVQ HC1 HC2
      go_wp2_with (fail)
      obtain ⟨W7, hW7⟩ : ∃ W, W = w7 := ⟨_, rfl⟩
      subst hW7
      go_loopw [11] (fun i wr => ∃ m : Nat, i = .int .i64 m ∧ m ≤ d ∧ Below W7.heap.size W7 wr) (fun i _ => d - (intOf i).toNat)
      case atStart => exact ⟨0, rfl, Nat.zero_le _, Below.refl _ _⟩
      case round =>
        obtain ⟨m, rfl, hm, hBm⟩ := hrel
        by_cases hmd : m < d
        · have imd : (m : Int) < d := by omega
          obtain ⟨p, hp⟩ : ∃ p, fs[m]? = some p := ⟨_, List.getElem?_eq_getElem (by rw [HFL.out]; omega)⟩
          obtain ⟨hpn, hps⟩ := HFG.out.1 p (List.mem_of_getElem? hp)
          have hcp := HCOL.out m p (by omega) hp
          have hdb := HFG.out.2 m d p q hmd hp HQ.out
          have hlim : lim d ≤ 67108864 := by unfold lim; split <;> decide
          have hdot : dotN (q.fst k) (p.fst k) = q.dot p := dot_fst hk1 hk4 HQS.out
          obtain ⟨z, hz⟩ : ∃ z, q.dot p = z := ⟨_, rfl⟩
          have hzb : -67108864 ≤ z ∧ z ≤ 67108864 := by
            rw [← hz, V4.dot_comm]
            exact ⟨by have := hdb.1; omega, by have := hdb.2; omega⟩
          rw [hz] at hdot
          have HDOT := Lib.hid hdot
          have HPN := Lib.hid hpn
          have hpl : (p.fst k).length = k := by simp [V4.fst, V4.l]; omega
          have HPL := Lib.hid hpl
          have HC1 := Lib.hid (r4column v O m wr (hV5.out.grow grows_pt (below_then hBW7 hBm)) (by rw [HOL.out]; omega) fun r hr => by rw [(HOR.out r hr).1]; omega)
          rw [hcp] at HC1
          have hca := fun w => abs_big z w (by omega)
          obtain ⟨y, hy⟩ : ∃ y, max z (-z) = y := ⟨_, rfl⟩
          rw [hy] at hca
          have hy2 : y ≤ 67108864 := by omega
          have HCA := Lib.hid hca
          clear hp hpn hps hcp hdb hlim hdot hz hzb hpl hca hy
          go_wp2_with (fail)
          refine HC1.out.mono ?_
          rintro e w8 ⟨vp, rfl, hvp, hB8⟩
          have hBm8 := below_then hBm hB8
          have HC2 := Lib.hid (r4dot vq vp (q.fst k) (p.fst k) w8 (HV7.out.grow hBm8) hvp (by rw [HQL.out]; omega) (by rw [HPL.out, HQL.out]) (zip_bd (fst_bd HQN.out k) (fst_bd HPN.out k)))
          rw [HDOT.out] at HC2
          clear hvp
          go_wp2_with (fail)
          refine HC2.out.mono ?_
          rintro e w9 ⟨rfl, hB9⟩
          have hBm9 := below_then hBm8 hB9
          go_wp2_with (fail)
          refine (HCA.out _).mono ?_
          rintro e w' ⟨rfl, rfl⟩
          go_wp2_with (fail)
          go_roundw
          case rel => exact ⟨m + 1, by go_num, by omega, hBm9⟩
          case measure => simp [intOf]; omega
        · obtain rfl : m = d := by omega
          go_wp2_with (fail)
          go_roundw
          case rel => exact ⟨m + 1, by go_num, by omega, below_then hBW7 hBm⟩
          case measure => simp [intOf]; omega
    · obtain rfl : d = k := by omega
      go_wp2_with (fail)
      go_ret
      exact ⟨rfl, below_then hB15 hB⟩
end Go.Proofs.Ytmcdkbnpcmiojaa
