/-
  The walk of the law FixedDecimals.
-/
import Derived.Test.YtjjllfaehipemaaLawQ
import Derived.Test.YtjjllfaehipemaaRInt
namespace Go.Proofs.Ytjjllfaehipemaa
open Go.ChangeShapes Go.WideShapes Go.ChangeAt Go.RowKit

/-- A number of seven digits that begins with a one: what stands behind it. -/
theorem tail_digits (fr : Int) (h0 : 0 ≤ fr) (h1 : fr < 1000000) : ∃ F : List Int, dgs 6 (1000000 + fr) 1 = 49 :: F ∧ F.length = 6 ∧ digR F ∧ val (bytesOf F) = fr := by
  have hr := dgs_digR 6 (1000000 + fr) 1
  have hv := dgs_val 6 (1000000 + fr) 1 (by omega) (by omega)
  have e : dgs 6 (1000000 + fr) 1 = (48 + (1000000 + fr) / 10 / 10 / 10 / 10 / 10 / 10 % 10) :: [48 + (1000000 + fr) / 10 / 10 / 10 / 10 / 10 % 10, 48 + (1000000 + fr) / 10 / 10 / 10 / 10 % 10, 48 + (1000000 + fr) / 10 / 10 / 10 % 10, 48 + (1000000 + fr) / 10 / 10 % 10, 48 + (1000000 + fr) / 10 % 10, 48 + (1000000 + fr) % 10] := by
    rw [dgs_pos _ _ _ (.inl (by omega)), dgs_pos _ _ _ (.inl (by omega)), dgs_pos _ _ _ (.inl (by omega)), dgs_pos _ _ _ (.inl (by omega)), dgs_pos _ _ _ (.inl (by omega)), dgs_pos _ _ _ (.inl (by omega))]
    simp only [dgs, List.cons_append, List.nil_append]
  have e1 : 48 + (1000000 + fr) / 10 / 10 / 10 / 10 / 10 / 10 % 10 = 49 := by omega
  have hl : ([48 + (1000000 + fr) / 10 / 10 / 10 / 10 / 10 % 10, 48 + (1000000 + fr) / 10 / 10 / 10 / 10 % 10, 48 + (1000000 + fr) / 10 / 10 / 10 % 10, 48 + (1000000 + fr) / 10 / 10 % 10, 48 + (1000000 + fr) / 10 % 10, 48 + (1000000 + fr) % 10] : List Int).length = 6 := rfl
  rw [e1] at e
  rw [e] at hr hv
  generalize ([48 + (1000000 + fr) / 10 / 10 / 10 / 10 / 10 % 10, 48 + (1000000 + fr) / 10 / 10 / 10 / 10 % 10, 48 + (1000000 + fr) / 10 / 10 / 10 % 10, 48 + (1000000 + fr) / 10 / 10 % 10, 48 + (1000000 + fr) / 10 % 10, 48 + (1000000 + fr) % 10] : List Int) = F at *
  have ha : bytesOf (49 :: F) = bytesOf [49] ++ bytesOf F := rfl
  rw [ha, val_app] at hv
  have hb : (bytesOf F).length = 6 := by simp [bytesOf, hl]
  rw [hb] at hv
  have h49 : val (bytesOf [49]) = 1 := by rfl
  rw [h49] at hv
  exact ⟨F, e, hl, fun x hx => hr x (List.mem_cons_of_mem _ hx), by omega⟩

theorem dn_shift (n m : Int) {d : Int} (h : 0 < d) : dn (n + m * d) d = dn n d + m ∧ up (n + m * d) d = up n d + m := by
  have a := dn_mul n h
  have b := up_mul n h
  exact ⟨dn_is h (by rw [Int.add_mul]; omega) (by rw [Int.add_mul]; omega), up_is h (by rw [Int.add_mul]; omega) (by rw [Int.add_mul]; omega)⟩

/-- What 'Parse' makes of the texts of the law: i and six digits, with j noughts behind them. -/
theorem dec_parse (S : ByteArray) (neg : Bool) (i fr : Int) (F : List Int) (j : Nat) (hi0 : 0 ≤ i) (hi1 : i ≤ 30000) (h0 : 0 ≤ fr) (h1 : fr < 1000000) (hl : F.length = 6) (hr : digR F) (hv : val (bytesOf F) = fr)
    (hS : S.data.toList = textOf neg (bytesOf (dgs 4 i 1)) (bytesOf (F ++ List.replicate j 48))) :
    parseV S = if neg then (-up ((i * 1000000 + fr) * 65536) 1000000, -dn ((i * 1000000 + fr) * 65536) 1000000, 0, 0) else (dn ((i * 1000000 + fr) * 65536) 1000000, up ((i * 1000000 + fr) * 65536) 1000000, 0, 0) := by
  have hW := dgs_digR 4 i 1
  have vW := dgs_val 4 i 1 hi0 (by omega)
  have hWb : bytesOf (dgs 4 i 1) ≠ [] := by
    intro h
    exact dgs_ne 4 i 1 (by simpa [bytesOf] using h)
  have hF : digR (F ++ List.replicate j 48) := by
    intro x hx
    rcases List.mem_append.1 hx with hx | hx
    · exact hr x hx
    · have := List.eq_of_mem_replicate hx
      omega
  have hz : bytesOf (List.replicate j 48) = List.replicate j 48 := by simp [bytesOf]
  have hbl : (bytesOf (F ++ List.replicate j 48)).length = 6 + j := by simp [bytesOf, hl]
  have vF : val (bytesOf (F ++ List.replicate j 48)) = fr * 10 ^ j := by
    have e : bytesOf (F ++ List.replicate j 48) = bytesOf F ++ List.replicate j 48 := by
      rw [← hz]
      simp [bytesOf]
    rw [e, val_app, hv, val_zeros, List.length_replicate, Int.add_zero]
  have pj : 0 < (10 : Int) ^ j := Int.pow_pos (by decide)
  have e1 : fr * 10 ^ j * 65536 = fr * 65536 * 10 ^ j := by rw [Int.mul_assoc, Int.mul_comm (10 ^ j), Int.mul_assoc]
  have e2 : (10 : Int) ^ (6 + j) = 1000000 * 10 ^ j := by rw [Int.pow_add]; rfl
  have sh := dn_shift (fr * 65536) (i * 65536) (d := 1000000) (by decide)
  have e3 : fr * 65536 + i * 65536 * 1000000 = (i * 1000000 + fr) * 65536 := by omega
  rw [e3] at sh
  have hu := up_mul ((i * 1000000 + fr) * 65536) (d := 1000000) (by decide)
  exact parse_text S neg _ _ hS (bytes_allD hW) hWb (bytes_allD hF) _ _
    (by rw [vW, vF, hbl, e1, e2, dn_scale _ (by decide) pj, sh.1]; omega) (by rw [vW, vF, hbl, e1, e2, up_scale _ (by decide) pj, sh.2]; omega) (by omega)

/-- The text with j noughts behind it. -/
def padS (X : List Int) (j : Nat) : ByteArray := strOfNums (X ++ List.replicate j 48)
theorem padS_succ (X : List Int) (j : Nat) : padS X j ++ ⟨#[48]⟩ = padS X (j + 1) := by
  have e : (⟨#[48]⟩ : ByteArray) = strOfNums [48] := rfl
  unfold padS
  rw [e, str_app, List.append_assoc, ← List.replicate_succ']
theorem padS_zero (X : List Int) : padS X 0 = strOfNums X := by unfold padS; simp

/-- The strings of the law. -/
theorem dec_strings (i fr : Int) (hi0 : 0 ≤ i) (hi1 : i < 30000) (h0 : 0 ≤ fr) (h1 : fr < 1000000) :
    ∃ (D Z A B S T M : ByteArray) (X : List Int), strOfNums (dgs 6 (1000000 + fr) 1) = D ∧ D.size = 7 ∧ ⟨#[46]⟩ ++ D.extract 1 7 = Z ∧ Z.size = 7 ∧ strOfNums (dgs 4 i 1) = A ∧ A.size ≤ 5 ∧ A ++ Z = S ∧ S.size ≤ 12 ∧
      strOfNums (dgs 4 (i + 1) 1) = B ∧ B.size ≤ 5 ∧ B ++ Z = T ∧ T.size ≤ 12 ∧ ⟨#[45]⟩ ++ S = M ∧ M.size ≤ 13 ∧ padS X 0 = S ∧ X.length ≤ 12 ∧
      parseV S = (dn ((i * 1000000 + fr) * 65536) 1000000, up ((i * 1000000 + fr) * 65536) 1000000, 0, 0) ∧
      (∀ j, parseV (padS X j) = (dn ((i * 1000000 + fr) * 65536) 1000000, up ((i * 1000000 + fr) * 65536) 1000000, 0, 0)) ∧
      parseV T = (dn ((i * 1000000 + fr) * 65536) 1000000 + 65536, up ((i * 1000000 + fr) * 65536) 1000000 + 65536, 0, 0) ∧
      parseV M = (-up ((i * 1000000 + fr) * 65536) 1000000, -dn ((i * 1000000 + fr) * 65536) 1000000, 0, 0) := by
  obtain ⟨F, eF, hl, hr, hv⟩ := tail_digits fr h0 h1
  have la := dgs_len 4 i 1
  have lb := dgs_len 4 (i + 1) 1
  have tx : ∀ (neg : Bool) (k : Int) (j : Nat), (strOfNums ((if neg then [45] else []) ++ (dgs 4 k 1 ++ 46 :: (F ++ List.replicate j 48)))).data.toList = textOf neg (bytesOf (dgs 4 k 1)) (bytesOf (F ++ List.replicate j 48)) := by
    intro neg k j
    rw [str_list]
    unfold textOf
    have hne : ¬ bytesOf (F ++ List.replicate j 48) = [] := by
      intro h
      have := congrArg List.length h
      simp [bytesOf, hl] at this
    rw [if_neg hne]
    cases neg
    · simp [bytesOf]
    · simp [bytesOf]
  have p0 : ∀ j, parseV (padS (dgs 4 i 1 ++ 46 :: F) j) = (dn ((i * 1000000 + fr) * 65536) 1000000, up ((i * 1000000 + fr) * 65536) 1000000, 0, 0) := by
    intro j
    have := dec_parse _ false i fr F j hi0 (by omega) h0 h1 hl hr hv (tx false i j)
    unfold padS
    rw [List.append_assoc]
    exact this
  have p1 := dec_parse _ false (i + 1) fr F 0 (by omega) (by omega) h0 h1 hl hr hv (tx false (i + 1) 0)
  have p2 := dec_parse _ true i fr F 0 hi0 (by omega) h0 h1 hl hr hv (tx true i 0)
  have sh := dn_shift ((i * 1000000 + fr) * 65536) 65536 (d := 1000000) (by decide)
  have e3 : (i * 1000000 + fr) * 65536 + 65536 * 1000000 = ((i + 1) * 1000000 + fr) * 65536 := by omega
  rw [e3] at sh
  have eD : (strOfNums (49 :: F)).extract 1 7 = strOfNums F := by
    apply ByteArray.ext
    apply Array.toList_inj.1
    rw [Lib.extract_data, str_list, str_list]
    have e6 : (bytesOf F).length = 6 := by simp [bytesOf, hl]
    exact List.take_of_length_le (by show (bytesOf F).length ≤ 6; omega)
  have eZ : (⟨#[46]⟩ : ByteArray) ++ strOfNums F = strOfNums (46 :: F) := by
    have e : (⟨#[46]⟩ : ByteArray) = strOfNums [46] := rfl
    rw [e, str_app]
    rfl
  have eM : ∀ l, (⟨#[45]⟩ : ByteArray) ++ strOfNums l = strOfNums (45 :: l) := by
    intro l
    have e : (⟨#[45]⟩ : ByteArray) = strOfNums [45] := rfl
    rw [e, str_app]
    rfl
  refine ⟨_, _, _, _, _, _, _, dgs 4 i 1 ++ 46 :: F, rfl, by rw [str_size, eF]; simp [hl], by rw [eF, eD, eZ], by rw [str_size]; simp [hl], rfl, by rw [str_size]; exact la, str_app _ _, by rw [str_size]; simp [hl]; omega, rfl, by rw [str_size]; exact lb, str_app _ _, by rw [str_size]; simp [hl]; omega, eM _, by rw [str_size]; simp [hl]; omega, padS_zero _, by simp [hl]; omega, ?_, p0, ?_, ?_⟩
  · have := p0 0
    rwa [padS_zero] at this
  · rw [← sh.1, ← sh.2]
    simpa using p1
  · simpa using p2

set_option maxRecDepth 100000 in
set_option maxHeartbeats 4000000 in
theorem dec_walk (x y z : Int) (w : World) (hx0 : 0 ≤ x) (hx1 : x ≤ 65535) (hy0 : 0 ≤ y) (hy1 : y ≤ 4294967295) (hz0 : 0 ≤ z) (hz1 : z ≤ 255) :
    Calls Try.prog 11 #[.int .u16 x, .int .u32 y, .int .u8 z] w fun e w' => e = .returned (.bool true) ∧ Below w.heap.size w w' := by
  have hi0 : 0 ≤ x % 30000 := by omega
  have hi1 : x % 30000 < 30000 := by omega
  have hf0 : 0 ≤ y % 1000000 := by omega
  have hf1 : y % 1000000 < 1000000 := by omega
  have hk0 : 0 ≤ z % 21 := by omega
  have hk1 : z % 21 ≤ 20 := by omega
  obtain ⟨D, Z, A, B, S, T, M, X, eD, sD, eZ, sZ, eA, sA, eS, sS, eB, sB, eT, sT, eM, sM, eP, sX, pS, pP, pT, pM⟩ := dec_strings (x % 30000) (y % 1000000) hi0 hi1 hf0 hf1
  have cD := fun w => rint_any 6 (by decide) (1000000 + y % 1000000) w (by omega) (by omega) (by omega)
  rw [eD] at cD
  have cA := fun w => rint_any 4 (by decide) (x % 30000) w (by omega) (by omega) (by omega)
  rw [eA] at cA
  have cB := fun w => rint_any 4 (by decide) (x % 30000 + 1) w (by omega) (by omega) (by omega)
  rw [eB] at cB
  have mS : S.size ≤ maxLen := by unfold maxLen; omega
  have mT : T.size ≤ maxLen := by unfold maxLen; omega
  have mM : M.size ≤ maxLen := by unfold maxLen; omega
  have mP : ∀ j, j ≤ 20 → (padS X j).size ≤ 32 := fun j hj => by unfold padS; rw [str_size]; simp; omega
  have kS := fun w => parse_is S _ _ _ _ mS pS w
  have kP := fun (j : Nat) (hj : j ≤ 20) w => parse_is (padS X j) _ _ _ _ (by have := mP j hj; unfold maxLen; omega) (pP j) w
  have kT := fun w => parse_is T _ _ _ _ mT pT w
  have kM := fun w => parse_is M _ _ _ _ mM pM w
  have cE := fun w => encl_any 1000000 ((x % 30000 * 1000000 + y % 1000000) * 65536) w (by decide) (by decide) (by omega) (by omega)
  have bd := dn_size ((x % 30000 * 1000000 + y % 1000000) * 65536) (d := 1000000) (by decide) 2000000000000000 (by omega) (by omega)
  have ud := up_dn ((x % 30000 * 1000000 + y % 1000000) * 65536) (d := 1000000) (by decide)
  have HK := Lib.hid kP
  have HP := Lib.hid mP
  have HX := Lib.hid (padS_succ X)
  clear eD eA eB mS mT mM mP pS pP pT pM kP
  generalize dn ((x % 30000 * 1000000 + y % 1000000) * 65536) 1000000 = lo at *
  generalize up ((x % 30000 * 1000000 + y % 1000000) * 65536) 1000000 = hi at *
  have HE := Lib.hid eP
  clear eP
  go_enter Try.func11, Try.ntmps11
  go_wp2_with (fail)
  refine (sanity_any _).mono ?_
  rintro e0 w0 ⟨rfl, hB⟩
  go_wp2_with (fail)
  refine (cD _).mono ?_
  rintro e1 w1 ⟨rfl, hB1⟩
  have B1 := below_then hB hB1
  clear hB hB1
  go_wp2_with (fail)
  refine (cA _).mono ?_
  rintro e2 w2 ⟨rfl, hB2⟩
  have B2 := below_then B1 hB2
  clear B1 hB2
  go_wp2_with (fail)
  refine (kS _).mono ?_
  rintro e3 w3 ⟨rfl, hB3⟩
  have B3 := below_then B2 hB3
  clear B2 hB3
  go_wp2_with (fail)
  refine (cE _).mono ?_
  rintro e4 w4 ⟨rfl, rfl⟩
  go_wp2_with (fail)
  go_loop [18, 19] (fun s i => ∃ j : Nat, i = .int .i64 j ∧ j ≤ 20 ∧ (j : Int) ≤ z % 21 ∧ s = .string (padS X j)) (fun _ i => 21 - (intOf i).toNat)
  case atStart => exact ⟨0, rfl, by omega, by omega, by rw [HE.out]⟩
  case round =>
    obtain ⟨j, rfl, hj, hjz, rfl⟩ := hrel
    have hps := HP.out j hj
    by_cases hlt : (j : Int) < z % 21
    · have HN := HX.out j
      have HN' := Lib.hid HN
      clear HN
      go_wp2_with (fail)
      go_round
      case rel => exact ⟨j + 1, by go_num, by omega, by omega, by rw [HN'.out]⟩
      case measure => simp [intOf]; omega
    · go_wp2_with (fail)
      refine (HK.out j hj _).mono ?_
      rintro e5 w5 ⟨rfl, hB5⟩
      have B5 := below_then B3 hB5
      clear B3 hB5
      go_wp2_with (fail)
      refine (cB _).mono ?_
      rintro e6 w6 ⟨rfl, hB6⟩
      have B6 := below_then B5 hB6
      clear B5 hB6
      go_wp2_with (fail)
      refine (kT _).mono ?_
      rintro e7 w7 ⟨rfl, hB7⟩
      have B7 := below_then B6 hB7
      clear B6 hB7
      go_wp2_with (fail)
      refine (kM _).mono ?_
      rintro e8 w8 ⟨rfl, hB8⟩
      have B8 := below_then B7 hB8
      clear B7 hB8
      go_wp2_with (fail)
      go_ret
      exact ⟨rfl, B8⟩

theorem dec_all (x : Int) (hx : (Lit.int .u16 x).wf = true) (y : Int) (hy : (Lit.int .u32 y).wf = true) (z : Int) (hz : (Lit.int .u8 z).wf = true) (w : World) :
    Calls Try.prog 11 #[.int .u16 x, .int .u32 y, .int .u8 z] w fun e w' => e = .returned (.bool true) ∧ Below w.heap.size w w' := by
  have a := bounds_u16 hx
  have b := bounds_u32 hy
  have c := bounds_u8 hz
  exact dec_walk x y z w a.1 a.2 b.1 b.2 c.1 c.2
end Go.Proofs.Ytjjllfaehipemaa
