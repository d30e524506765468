/-
  The walk of the law FixedFormatRoundTrip.
-/
import Derived.Test.YtjjllfaehipemaaLawQ
import Derived.Test.YtjjllfaehipemaaRound
import Derived.Test.YtjjllfaehipemaaScan2
namespace Go.Proofs.Ytjjllfaehipemaa
open Go.ChangeShapes Go.WideShapes Go.ChangeAt Go.RowKit
set_option linter.unusedVariables false

theorem bytes_app (a b : List Int) : bytesOf (a ++ b) = bytesOf a ++ bytesOf b := by simp [bytesOf]
theorem bytes_len (a : List Int) : (bytesOf a).length = a.length := by simp [bytesOf]
theorem bytes_nil {a : List Int} : bytesOf a = [] ↔ a = [] := by simp [bytesOf]

/-- The byte at a place of a text. -/
theorem byte_at_list (s : ByteArray) (n : Nat) (c : UInt8) (h : n < s.size) (hl : s.data.toList[n]? = some c) : s[n] = c := by
  have : s.data.toList[n]? = some s[n] := List.getElem?_eq_getElem (by simpa using h)
  exact Option.some.inj (this.symm.trans hl)

/-- What the law asks of the text of a number a of magnitude m. -/
theorem round_facts (a m : Int) (neg : Bool) (ha : a = if neg then -m else m) (h0 : 0 ≤ m) (hneg : neg = true → 0 < m) (h1 : m < 2147483648) :
    ∃ (S : ByteArray) (st pt off : Nat), strOfNums (fmt a) = S ∧ st = (if neg then 1 else 0) ∧ S.size ≤ 24 ∧ st < pt ∧ pt ≤ S.size ∧ parseV S = (a, a, 0, 0) ∧ perr S = none ∧ offOf S = off ∧ ptOf S = pt ∧
      (∀ h : 0 < S.size, ((S[0].toNat : Int) == 45) = neg) ∧ (m % 65536 = 0 → pt = S.size) ∧
      (¬ m % 65536 = 0 → pt < S.size ∧ ∀ h : S.size - 1 < S.size, ((S[S.size - 1].toNat : Int) != 48) = true) ∧
      (pt = st + 1 ∨ ∀ h : st < S.size, ((S[st].toNat : Int) != 48) = true) := by
  obtain ⟨W, F, hm, hW, hF, hWe, hWl, hFl, hFm, vW, vF, hlast, hfirst⟩ := mag_parts m h0 h1
  have hl : (strOfNums (fmt a)).data.toList = textOf neg (bytesOf W) (bytesOf F) := by
    rw [str_list]
    unfold textOf fmt
    subst ha
    cases neg
    · rw [if_neg (by first | omega | (simp; omega))]
      simp only [Bool.false_eq_true, if_false, List.nil_append]
      rw [hm, bytes_app]
      by_cases hf : F = []
      · subst hf; rfl
      · rw [if_neg hf, if_neg (fun h => hf (bytes_nil.1 h))]; rfl
    · rw [if_pos (by have := hneg rfl; first | omega | (simp; omega))]
      simp only [if_true, Int.neg_neg]
      rw [hm]
      show bytesOf ([45] ++ (W ++ _)) = _
      rw [bytes_app, bytes_app]
      by_cases hf : F = []
      · subst hf; rfl
      · rw [if_neg hf, if_neg (fun h => hf (bytes_nil.1 h))]; rfl
  have hWb : bytesOf W ≠ [] := fun h => hWe (bytes_nil.1 h)
  obtain ⟨p1, p2, p3, p4, p5, p6⟩ := text_parts _ neg _ _ hl (bytes_allD hW) hWb (bytes_allD hF)
  have pp : 0 < (10 : Int) ^ F.length := Int.pow_pos (by decide)
  have hpv := parse_text _ neg _ _ hl (bytes_allD hW) hWb (bytes_allD hF) m m
    (by rw [vW, vF, bytes_len, dn_mul_self _ pp]; omega) (by rw [vW, vF, bytes_len, up_mul_self _ pp]; omega) (by omega)
  have hWlen : 0 < W.length := List.length_pos_iff.2 hWe
  generalize strOfNums (fmt a) = S at *
  rw [bytes_len] at p5 p6
  have hFb : (bytesOf F = []) = (F = []) := propext bytes_nil
  rw [bytes_len] at p6
  simp only [hFb] at p6
  refine ⟨S, if neg then 1 else 0, ptOf S, offOf S, rfl, rfl, ?_, ?_, ?_, ?_, p1, rfl, rfl, ?_, ?_, ?_, ?_⟩
  · rw [p6]; by_cases hf : F = [] <;> cases neg <;> simp [hf] <;> omega
  · rw [p5]; omega
  · rw [p5, p6]; omega
  · rw [hpv, ha]; cases neg <;> simp
  · intro h
    have hh : S.data.toList[0]? = (textOf neg (bytesOf W) (bytesOf F))[0]? := by rw [hl]
    cases neg
    · obtain ⟨c, r, e⟩ := List.exists_cons_of_ne_nil hWb
      have hc := bytes_allD hW c (by rw [e]; simp)
      have : S[0] = c := byte_at_list S 0 c h (by rw [hh]; unfold textOf; rw [e]; rfl)
      rw [this]
      unfold isD at hc
      simp
      omega
    · have : S[0] = 45 := byte_at_list S 0 45 h (by rw [hh]; rfl)
      rw [this]
      rfl
  · intro hz
    rw [p5, p6, if_pos (hFm.2 hz)]
    omega
  · intro hz
    have hf : F ≠ [] := fun h => hz (hFm.1 h)
    rw [if_neg hf] at p6
    refine ⟨by rw [p5, p6]; omega, fun h => ?_⟩
    obtain ⟨c, hc⟩ : ∃ c, F.getLast? = some c := by
      cases hg : F.getLast? with
      | none => exact absurd (List.getLast?_eq_none_iff.1 hg) hf
      | some c => exact ⟨c, rfl⟩
    have hcr := hF c (List.mem_of_getLast? hc)
    have hne := hlast c hc
    have hb : (bytesOf F).getLast? = some (UInt8.ofNat c.toNat) := by unfold bytesOf; rw [List.getLast?_map, hc]; rfl
    have hlastS : S.data.toList.getLast? = some (UInt8.ofNat c.toNat) := by
      rw [hl]
      unfold textOf
      rw [if_neg (fun h => hf (bytes_nil.1 h))]
      obtain ⟨x, y, e⟩ := List.exists_cons_of_ne_nil (fun h => hf (bytes_nil.1 h))
      have e2 : (46 :: bytesOf F).getLast? = some (UInt8.ofNat c.toNat) := by rw [e] at hb ⊢; rw [List.getLast?_cons_cons]; exact hb
      rw [List.getLast?_append, List.getLast?_append, e2]
      rfl
    have hS : S[S.size - 1] = UInt8.ofNat c.toNat := byte_at_list S (S.size - 1) _ h (by
      rw [List.getLast?_eq_getElem?] at hlastS
      rw [size_list]
      exact hlastS)
    rw [hS, byte_of hcr]
    simpa using hne
  · rcases hfirst with hfirst | ⟨c, r, e, hc⟩
    · left
      rw [p5, hfirst]
    · right
      intro h
      have hcr := hW c (by rw [e]; simp)
      have hh : S.data.toList[if neg then 1 else 0]? = some (UInt8.ofNat c.toNat) := by
        rw [hl]
        unfold textOf
        rw [e]
        cases neg <;> rfl
      rw [byte_at_list S _ _ h hh, byte_of hcr]
      simp
      omega

set_option maxRecDepth 100000 in
set_option maxHeartbeats 2000000 in
theorem round_neg_frac_one (x m : Int) (S : ByteArray) (pt off : Nat) (w : World) (h0 : 0 < m) (h1 : m < 2147483648)
    (hx : ∀ w, Calls Try.prog 15 #[.int .i64 x] w fun e w' => e = .returned (.int .i64 (-m)) ∧ w = w')
    (hfm : ∀ w, Calls Try.prog 26 #[.int .i64 (-m)] w fun e w' => e = .returned (.string S) ∧ Below w.heap.size w w')
    (hpa : ∀ w, Calls Try.prog 24 #[.string S] w fun e w' => e = .returned (.tuple #[.int .i64 (-m), .int .i64 (-m), .int .i64 0, .int .i64 0]) ∧ Below w.heap.size w w')
    (hsc : ∀ w, Calls Try.prog 29 #[.string S] w fun e w' => e = .returned (.tuple #[.bool true, .int .i64 (off : Int), .int .i64 (pt : Int)]) ∧ w = w')
    (hs : S.size ≤ 24) (hp0 : 1 < pt) (hp1 : pt ≤ S.size) (hb0 : ∀ h : 0 < S.size, ((S[0].toNat : Int) == 45) = true) (hpt : pt < S.size) (hl : ∀ h : S.size - 1 < S.size, ((S[S.size - 1].toNat : Int) != 48) = true) (hm : ¬ m % 65536 = 0) (hf : pt = 1 + 1) :
    Calls Try.prog 8 #[.int .i64 x] w fun e w' => e = .returned (.bool true) ∧ Below w.heap.size w w' := by
  have z0 : 0 < S.size := by omega
  have z1 : ((S.size : Int) == 0) = false := by rw [beq_eq_false_iff_ne]; omega
  have hb := hb0 z0
  clear hb0
  have n1 : ((-m).tmod 65536 == 0) = false := by rw [Int.neg_tmod, Int.tmod_eq_emod_of_nonneg (by omega)]; simp; omega
  have n2 : (-m.tmod 65536 == 0) = false := by rw [Int.tmod_eq_emod_of_nonneg (by omega)]; simp; omega
  have n3 : (-(m % 65536) == 0) = false := by simp; omega
  have q1 := hl (by omega)
  have q2 : ((pt : Int) == (S.size : Int)) = false := by simp; omega
  have q3 : (((S.size : Int) - 1).toNat) = S.size - 1 := by omega
  clear hl
  have f1 : ((pt : Int) == 2) = true := by simp; omega
  clear hf hm
  go_enter Try.func8, Try.ntmps8
  go_wp2_with (fail)
  refine (sanity_any _).mono ?_
  rintro e0 w0 ⟨rfl, hB⟩
  go_wp2_with (fail)
  refine (hx _).mono ?_
  rintro e1 w1 ⟨rfl, rfl⟩
  go_wp2_with (fail)
  refine (hfm _).mono ?_
  rintro e2 w2 ⟨rfl, hB2⟩
  go_wp2_with (fail)
  refine (hpa _).mono ?_
  rintro e3 w3 ⟨rfl, hB3⟩
  go_wp2_with (fail)
  refine (hsc _).mono ?_
  rintro e4 w4 ⟨rfl, rfl⟩
  go_wp2_with (fail)
  all_goals go_ret
  all_goals exact ⟨rfl, below_then (below_then hB hB2) hB3⟩

set_option maxRecDepth 100000 in
set_option maxHeartbeats 2000000 in
theorem round_neg_frac_big (x m : Int) (S : ByteArray) (pt off : Nat) (w : World) (h0 : 0 < m) (h1 : m < 2147483648)
    (hx : ∀ w, Calls Try.prog 15 #[.int .i64 x] w fun e w' => e = .returned (.int .i64 (-m)) ∧ w = w')
    (hfm : ∀ w, Calls Try.prog 26 #[.int .i64 (-m)] w fun e w' => e = .returned (.string S) ∧ Below w.heap.size w w')
    (hpa : ∀ w, Calls Try.prog 24 #[.string S] w fun e w' => e = .returned (.tuple #[.int .i64 (-m), .int .i64 (-m), .int .i64 0, .int .i64 0]) ∧ Below w.heap.size w w')
    (hsc : ∀ w, Calls Try.prog 29 #[.string S] w fun e w' => e = .returned (.tuple #[.bool true, .int .i64 (off : Int), .int .i64 (pt : Int)]) ∧ w = w')
    (hs : S.size ≤ 24) (hp0 : 1 < pt) (hp1 : pt ≤ S.size) (hb0 : ∀ h : 0 < S.size, ((S[0].toNat : Int) == 45) = true) (hpt : pt < S.size) (hl : ∀ h : S.size - 1 < S.size, ((S[S.size - 1].toNat : Int) != 48) = true) (hm : ¬ m % 65536 = 0) (hf : ∀ h : 1 < S.size, ((S[1].toNat : Int) != 48) = true) :
    Calls Try.prog 8 #[.int .i64 x] w fun e w' => e = .returned (.bool true) ∧ Below w.heap.size w w' := by
  have z0 : 0 < S.size := by omega
  have z1 : ((S.size : Int) == 0) = false := by rw [beq_eq_false_iff_ne]; omega
  have hb := hb0 z0
  clear hb0
  have n1 : ((-m).tmod 65536 == 0) = false := by rw [Int.neg_tmod, Int.tmod_eq_emod_of_nonneg (by omega)]; simp; omega
  have n2 : (-m.tmod 65536 == 0) = false := by rw [Int.tmod_eq_emod_of_nonneg (by omega)]; simp; omega
  have n3 : (-(m % 65536) == 0) = false := by simp; omega
  have q1 := hl (by omega)
  have q2 : ((pt : Int) == (S.size : Int)) = false := by simp; omega
  have q3 : (((S.size : Int) - 1).toNat) = S.size - 1 := by omega
  clear hl
  have f1 := hf (by omega)
  clear hf hm
  go_enter Try.func8, Try.ntmps8
  go_wp2_with (fail)
  refine (sanity_any _).mono ?_
  rintro e0 w0 ⟨rfl, hB⟩
  go_wp2_with (fail)
  refine (hx _).mono ?_
  rintro e1 w1 ⟨rfl, rfl⟩
  go_wp2_with (fail)
  refine (hfm _).mono ?_
  rintro e2 w2 ⟨rfl, hB2⟩
  go_wp2_with (fail)
  refine (hpa _).mono ?_
  rintro e3 w3 ⟨rfl, hB3⟩
  go_wp2_with (fail)
  refine (hsc _).mono ?_
  rintro e4 w4 ⟨rfl, rfl⟩
  go_wp2_with (fail)
  all_goals go_ret
  all_goals exact ⟨rfl, below_then (below_then hB hB2) hB3⟩

set_option maxRecDepth 100000 in
set_option maxHeartbeats 2000000 in
theorem round_neg_whole_one (x m : Int) (S : ByteArray) (pt off : Nat) (w : World) (h0 : 0 < m) (h1 : m < 2147483648)
    (hx : ∀ w, Calls Try.prog 15 #[.int .i64 x] w fun e w' => e = .returned (.int .i64 (-m)) ∧ w = w')
    (hfm : ∀ w, Calls Try.prog 26 #[.int .i64 (-m)] w fun e w' => e = .returned (.string S) ∧ Below w.heap.size w w')
    (hpa : ∀ w, Calls Try.prog 24 #[.string S] w fun e w' => e = .returned (.tuple #[.int .i64 (-m), .int .i64 (-m), .int .i64 0, .int .i64 0]) ∧ Below w.heap.size w w')
    (hsc : ∀ w, Calls Try.prog 29 #[.string S] w fun e w' => e = .returned (.tuple #[.bool true, .int .i64 (off : Int), .int .i64 (pt : Int)]) ∧ w = w')
    (hs : S.size ≤ 24) (hp0 : 1 < pt) (hp1 : pt ≤ S.size) (hb0 : ∀ h : 0 < S.size, ((S[0].toNat : Int) == 45) = true) (hpt : pt = S.size) (hm : m % 65536 = 0) (hf : pt = 1 + 1) :
    Calls Try.prog 8 #[.int .i64 x] w fun e w' => e = .returned (.bool true) ∧ Below w.heap.size w w' := by
  have z0 : 0 < S.size := by omega
  have z1 : ((S.size : Int) == 0) = false := by rw [beq_eq_false_iff_ne]; omega
  have hb := hb0 z0
  clear hb0
  have n1 : ((-m).tmod 65536 == 0) = true := by rw [Int.neg_tmod, Int.tmod_eq_emod_of_nonneg (by omega)]; simp; omega
  have n2 : (-m.tmod 65536 == 0) = true := by rw [Int.tmod_eq_emod_of_nonneg (by omega)]; simp; omega
  have n3 : (-(m % 65536) == 0) = true := by simp; omega
  subst hpt
  have f1 : ((S.size : Int) == 2) = true := by simp; omega
  clear hf hm
  go_enter Try.func8, Try.ntmps8
  go_wp2_with (fail)
  refine (sanity_any _).mono ?_
  rintro e0 w0 ⟨rfl, hB⟩
  go_wp2_with (fail)
  refine (hx _).mono ?_
  rintro e1 w1 ⟨rfl, rfl⟩
  go_wp2_with (fail)
  refine (hfm _).mono ?_
  rintro e2 w2 ⟨rfl, hB2⟩
  go_wp2_with (fail)
  refine (hpa _).mono ?_
  rintro e3 w3 ⟨rfl, hB3⟩
  go_wp2_with (fail)
  refine (hsc _).mono ?_
  rintro e4 w4 ⟨rfl, rfl⟩
  go_wp2_with (fail)
  all_goals go_ret
  all_goals exact ⟨rfl, below_then (below_then hB hB2) hB3⟩

set_option maxRecDepth 100000 in
set_option maxHeartbeats 2000000 in
theorem round_neg_whole_big (x m : Int) (S : ByteArray) (pt off : Nat) (w : World) (h0 : 0 < m) (h1 : m < 2147483648)
    (hx : ∀ w, Calls Try.prog 15 #[.int .i64 x] w fun e w' => e = .returned (.int .i64 (-m)) ∧ w = w')
    (hfm : ∀ w, Calls Try.prog 26 #[.int .i64 (-m)] w fun e w' => e = .returned (.string S) ∧ Below w.heap.size w w')
    (hpa : ∀ w, Calls Try.prog 24 #[.string S] w fun e w' => e = .returned (.tuple #[.int .i64 (-m), .int .i64 (-m), .int .i64 0, .int .i64 0]) ∧ Below w.heap.size w w')
    (hsc : ∀ w, Calls Try.prog 29 #[.string S] w fun e w' => e = .returned (.tuple #[.bool true, .int .i64 (off : Int), .int .i64 (pt : Int)]) ∧ w = w')
    (hs : S.size ≤ 24) (hp0 : 1 < pt) (hp1 : pt ≤ S.size) (hb0 : ∀ h : 0 < S.size, ((S[0].toNat : Int) == 45) = true) (hpt : pt = S.size) (hm : m % 65536 = 0) (hf : ∀ h : 1 < S.size, ((S[1].toNat : Int) != 48) = true) :
    Calls Try.prog 8 #[.int .i64 x] w fun e w' => e = .returned (.bool true) ∧ Below w.heap.size w w' := by
  have z0 : 0 < S.size := by omega
  have z1 : ((S.size : Int) == 0) = false := by rw [beq_eq_false_iff_ne]; omega
  have hb := hb0 z0
  clear hb0
  have n1 : ((-m).tmod 65536 == 0) = true := by rw [Int.neg_tmod, Int.tmod_eq_emod_of_nonneg (by omega)]; simp; omega
  have n2 : (-m.tmod 65536 == 0) = true := by rw [Int.tmod_eq_emod_of_nonneg (by omega)]; simp; omega
  have n3 : (-(m % 65536) == 0) = true := by simp; omega
  subst hpt
  have f1 := hf (by omega)
  clear hf hm
  go_enter Try.func8, Try.ntmps8
  go_wp2_with (fail)
  refine (sanity_any _).mono ?_
  rintro e0 w0 ⟨rfl, hB⟩
  go_wp2_with (fail)
  refine (hx _).mono ?_
  rintro e1 w1 ⟨rfl, rfl⟩
  go_wp2_with (fail)
  refine (hfm _).mono ?_
  rintro e2 w2 ⟨rfl, hB2⟩
  go_wp2_with (fail)
  refine (hpa _).mono ?_
  rintro e3 w3 ⟨rfl, hB3⟩
  go_wp2_with (fail)
  refine (hsc _).mono ?_
  rintro e4 w4 ⟨rfl, rfl⟩
  go_wp2_with (fail)
  all_goals go_ret
  all_goals exact ⟨rfl, below_then (below_then hB hB2) hB3⟩

set_option maxRecDepth 100000 in
set_option maxHeartbeats 2000000 in
theorem round_pos_frac_one (x m : Int) (S : ByteArray) (pt off : Nat) (w : World) (h0 : 0 ≤ m) (h1 : m < 2147483648)
    (hx : ∀ w, Calls Try.prog 15 #[.int .i64 x] w fun e w' => e = .returned (.int .i64 m) ∧ w = w')
    (hfm : ∀ w, Calls Try.prog 26 #[.int .i64 m] w fun e w' => e = .returned (.string S) ∧ Below w.heap.size w w')
    (hpa : ∀ w, Calls Try.prog 24 #[.string S] w fun e w' => e = .returned (.tuple #[.int .i64 m, .int .i64 m, .int .i64 0, .int .i64 0]) ∧ Below w.heap.size w w')
    (hsc : ∀ w, Calls Try.prog 29 #[.string S] w fun e w' => e = .returned (.tuple #[.bool true, .int .i64 (off : Int), .int .i64 (pt : Int)]) ∧ w = w')
    (hs : S.size ≤ 24) (hp0 : 0 < pt) (hp1 : pt ≤ S.size) (hb0 : ∀ h : 0 < S.size, ((S[0].toNat : Int) == 45) = false) (hpt : pt < S.size) (hl : ∀ h : S.size - 1 < S.size, ((S[S.size - 1].toNat : Int) != 48) = true) (hm : ¬ m % 65536 = 0) (hf : pt = 0 + 1) :
    Calls Try.prog 8 #[.int .i64 x] w fun e w' => e = .returned (.bool true) ∧ Below w.heap.size w w' := by
  have z0 : 0 < S.size := by omega
  have z1 : ((S.size : Int) == 0) = false := by rw [beq_eq_false_iff_ne]; omega
  have hb := hb0 z0
  clear hb0
  have n4 : decide (m < 0) = false := by simp; omega
  have n3 : (m % 65536 == 0) = false := by simp; omega
  have q1 := hl (by omega)
  have q2 : ((pt : Int) == (S.size : Int)) = false := by simp; omega
  have q3 : (((S.size : Int) - 1).toNat) = S.size - 1 := by omega
  clear hl
  have f1 : ((pt : Int) == 1) = true := by simp; omega
  clear hf hm
  go_enter Try.func8, Try.ntmps8
  go_wp2_with (fail)
  refine (sanity_any _).mono ?_
  rintro e0 w0 ⟨rfl, hB⟩
  go_wp2_with (fail)
  refine (hx _).mono ?_
  rintro e1 w1 ⟨rfl, rfl⟩
  go_wp2_with (fail)
  refine (hfm _).mono ?_
  rintro e2 w2 ⟨rfl, hB2⟩
  go_wp2_with (fail)
  refine (hpa _).mono ?_
  rintro e3 w3 ⟨rfl, hB3⟩
  go_wp2_with (fail)
  refine (hsc _).mono ?_
  rintro e4 w4 ⟨rfl, rfl⟩
  go_wp2_with (fail)
  all_goals go_ret
  all_goals exact ⟨rfl, below_then (below_then hB hB2) hB3⟩

set_option maxRecDepth 100000 in
set_option maxHeartbeats 2000000 in
theorem round_pos_frac_big (x m : Int) (S : ByteArray) (pt off : Nat) (w : World) (h0 : 0 ≤ m) (h1 : m < 2147483648)
    (hx : ∀ w, Calls Try.prog 15 #[.int .i64 x] w fun e w' => e = .returned (.int .i64 m) ∧ w = w')
    (hfm : ∀ w, Calls Try.prog 26 #[.int .i64 m] w fun e w' => e = .returned (.string S) ∧ Below w.heap.size w w')
    (hpa : ∀ w, Calls Try.prog 24 #[.string S] w fun e w' => e = .returned (.tuple #[.int .i64 m, .int .i64 m, .int .i64 0, .int .i64 0]) ∧ Below w.heap.size w w')
    (hsc : ∀ w, Calls Try.prog 29 #[.string S] w fun e w' => e = .returned (.tuple #[.bool true, .int .i64 (off : Int), .int .i64 (pt : Int)]) ∧ w = w')
    (hs : S.size ≤ 24) (hp0 : 0 < pt) (hp1 : pt ≤ S.size) (hb0 : ∀ h : 0 < S.size, ((S[0].toNat : Int) == 45) = false) (hpt : pt < S.size) (hl : ∀ h : S.size - 1 < S.size, ((S[S.size - 1].toNat : Int) != 48) = true) (hm : ¬ m % 65536 = 0) (hf : ∀ h : 0 < S.size, ((S[0].toNat : Int) != 48) = true) :
    Calls Try.prog 8 #[.int .i64 x] w fun e w' => e = .returned (.bool true) ∧ Below w.heap.size w w' := by
  have z0 : 0 < S.size := by omega
  have z1 : ((S.size : Int) == 0) = false := by rw [beq_eq_false_iff_ne]; omega
  have hb := hb0 z0
  clear hb0
  have n4 : decide (m < 0) = false := by simp; omega
  have n3 : (m % 65536 == 0) = false := by simp; omega
  have q1 := hl (by omega)
  have q2 : ((pt : Int) == (S.size : Int)) = false := by simp; omega
  have q3 : (((S.size : Int) - 1).toNat) = S.size - 1 := by omega
  clear hl
  have f1 := hf (by omega)
  clear hf hm
  go_enter Try.func8, Try.ntmps8
  go_wp2_with (fail)
  refine (sanity_any _).mono ?_
  rintro e0 w0 ⟨rfl, hB⟩
  go_wp2_with (fail)
  refine (hx _).mono ?_
  rintro e1 w1 ⟨rfl, rfl⟩
  go_wp2_with (fail)
  refine (hfm _).mono ?_
  rintro e2 w2 ⟨rfl, hB2⟩
  go_wp2_with (fail)
  refine (hpa _).mono ?_
  rintro e3 w3 ⟨rfl, hB3⟩
  go_wp2_with (fail)
  refine (hsc _).mono ?_
  rintro e4 w4 ⟨rfl, rfl⟩
  go_wp2_with (fail)
  all_goals go_ret
  all_goals exact ⟨rfl, below_then (below_then hB hB2) hB3⟩

set_option maxRecDepth 100000 in
set_option maxHeartbeats 2000000 in
theorem round_pos_whole_one (x m : Int) (S : ByteArray) (pt off : Nat) (w : World) (h0 : 0 ≤ m) (h1 : m < 2147483648)
    (hx : ∀ w, Calls Try.prog 15 #[.int .i64 x] w fun e w' => e = .returned (.int .i64 m) ∧ w = w')
    (hfm : ∀ w, Calls Try.prog 26 #[.int .i64 m] w fun e w' => e = .returned (.string S) ∧ Below w.heap.size w w')
    (hpa : ∀ w, Calls Try.prog 24 #[.string S] w fun e w' => e = .returned (.tuple #[.int .i64 m, .int .i64 m, .int .i64 0, .int .i64 0]) ∧ Below w.heap.size w w')
    (hsc : ∀ w, Calls Try.prog 29 #[.string S] w fun e w' => e = .returned (.tuple #[.bool true, .int .i64 (off : Int), .int .i64 (pt : Int)]) ∧ w = w')
    (hs : S.size ≤ 24) (hp0 : 0 < pt) (hp1 : pt ≤ S.size) (hb0 : ∀ h : 0 < S.size, ((S[0].toNat : Int) == 45) = false) (hpt : pt = S.size) (hm : m % 65536 = 0) (hf : pt = 0 + 1) :
    Calls Try.prog 8 #[.int .i64 x] w fun e w' => e = .returned (.bool true) ∧ Below w.heap.size w w' := by
  have z0 : 0 < S.size := by omega
  have z1 : ((S.size : Int) == 0) = false := by rw [beq_eq_false_iff_ne]; omega
  have hb := hb0 z0
  clear hb0
  have n4 : decide (m < 0) = false := by simp; omega
  have n3 : (m % 65536 == 0) = true := by simp; omega
  subst hpt
  have f1 : ((S.size : Int) == 1) = true := by simp; omega
  clear hf hm
  go_enter Try.func8, Try.ntmps8
  go_wp2_with (fail)
  refine (sanity_any _).mono ?_
  rintro e0 w0 ⟨rfl, hB⟩
  go_wp2_with (fail)
  refine (hx _).mono ?_
  rintro e1 w1 ⟨rfl, rfl⟩
  go_wp2_with (fail)
  refine (hfm _).mono ?_
  rintro e2 w2 ⟨rfl, hB2⟩
  go_wp2_with (fail)
  refine (hpa _).mono ?_
  rintro e3 w3 ⟨rfl, hB3⟩
  go_wp2_with (fail)
  refine (hsc _).mono ?_
  rintro e4 w4 ⟨rfl, rfl⟩
  go_wp2_with (fail)
  all_goals go_ret
  all_goals exact ⟨rfl, below_then (below_then hB hB2) hB3⟩

set_option maxRecDepth 100000 in
set_option maxHeartbeats 2000000 in
theorem round_pos_whole_big (x m : Int) (S : ByteArray) (pt off : Nat) (w : World) (h0 : 0 ≤ m) (h1 : m < 2147483648)
    (hx : ∀ w, Calls Try.prog 15 #[.int .i64 x] w fun e w' => e = .returned (.int .i64 m) ∧ w = w')
    (hfm : ∀ w, Calls Try.prog 26 #[.int .i64 m] w fun e w' => e = .returned (.string S) ∧ Below w.heap.size w w')
    (hpa : ∀ w, Calls Try.prog 24 #[.string S] w fun e w' => e = .returned (.tuple #[.int .i64 m, .int .i64 m, .int .i64 0, .int .i64 0]) ∧ Below w.heap.size w w')
    (hsc : ∀ w, Calls Try.prog 29 #[.string S] w fun e w' => e = .returned (.tuple #[.bool true, .int .i64 (off : Int), .int .i64 (pt : Int)]) ∧ w = w')
    (hs : S.size ≤ 24) (hp0 : 0 < pt) (hp1 : pt ≤ S.size) (hb0 : ∀ h : 0 < S.size, ((S[0].toNat : Int) == 45) = false) (hpt : pt = S.size) (hm : m % 65536 = 0) (hf : ∀ h : 0 < S.size, ((S[0].toNat : Int) != 48) = true) :
    Calls Try.prog 8 #[.int .i64 x] w fun e w' => e = .returned (.bool true) ∧ Below w.heap.size w w' := by
  have z0 : 0 < S.size := by omega
  have z1 : ((S.size : Int) == 0) = false := by rw [beq_eq_false_iff_ne]; omega
  have hb := hb0 z0
  clear hb0
  have n4 : decide (m < 0) = false := by simp; omega
  have n3 : (m % 65536 == 0) = true := by simp; omega
  subst hpt
  have f1 := hf (by omega)
  clear hf hm
  go_enter Try.func8, Try.ntmps8
  go_wp2_with (fail)
  refine (sanity_any _).mono ?_
  rintro e0 w0 ⟨rfl, hB⟩
  go_wp2_with (fail)
  refine (hx _).mono ?_
  rintro e1 w1 ⟨rfl, rfl⟩
  go_wp2_with (fail)
  refine (hfm _).mono ?_
  rintro e2 w2 ⟨rfl, hB2⟩
  go_wp2_with (fail)
  refine (hpa _).mono ?_
  rintro e3 w3 ⟨rfl, hB3⟩
  go_wp2_with (fail)
  refine (hsc _).mono ?_
  rintro e4 w4 ⟨rfl, rfl⟩
  go_wp2_with (fail)
  all_goals go_ret
  all_goals exact ⟨rfl, below_then (below_then hB hB2) hB3⟩

theorem round_walk (x : Int) (_ : (Lit.int .i64 x).wf = true) (w : World) :
    Calls Try.prog 8 #[.int .i64 x] w fun e w' => e = .returned (.bool true) ∧ Below w.heap.size w w' := by
  obtain ⟨a, ha1, ha2, hx⟩ := num_ex x
  obtain ⟨neg, m, ha, h0, hneg, h1⟩ : ∃ (neg : Bool) (m : Int), (a = if neg then -m else m) ∧ 0 ≤ m ∧ (neg = true → 0 < m) ∧ m < 2147483648 := by
    by_cases h : a < 0
    · exact ⟨true, -a, by simp, by omega, by omega, by omega⟩
    · exact ⟨false, a, by simp, by omega, by simp, by omega⟩
  obtain ⟨S, st, pt, off, hS, hst, hs, hp0, hp1, hpv, hpe, ho, hpt, hb0, hw, hfr, hfi⟩ := round_facts a m neg ha h0 hneg h1
  have hfm := fun w => fmt_any a w (by omega) (by omega)
  rw [hS] at hfm
  have hsz : S.size ≤ maxLen := by unfold maxLen; omega
  have hpa : ∀ w, Calls Try.prog 24 #[.string S] w fun e w' => e = .returned (.tuple #[.int .i64 a, .int .i64 a, .int .i64 0, .int .i64 0]) ∧ Below w.heap.size w w' := fun w => parse_is S a a 0 0 hsz hpv w
  have hsc : ∀ w, Calls Try.prog 29 #[.string S] w fun e w' => e = .returned (.tuple #[.bool true, .int .i64 (off : Int), .int .i64 (pt : Int)]) ∧ w = w' := fun w => by
    have := scan_any S w hsz
    rw [hpe, ho, hpt] at this
    exact this
  subst hst
  cases neg
  · have ha' : a = m := by simpa using ha
    rw [ha'] at hx hfm hpa
    clear ha ha' ha1 ha2 hpv hS
    by_cases hm : m % 65536 = 0
    · rcases hfi with hf | hf
      · exact round_pos_whole_one x m S pt off w h0 h1 hx hfm hpa hsc hs hp0 hp1 hb0 (hw hm) hm hf
      · exact round_pos_whole_big x m S pt off w h0 h1 hx hfm hpa hsc hs hp0 hp1 hb0 (hw hm) hm hf
    · rcases hfi with hf | hf
      · exact round_pos_frac_one x m S pt off w h0 h1 hx hfm hpa hsc hs hp0 hp1 hb0 (hfr hm).1 (hfr hm).2 hm hf
      · exact round_pos_frac_big x m S pt off w h0 h1 hx hfm hpa hsc hs hp0 hp1 hb0 (hfr hm).1 (hfr hm).2 hm hf
  · have ha' : a = -m := by simpa using ha
    rw [ha'] at hx hfm hpa
    clear ha ha' ha1 ha2 hpv hS
    by_cases hm : m % 65536 = 0
    · rcases hfi with hf | hf
      · exact round_neg_whole_one x m S pt off w (hneg rfl) h1 hx hfm hpa hsc hs hp0 hp1 hb0 (hw hm) hm hf
      · exact round_neg_whole_big x m S pt off w (hneg rfl) h1 hx hfm hpa hsc hs hp0 hp1 hb0 (hw hm) hm hf
    · rcases hfi with hf | hf
      · exact round_neg_frac_one x m S pt off w (hneg rfl) h1 hx hfm hpa hsc hs hp0 hp1 hb0 (hfr hm).1 (hfr hm).2 hm hf
      · exact round_neg_frac_big x m S pt off w (hneg rfl) h1 hx hfm hpa hsc hs hp0 hp1 hb0 (hfr hm).1 (hfr hm).2 hm hf
end Go.Proofs.Ytjjllfaehipemaa
