/-
  The contracts of package fixed's 'fractionDigits' and 'size'.
-/
import Derived.Test.YtjjllfaehipemaaLead
import Derived.Test.YtjjllfaehipemaaFixU
namespace Go.Proofs.Ytjjllfaehipemaa
open Go.ChangeShapes Go.WideShapes Go.ChangeAt Go.RowKit

theorem ret_pair {k : IntKind} {a b c d : Int} (h : a = c) (h' : b = d) : Ending.returned (.tuple #[.int k a, .int k b]) = .returned (.tuple #[.int k c, .int k d]) := by rw [h, h']
theorem below_then {a b c : World} (h : Below a.heap.size a b) (k : Below b.heap.size b c) : Below a.heap.size a c := h.trans (k.mono h.size)

theorem frac_any (b : Bool) (W F : ByteArray) (w : World) (hs : F.size ≤ maxLen) (hF : allD F.data.toList) :
    Calls Try.prog 44 #[.agg #[.bool b, .string W, .string F]] w fun e w' => e = .returned (.int .u64 (fracD F.data.toList)) ∧ Below w.heap.size w w' := by
  unfold maxLen at hs
  have H := Lib.hid hF
  clear hF
  go_enter Try.func44, Try.ntmps44
  go_wp2
  go_loop [3, 6] (fun f i => ∃ k : Nat, i = .int .i64 k ∧ k ≤ 16 ∧ f = .int .u64 (fdg F.data.toList k)) (fun _ i => 16 - (intOf i).toNat)
  case atStart => exact ⟨0, rfl, Nat.zero_le _, rfl⟩
  case round =>
    obtain ⟨k, rfl, hk, rfl⟩ := hrel
    have hb := fdg_bd F.data.toList H.out k
    have hb16 : fdg F.data.toList k < 100000000000000000 := by
      have := pow10_le hk
      omega
    have h0 := hb.1
    clear hb
    by_cases hlt : k < 16
    · by_cases hl : k < F.size
      · have hdg := allD_get H.out k (by simpa using hl)
        have d1 : 48 ≤ (F[k].toNat : Int) := hdg.1
        have d2 : (F[k].toNat : Int) ≤ 57 := hdg.2
        clear hdg
        have HE := Lib.hid (fdg_in F.data.toList k (by simpa using hl))
        go_wp2
        go_round
        case rel => exact ⟨k + 1, by go_num, by omega, by rw [HE.out]; rfl⟩
        case measure => simp [intOf]; omega
      · have HE := Lib.hid (fdg_out F.data.toList k (by simpa using hl))
        go_wp2
        go_round
        case rel => exact ⟨k + 1, by go_num, by omega, by rw [HE.out]⟩
        case measure => simp [intOf]; omega
    · obtain rfl : k = 16 := by omega
      generalize hD : fdg F.data.toList 16 = D at *
      have HD := Lib.hid hD
      clear hD
      go_wp2
      go_loop [5] (fun i => ∃ j : Nat, i = .int .i64 j ∧ 16 ≤ j ∧ (j ≤ F.size ∨ j = 16) ∧ Hid (∀ i, 16 ≤ i → i < j → (h : i < F.data.toList.length) → (F.data.toList[i].toNat : Int) = 48)) (fun i => F.size - (intOf i).toNat)
      case atStart => exact ⟨16, rfl, by omega, .inr rfl, fun i h1 h2 _ => by omega⟩
      case round =>
        obtain ⟨j, rfl, hj1, hj2, hj3⟩ := hrel
        by_cases hjl : j < F.size
        · go_wp2
          · have hne : (!((F[j].toNat : Int) == 48)) = true := by assumption
            go_ret
            refine ⟨ret_int ?_, (Below.refl _ _).alloc (Nat.le_refl _) _⟩
            unfold fracD
            rw [HD.out, stick_one F.data.toList j (by simpa using hjl) hj1 (show ¬ (F[j].toNat : Int) = 48 by simpa using hne)]
            omega
          · have heq : (!((F[j].toNat : Int) == 48)) = false := by assumption
            go_round
            case rel =>
              refine ⟨j + 1, by go_num, by omega, .inl (by omega), fun i h1 h2 h3 => ?_⟩
              rcases Nat.lt_or_ge i j with h | h
              · exact hj3.out i h1 h h3
              · obtain rfl : i = j := by omega
                exact (show (F[i].toNat : Int) = 48 by simpa using heq)
            case measure => simp [intOf]; omega
        · go_wp2
          go_ret
          refine ⟨ret_int ?_, (Below.refl _ _).alloc (Nat.le_refl _) _⟩
          unfold fracD
          rw [HD.out, stick_zero _ (fun i h1 h2 => hj3.out i h1 (by simp at h2; omega) h2)]
          omega

/-- The value of a decimal number's parts, in units, rounded down and up. -/
def sizeLo (W F : List UInt8) : Int := wv 2147483648 W * 65536 + dn (fracD F) 1525878906250
def sizeHi (W F : List UInt8) : Int := wv 2147483648 W * 65536 + up (fracD F) 1525878906250

theorem wv_take (cap : Int) (s : ByteArray) (k : Nat) (h : k < s.size) : wv cap (s.data.toList.take (k + 1)) = min (10 * wv cap (s.data.toList.take k) + ((s[k].toNat : Int) - 48)) cap := by
  rw [List.take_succ_eq_append_getElem (by simpa using h), wv_snoc]
  rfl
theorem fracD_bd (l : List UInt8) (h : allD l) : 0 ≤ fracD l ∧ fracD l < 100000000000000000 := by
  have := fdg_bd l h 16
  have h16 : (10 : Int) ^ 16 = 10000000000000000 := by decide
  rw [h16] at this
  unfold fracD stick
  split <;> omega

theorem size_any (b : Bool) (W F : ByteArray) (w : World) (hsW : W.size ≤ maxLen) (hs : F.size ≤ maxLen) (hW : allD W.data.toList) (hF : allD F.data.toList) :
    Calls Try.prog 36 #[.agg #[.bool b, .string W, .string F]] w fun e w' => e = .returned (.tuple #[.int .u64 (sizeLo W.data.toList F.data.toList), .int .u64 (sizeHi W.data.toList F.data.toList)]) ∧ Below w.heap.size w w' := by
  have hfb := Lib.hid (fracD_bd _ hF)
  have hfr := fun w => frac_any b W F w hs hF
  unfold maxLen at hsW
  have H := Lib.hid hW
  clear hF hW
  go_enter Try.func36, Try.ntmps36
  go_wp2_with (fail)
  go_loop [4, 11] (fun f i => ∃ k : Nat, i = .int .i64 k ∧ k ≤ W.size ∧ f = .int .u64 (wv 2147483648 (W.data.toList.take k))) (fun _ i => W.size - (intOf i).toNat)
  case atStart => exact ⟨0, rfl, Nat.zero_le _, rfl⟩
  case round =>
    obtain ⟨k, rfl, hk, rfl⟩ := hrel
    have hb := wv_bd (cap := 2147483648) (by decide) (W.data.toList.take k) (fun c hc => H.out c (List.mem_of_mem_take hc))
    by_cases hlt : k < W.size
    · have hdg := allD_get H.out k (by simpa using hlt)
      have d1 : 48 ≤ (W[k].toNat : Int) := hdg.1
      have d2 : (W[k].toNat : Int) ≤ 57 := hdg.2
      clear hdg
      have HE := Lib.hid (wv_take 2147483648 W k hlt)
      go_wp2_with (fail)
      go_round
      case rel =>
        refine ⟨k + 1, by go_num, by omega, ?_⟩
        rw [HE.out]
        congr 1
        split <;> omega
      case measure => simp [intOf]; omega
    · obtain rfl : k = W.size := by omega
      have e : W.data.toList.take W.size = W.data.toList := List.take_of_length_le (by simp)
      have he := Lib.hid e
      have hb1 := hb.1
      have hb2 := hb.2
      clear hb e
      go_wp2_with (fail)
      refine (hfr _).mono ?_
      rintro e1 w1 ⟨rfl, hB1⟩
      go_wp2_with (fail)
      refine (boundsu_any (fracD F.data.toList) 1525878906250 _ hfb.out.1 (by have := hfb.out.2; omega) (by decide)).mono ?_
      rintro e2 w2 ⟨rfl, hB2⟩
      have hlo : 0 ≤ dn (fracD F.data.toList) 1525878906250 ∧ dn (fracD F.data.toList) 1525878906250 ≤ 65536 := by
        rw [dn_pos _ (by decide)]
        have := hfb.out
        omega
      have hhi := up_dn (fracD F.data.toList) (d := 1525878906250) (by decide)
      go_wp2_with (fail)
      go_ret2
      refine ⟨ret_pair (by unfold sizeLo; first | rfl | rw [he.out]) (by unfold sizeHi; first | rfl | rw [he.out]), ?_⟩
      exact below_then (below_then ((Below.refl _ _).alloc (Nat.le_refl _) _) hB1) hB2
end Go.Proofs.Ytjjllfaehipemaa
