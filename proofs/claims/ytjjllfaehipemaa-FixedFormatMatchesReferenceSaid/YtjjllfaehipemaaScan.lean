/-
  Contracts of package armillaryref01's IsDigit, skipDigits, ScanDecimal.
-/
import Derived.Test.YtjjllfaehipemaaText
namespace Go.Proofs.Ytjjllfaehipemaa
open Go.ChangeShapes Go.WideShapes Go.ChangeAt Go.RowKit

theorem isd_yes (c : Int) (w : World) (h1 : 48 ≤ c) (h2 : c ≤ 57) :
    Calls Try.prog 45 #[.int .u8 c] w fun e w' => e = .returned (.bool true) ∧ w = w' := by
  go_enter Try.func45, Try.ntmps45
  go_wp2
  go_ret
  exact ⟨rfl, rfl⟩
theorem isd_no (c : Int) (w : World) (h : c < 48 ∨ 57 < c) :
    Calls Try.prog 45 #[.int .u8 c] w fun e w' => e = .returned (.bool false) ∧ w = w' := by
  rcases h with h | h
  · go_enter Try.func45, Try.ntmps45
    go_wp2
    go_ret
    exact ⟨rfl, rfl⟩
  · have h' : 48 ≤ c := by omega
    have h2 : decide (c ≤ 57) = false := by simp; omega
    go_enter Try.func45, Try.ntmps45
    go_wp2
    go_ret
    exact ⟨rfl, rfl⟩

theorem run_size (s : ByteArray) (n : Nat) : (runAt s n).size = ndl (s.data.toList.drop n) := by
  have := ndl_le (s.data.toList.drop n)
  rw [size_list, run_list, List.length_take]
  omega
theorem run_step (s : ByteArray) (n k : Nat) (hn : n ≤ k) (hk : k < s.size) (h : k ≤ n + (runAt s n).size) (h1 : 48 ≤ (s[k].toNat : Int)) (h2 : (s[k].toNat : Int) ≤ 57) : k + 1 ≤ n + (runAt s n).size := by
  rw [run_size] at h ⊢
  have hl : k - n < (s.data.toList.drop n).length := by simp; omega
  have := ndl_step (s.data.toList.drop n) (k - n) hl (by omega) (by
    rw [List.getElem_drop]
    have e : n + (k - n) = k := by omega
    simp only [e]
    exact ⟨h1, h2⟩)
  omega
theorem run_stop (s : ByteArray) (n k : Nat) (hn : n ≤ k) (hk : k < s.size) (h : k ≤ n + (runAt s n).size) (hc : (s[k].toNat : Int) < 48 ∨ 57 < (s[k].toNat : Int)) : n + (runAt s n).size = k := by
  rw [run_size] at h ⊢
  have hl : k - n < (s.data.toList.drop n).length := by simp; omega
  have := ndl_stop (s.data.toList.drop n) (k - n) hl (by omega) (by
    rw [List.getElem_drop]
    have e : n + (k - n) = k := by omega
    simp only [e]
    intro hd
    have a : 48 ≤ (s[k].toNat : Int) := hd.1
    have b : (s[k].toNat : Int) ≤ 57 := hd.2
    omega)
  omega

set_option maxHeartbeats 1000000 in
theorem skip_any (s : ByteArray) (n : Nat) (w : World) (hs : s.size ≤ maxLen) (hn : n ≤ s.size) :
    Calls Try.prog 39 #[.string s, .int .i64 n] w fun e w' => e = .returned (.int .i64 ((n + (runAt s n).size : Nat) : Int)) ∧ w = w' := by
  have H0 := Lib.hid (runAt_size s n hn)
  unfold maxLen at hs
  go_enter Try.func39, Try.ntmps39
  go_wp2_with (fail)
  go_loop [1] (fun i => ∃ k : Nat, i = .int .i64 k ∧ n ≤ k ∧ k ≤ s.size ∧ Hid (k ≤ n + (runAt s n).size)) (fun i => s.size - (intOf i).toNat)
  case atStart => exact ⟨n, rfl, Nat.le_refl _, hn, Nat.le_add_right _ _⟩
  case round =>
    obtain ⟨k, rfl, hk, hks, hr⟩ := hrel
    by_cases hlt : k < s.size
    · by_cases hd : 48 ≤ (s[k].toNat : Int) ∧ (s[k].toNat : Int) ≤ 57
      · obtain ⟨d1, d2⟩ := hd
        have H := Lib.hid (run_step s n k hk hlt hr.out d1 d2)
        go_wp2_with (fail)
        refine (isd_yes _ _ d1 d2).mono ?_
        rintro e w' ⟨rfl, rfl⟩
        go_wp2_with (fail)
        go_round
        case rel => exact ⟨k + 1, by go_num, by omega, by omega, H.out⟩
        case measure => simp [intOf]; omega
      · have hd' : (s[k].toNat : Int) < 48 ∨ 57 < (s[k].toNat : Int) := by omega
        have H := Lib.hid (run_stop s n k hk hlt hr.out hd')
        have HD := Lib.hid hd'
        clear hd hd'
        go_wp2_with (fail)
        refine (isd_no _ _ HD.out).mono ?_
        rintro e w' ⟨rfl, rfl⟩
        go_wp2_with (fail)
        go_ret
        exact ⟨by rw [H.out]; rfl, rfl⟩
    · have H : Hid (n + (runAt s n).size = k) := by
        have := hr.out
        have := H0.out
        show _ = _
        omega
      go_wp2_with (fail)
      go_ret
      exact ⟨ret_int (by have := H.out; omega), rfl⟩

/-- The offset that 'ScanDecimal' hands back. -/
def offOf (s : ByteArray) : Nat := if (wholeOf s).size = 0 then ptOf s else if ptOf s < s.size then (if byteAt s (ptOf s) = 46 then endOf s else ptOf s) else ptOf s
theorem off_err {s : ByteArray} {o : Nat} (h : perr s = some o) : offOf s = o := by
  unfold perr at h
  unfold offOf
  by_cases h1 : (wholeOf s).size = 0
  · rw [if_pos h1] at h ⊢; exact Option.some.inj h
  rw [if_neg h1] at h ⊢
  by_cases h2 : ptOf s < s.size
  · rw [if_pos h2] at h ⊢
    by_cases h3 : byteAt s (ptOf s) = 46
    · rw [if_pos h3] at h ⊢
      by_cases h4 : (fracOf s).size = 0
      · rw [if_pos h4] at h; exact Option.some.inj h
      rw [if_neg h4] at h
      by_cases h5 : endOf s < s.size
      · rw [if_pos h5] at h; exact Option.some.inj h
      · rw [if_neg h5] at h; cases h
    · rw [if_neg h3] at h ⊢; exact Option.some.inj h
  · rw [if_neg h2] at h; cases h
def scanV (s : ByteArray) : Value := .tuple #[.bool (perr s).isNone, .int .i64 (offOf s : Int), .int .i64 (ptOf s : Int)]
end Go.Proofs.Ytjjllfaehipemaa
