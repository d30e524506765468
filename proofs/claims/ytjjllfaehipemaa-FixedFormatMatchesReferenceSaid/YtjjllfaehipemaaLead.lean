/-
  The contract of package fixed's 'leadingDigits'.
-/
import Derived.Test.YtjjllfaehipemaaFix4
import Derived.Test.YtjjllfaehipemaaStr
namespace Go.Proofs.Ytjjllfaehipemaa
open Go.ChangeShapes Go.WideShapes Go.ChangeAt Go.RowKit

theorem ret_str {a b : ByteArray} (h : a = b) : Ending.returned (.string a) = .returned (.string b) := by rw [h]
theorem extract_all (s : ByteArray) : s.extract 0 s.size = s := by
  apply ByteArray.ext
  apply Array.toList_inj.1
  simp

theorem lead_any (s : ByteArray) (w : World) (hs : s.size ≤ maxLen) :
    Calls Try.prog 42 #[.string s] w fun e w' => e = .returned (.string (s.extract 0 (nd s))) ∧ w = w' := by
  unfold maxLen at hs
  go_enter Try.func42, Try.ntmps42
  go_wp2
  go_loop [6] (fun i => ∃ k : Nat, i = .int .i64 k ∧ k ≤ s.size ∧ k ≤ nd s) (fun i => s.size - (intOf i).toNat)
  case atStart => exact ⟨0, rfl, Nat.zero_le _, Nat.zero_le _⟩
  case round =>
    obtain ⟨k, rfl, hk, hkn⟩ := hrel
    have H := Lib.hid hkn
    clear hkn
    by_cases hlt : k < s.size
    · go_wp2
      · go_ret
        refine ⟨ret_str (by rw [nd_stop s k hlt H.out (by first | assumption | omega)]), rfl⟩
      · go_round
        case rel => exact ⟨k + 1, by go_num, by omega, nd_step s k hlt H.out (by omega) (by omega)⟩
        case measure => simp [intOf]; omega
      · go_ret
        refine ⟨ret_str (by rw [nd_stop s k hlt H.out (by first | assumption | omega)]), rfl⟩
    · go_wp2
      go_ret
      exact ⟨ret_str (by have e := nd_end s (by have := H.out; omega); rw [e, extract_all]), rfl⟩
end Go.Proofs.Ytjjllfaehipemaa
