/-
  The contract of package armillaryref01's FormatInt.
-/
import Derived.Test.YtjjllfaehipemaaRound
import Derived.Test.YtjjllfaehipemaaRef1
import Derived.Test.YtjjllfaehipemaaLead
namespace Go.Proofs.Ytjjllfaehipemaa
open Go.ChangeShapes Go.WideShapes Go.ChangeAt Go.RowKit

theorem dgs_any_wd : ∀ (k : Nat) (n a b : Int), a ≤ 1 → b ≤ 1 → dgs k n a = dgs k n b
  | 0, _, _, _, _, _ => rfl
  | k + 1, n, a, b, ha, hb => by
    unfold dgs
    have e := dgs_any_wd k (n / 10) (a - 1) (b - 1) (by omega) (by omega)
    by_cases h : 10 ≤ n
    · rw [if_pos (.inl h), if_pos (.inl h), e]
    · rw [if_neg (by omega), if_neg (by omega)]

theorem conv_one (c : Int) (w : World) : (convert 58 9 (.slice (some ⟨w.heap.size, 0, none⟩) 1 1)).run Try.prog (w.alloc (.cells #[.int .u8 c] 5)) = .ok (.string (strOfNums [c])) (w.alloc (.cells #[.int .u8 c] 5)) := by
  refine run_convert_bytes_arg _ _ _ Try.underlying58 Try.underlying5 w.heap.size 0 1 1 [c] rfl (fun i hi => ?_) _ Try.underlying9
  obtain rfl : i = 0 := by omega
  simp

theorem str_app (a b : List Int) : strOfNums a ++ strOfNums b = strOfNums (a ++ b) := by
  apply ByteArray.ext
  apply Array.toList_inj.1
  rw [str_list, bytesOf, List.map_append]
  have h : (strOfNums a ++ strOfNums b).data.toList = (strOfNums a).data.toList ++ (strOfNums b).data.toList := by simp
  rw [h, str_list, str_list]
  rfl
theorem str_size (a : List Int) : (strOfNums a).size = a.length := by rw [size_list, str_list]; simp [bytesOf]

theorem rint_small (n : Int) (w : World) (h0 : 0 ≤ n) (h1 : n < 10) :
    Calls Try.prog 30 #[.int .i64 n] w fun e w' => e = .returned (.string (strOfNums [48 + n])) ∧ Below w.heap.size w w' := by
  have hcv := conv_one (48 + n) w
  go_enter Try.func30, Try.ntmps30
  go_wp2_with (fail)
  go_ret
  exact ⟨rfl, (Below.refl _ _).alloc (Nat.le_refl _) _⟩

theorem rint_any (k : Nat) : k ≤ 100 → ∀ (n : Int) (w : World), 0 ≤ n → n < 10 ^ (k + 1) → n < 1000000000000000000 →
    Calls Try.prog 30 #[.int .i64 n] w fun e w' => e = .returned (.string (strOfNums (dgs k n 1))) ∧ Below w.heap.size w w' := by
  induction k with
  | zero =>
    intro _ n w h0 h1 _
    have h10 : n < 10 := by simpa using h1
    have := rint_small n w h0 h10
    have e : dgs 0 n 1 = [48 + n] := by simp [dgs]; omega
    rwa [e]
  | succ k ih =>
    intro hk n w h0 h1 h2
    by_cases hc : n < 10
    · have := rint_small n w h0 hc
      have e : dgs (k + 1) n 1 = [48 + n] := by rw [dgs_neg _ _ _ (by omega)]; congr 1; omega
      rwa [e]
    · have hrec := fun w => ih (by omega) (n / 10) w (by omega) (by rw [Int.pow_succ] at h1; omega) (by omega)
      have hd : Hid (dgs (k + 1) n 1 = dgs k (n / 10) 1 ++ [48 + n % 10]) := by rw [dgs_pos _ _ _ (.inl (by omega)), dgs_any_wd k _ (1 - 1) 1 (by omega) (by omega)]; exact rfl
      have hl := dgs_len k (n / 10) 1
      have hsz : (strOfNums (dgs k (n / 10) 1)).size + (strOfNums [48 + n % 10]).size ≤ 9223372036854775807 := by rw [str_size, str_size]; simp; omega
      have hA := Lib.hid (str_app (dgs k (n / 10) 1) [48 + n % 10])
      clear h1 ih hl
      go_enter Try.func30, Try.ntmps30
      go_wp2_with (fail)
      refine (hrec _).mono ?_
      rintro e1 w1 ⟨rfl, hB1⟩
      go_wp2_with (fail)
      refine (rint_small (n % 10) _ (by omega) (by omega)).mono ?_
      rintro e2 w2 ⟨rfl, hB2⟩
      go_wp2_with (fail)
      go_ret
      exact ⟨ret_str (by rw [hd.out]; exact hA.out), below_then hB1 hB2⟩
end Go.Proofs.Ytjjllfaehipemaa
