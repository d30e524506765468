/-
  The contract of package armillaryref01's ScanDecimal: one theorem a way.
-/
import Derived.Test.YtjjllfaehipemaaScan
namespace Go.Proofs.Ytjjllfaehipemaa
open Go.ChangeShapes Go.WideShapes Go.ChangeAt Go.RowKit
set_option linter.unusedVariables false

set_option maxHeartbeats 1000000 in
theorem scan_none_neg (s : ByteArray) (p e : Nat) (w : World) (hs : s.size ≤ maxLen) (h0 : 0 < s.size) (hc : ((s[0].toNat : Int) == 45) = true)
    (hl1 : ∀ w, Calls Try.prog 39 #[.string s, .int .i64 1] w fun e w' => e = .returned (.int .i64 (p : Int)) ∧ w = w') (hp0 : 1 ≤ p) (hp1 : p ≤ s.size) (hp : p = 1) :
    Calls Try.prog 29 #[.string s] w fun x w' => x = .returned (.tuple #[.bool false, .int .i64 ((p : Int)), .int .i64 (p : Int)]) ∧ w = w' := by
  unfold maxLen at hs
  subst hp
  go_enter Try.func29, Try.ntmps29
  go_wp2_with (fail)
  refine (hl1 _).mono ?_
  rintro e1 w1 ⟨rfl, rfl⟩
  go_wp2_with (fail)
  all_goals go_ret3
  all_goals first | exact ⟨rfl, rfl⟩ | (refine ⟨?_, rfl⟩; simp; omega)

set_option maxHeartbeats 1000000 in
theorem scan_full_neg (s : ByteArray) (p e : Nat) (w : World) (hs : s.size ≤ maxLen) (h0 : 0 < s.size) (hc : ((s[0].toNat : Int) == 45) = true)
    (hl1 : ∀ w, Calls Try.prog 39 #[.string s, .int .i64 1] w fun e w' => e = .returned (.int .i64 (p : Int)) ∧ w = w') (hp0 : 1 ≤ p) (hp1 : p ≤ s.size) (hp : 1 < p) (hpe : ¬ p < s.size) :
    Calls Try.prog 29 #[.string s] w fun x w' => x = .returned (.tuple #[.bool true, .int .i64 ((p : Int)), .int .i64 (p : Int)]) ∧ w = w' := by
  unfold maxLen at hs
  have hq1 : ((p : Int) == 1) = false := by simp; omega
  have hq2 : ((p : Int) == (s.size : Int)) = true := by simp; omega
  go_enter Try.func29, Try.ntmps29
  go_wp2_with (fail)
  refine (hl1 _).mono ?_
  rintro e1 w1 ⟨rfl, rfl⟩
  go_wp2_with (fail)
  all_goals go_ret3
  all_goals first | exact ⟨rfl, rfl⟩ | (refine ⟨?_, rfl⟩; simp; omega)

set_option maxHeartbeats 1000000 in
theorem scan_bad_neg (s : ByteArray) (p e : Nat) (w : World) (hs : s.size ≤ maxLen) (h0 : 0 < s.size) (hc : ((s[0].toNat : Int) == 45) = true)
    (hl1 : ∀ w, Calls Try.prog 39 #[.string s, .int .i64 1] w fun e w' => e = .returned (.int .i64 (p : Int)) ∧ w = w') (hp0 : 1 ≤ p) (hp1 : p ≤ s.size) (hp : 1 < p) (hpe : p < s.size) (hdot : ((s[p].toNat : Int) != 46) = true) :
    Calls Try.prog 29 #[.string s] w fun x w' => x = .returned (.tuple #[.bool false, .int .i64 ((p : Int)), .int .i64 (p : Int)]) ∧ w = w' := by
  unfold maxLen at hs
  have hq1 : ((p : Int) == 1) = false := by simp; omega
  have hq2 : ((p : Int) == (s.size : Int)) = false := by simp; omega
  go_enter Try.func29, Try.ntmps29
  go_wp2_with (fail)
  refine (hl1 _).mono ?_
  rintro e1 w1 ⟨rfl, rfl⟩
  go_wp2_with (fail)
  all_goals go_ret3
  all_goals first | exact ⟨rfl, rfl⟩ | (refine ⟨?_, rfl⟩; simp; omega)

set_option maxHeartbeats 1000000 in
theorem scan_empty_neg (s : ByteArray) (p e : Nat) (w : World) (hs : s.size ≤ maxLen) (h0 : 0 < s.size) (hc : ((s[0].toNat : Int) == 45) = true)
    (hl1 : ∀ w, Calls Try.prog 39 #[.string s, .int .i64 1] w fun e w' => e = .returned (.int .i64 (p : Int)) ∧ w = w') (hp0 : 1 ≤ p) (hp1 : p ≤ s.size) (hp : 1 < p) (hpe : p < s.size) (hdot : ((s[p].toNat : Int) != 46) = false)
    (hl2 : ∀ w, Calls Try.prog 39 #[.string s, .int .i64 ((p : Int) + 1)] w fun x w' => x = .returned (.int .i64 ((p : Int) + 1 + (e : Int))) ∧ w = w') (he : e = 0) (hee : p + 1 + e ≤ s.size) :
    Calls Try.prog 29 #[.string s] w fun x w' => x = .returned (.tuple #[.bool false, .int .i64 ((p : Int) + 1 + (e : Int)), .int .i64 (p : Int)]) ∧ w = w' := by
  unfold maxLen at hs
  subst he
  have hee3 := Lib.hid hee
  clear hee
  have hq1 : ((p : Int) == 1) = false := by simp; omega
  have hq2 : ((p : Int) == (s.size : Int)) = false := by simp; omega
  go_enter Try.func29, Try.ntmps29
  go_wp2_with (fail)
  refine (hl1 _).mono ?_
  rintro e1 w1 ⟨rfl, rfl⟩
  go_wp2_with (fail)
  refine (hl2 _).mono ?_
  rintro e2 w2 ⟨rfl, rfl⟩
  go_wp2_with (fail)
  all_goals go_ret3
  all_goals first | exact ⟨rfl, rfl⟩ | (refine ⟨?_, rfl⟩; simp; omega)

set_option maxHeartbeats 1000000 in
theorem scan_more_neg (s : ByteArray) (p e : Nat) (w : World) (hs : s.size ≤ maxLen) (h0 : 0 < s.size) (hc : ((s[0].toNat : Int) == 45) = true)
    (hl1 : ∀ w, Calls Try.prog 39 #[.string s, .int .i64 1] w fun e w' => e = .returned (.int .i64 (p : Int)) ∧ w = w') (hp0 : 1 ≤ p) (hp1 : p ≤ s.size) (hp : 1 < p) (hpe : p < s.size) (hdot : ((s[p].toNat : Int) != 46) = false)
    (hl2 : ∀ w, Calls Try.prog 39 #[.string s, .int .i64 ((p : Int) + 1)] w fun x w' => x = .returned (.int .i64 ((p : Int) + 1 + (e : Int))) ∧ w = w') (he : 0 < e) (hee : p + 1 + e < s.size) :
    Calls Try.prog 29 #[.string s] w fun x w' => x = .returned (.tuple #[.bool false, .int .i64 ((p : Int) + 1 + (e : Int)), .int .i64 (p : Int)]) ∧ w = w' := by
  unfold maxLen at hs
  have hee2 : ((p : Int) + 1 + (e : Int) == (s.size : Int)) = false := by simp; omega
  have hq1 : ((p : Int) == 1) = false := by simp; omega
  have hq2 : ((p : Int) == (s.size : Int)) = false := by simp; omega
  go_enter Try.func29, Try.ntmps29
  go_wp2_with (fail)
  refine (hl1 _).mono ?_
  rintro e1 w1 ⟨rfl, rfl⟩
  go_wp2_with (fail)
  refine (hl2 _).mono ?_
  rintro e2 w2 ⟨rfl, rfl⟩
  go_wp2_with (fail)
  all_goals go_ret3
  all_goals first | exact ⟨rfl, rfl⟩ | (refine ⟨?_, rfl⟩; simp; omega)

set_option maxHeartbeats 1000000 in
theorem scan_done_neg (s : ByteArray) (p e : Nat) (w : World) (hs : s.size ≤ maxLen) (h0 : 0 < s.size) (hc : ((s[0].toNat : Int) == 45) = true)
    (hl1 : ∀ w, Calls Try.prog 39 #[.string s, .int .i64 1] w fun e w' => e = .returned (.int .i64 (p : Int)) ∧ w = w') (hp0 : 1 ≤ p) (hp1 : p ≤ s.size) (hp : 1 < p) (hpe : p < s.size) (hdot : ((s[p].toNat : Int) != 46) = false)
    (hl2 : ∀ w, Calls Try.prog 39 #[.string s, .int .i64 ((p : Int) + 1)] w fun x w' => x = .returned (.int .i64 ((p : Int) + 1 + (e : Int))) ∧ w = w') (he : 0 < e) (hee : p + 1 + e = s.size) :
    Calls Try.prog 29 #[.string s] w fun x w' => x = .returned (.tuple #[.bool true, .int .i64 ((p : Int) + 1 + (e : Int)), .int .i64 (p : Int)]) ∧ w = w' := by
  unfold maxLen at hs
  have hee1 : ¬ p + 1 + e < s.size := by omega
  have hee2 : ((p : Int) + 1 + (e : Int) == (s.size : Int)) = true := by simp; omega
  have he1 : ¬ p + 1 + e ≤ p + 1 := by omega
  clear hee
  have hq1 : ((p : Int) == 1) = false := by simp; omega
  have hq2 : ((p : Int) == (s.size : Int)) = false := by simp; omega
  go_enter Try.func29, Try.ntmps29
  go_wp2_with (fail)
  refine (hl1 _).mono ?_
  rintro e1 w1 ⟨rfl, rfl⟩
  go_wp2_with (fail)
  refine (hl2 _).mono ?_
  rintro e2 w2 ⟨rfl, rfl⟩
  go_wp2_with (fail)
  all_goals go_ret3
  all_goals first | exact ⟨rfl, rfl⟩ | (refine ⟨?_, rfl⟩; simp; omega)

set_option maxHeartbeats 1000000 in
theorem scan_none_pos (s : ByteArray) (p e : Nat) (w : World) (hs : s.size ≤ maxLen) (h0 : 0 < s.size) (hc : ((s[0].toNat : Int) == 45) = false)
    (hl1 : ∀ w, Calls Try.prog 39 #[.string s, .int .i64 0] w fun e w' => e = .returned (.int .i64 (p : Int)) ∧ w = w') (hp0 : 0 ≤ p) (hp1 : p ≤ s.size) (hp : p = 0) :
    Calls Try.prog 29 #[.string s] w fun x w' => x = .returned (.tuple #[.bool false, .int .i64 ((p : Int)), .int .i64 (p : Int)]) ∧ w = w' := by
  unfold maxLen at hs
  subst hp
  go_enter Try.func29, Try.ntmps29
  go_wp2_with (fail)
  refine (hl1 _).mono ?_
  rintro e1 w1 ⟨rfl, rfl⟩
  go_wp2_with (fail)
  all_goals go_ret3
  all_goals first | exact ⟨rfl, rfl⟩ | (refine ⟨?_, rfl⟩; simp; omega)

set_option maxHeartbeats 1000000 in
theorem scan_full_pos (s : ByteArray) (p e : Nat) (w : World) (hs : s.size ≤ maxLen) (h0 : 0 < s.size) (hc : ((s[0].toNat : Int) == 45) = false)
    (hl1 : ∀ w, Calls Try.prog 39 #[.string s, .int .i64 0] w fun e w' => e = .returned (.int .i64 (p : Int)) ∧ w = w') (hp0 : 0 ≤ p) (hp1 : p ≤ s.size) (hp : 0 < p) (hpe : ¬ p < s.size) :
    Calls Try.prog 29 #[.string s] w fun x w' => x = .returned (.tuple #[.bool true, .int .i64 ((p : Int)), .int .i64 (p : Int)]) ∧ w = w' := by
  unfold maxLen at hs
  have hq1 : ((p : Int) == 0) = false := by simp; omega
  have hq2 : ((p : Int) == (s.size : Int)) = true := by simp; omega
  go_enter Try.func29, Try.ntmps29
  go_wp2_with (fail)
  refine (hl1 _).mono ?_
  rintro e1 w1 ⟨rfl, rfl⟩
  go_wp2_with (fail)
  all_goals go_ret3
  all_goals first | exact ⟨rfl, rfl⟩ | (refine ⟨?_, rfl⟩; simp; omega)

set_option maxHeartbeats 1000000 in
theorem scan_bad_pos (s : ByteArray) (p e : Nat) (w : World) (hs : s.size ≤ maxLen) (h0 : 0 < s.size) (hc : ((s[0].toNat : Int) == 45) = false)
    (hl1 : ∀ w, Calls Try.prog 39 #[.string s, .int .i64 0] w fun e w' => e = .returned (.int .i64 (p : Int)) ∧ w = w') (hp0 : 0 ≤ p) (hp1 : p ≤ s.size) (hp : 0 < p) (hpe : p < s.size) (hdot : ((s[p].toNat : Int) != 46) = true) :
    Calls Try.prog 29 #[.string s] w fun x w' => x = .returned (.tuple #[.bool false, .int .i64 ((p : Int)), .int .i64 (p : Int)]) ∧ w = w' := by
  unfold maxLen at hs
  have hq1 : ((p : Int) == 0) = false := by simp; omega
  have hq2 : ((p : Int) == (s.size : Int)) = false := by simp; omega
  go_enter Try.func29, Try.ntmps29
  go_wp2_with (fail)
  refine (hl1 _).mono ?_
  rintro e1 w1 ⟨rfl, rfl⟩
  go_wp2_with (fail)
  all_goals go_ret3
  all_goals first | exact ⟨rfl, rfl⟩ | (refine ⟨?_, rfl⟩; simp; omega)

set_option maxHeartbeats 1000000 in
theorem scan_empty_pos (s : ByteArray) (p e : Nat) (w : World) (hs : s.size ≤ maxLen) (h0 : 0 < s.size) (hc : ((s[0].toNat : Int) == 45) = false)
    (hl1 : ∀ w, Calls Try.prog 39 #[.string s, .int .i64 0] w fun e w' => e = .returned (.int .i64 (p : Int)) ∧ w = w') (hp0 : 0 ≤ p) (hp1 : p ≤ s.size) (hp : 0 < p) (hpe : p < s.size) (hdot : ((s[p].toNat : Int) != 46) = false)
    (hl2 : ∀ w, Calls Try.prog 39 #[.string s, .int .i64 ((p : Int) + 1)] w fun x w' => x = .returned (.int .i64 ((p : Int) + 1 + (e : Int))) ∧ w = w') (he : e = 0) (hee : p + 1 + e ≤ s.size) :
    Calls Try.prog 29 #[.string s] w fun x w' => x = .returned (.tuple #[.bool false, .int .i64 ((p : Int) + 1 + (e : Int)), .int .i64 (p : Int)]) ∧ w = w' := by
  unfold maxLen at hs
  subst he
  have hee3 := Lib.hid hee
  clear hee
  have hq1 : ((p : Int) == 0) = false := by simp; omega
  have hq2 : ((p : Int) == (s.size : Int)) = false := by simp; omega
  go_enter Try.func29, Try.ntmps29
  go_wp2_with (fail)
  refine (hl1 _).mono ?_
  rintro e1 w1 ⟨rfl, rfl⟩
  go_wp2_with (fail)
  refine (hl2 _).mono ?_
  rintro e2 w2 ⟨rfl, rfl⟩
  go_wp2_with (fail)
  all_goals go_ret3
  all_goals first | exact ⟨rfl, rfl⟩ | (refine ⟨?_, rfl⟩; simp; omega)

set_option maxHeartbeats 1000000 in
theorem scan_more_pos (s : ByteArray) (p e : Nat) (w : World) (hs : s.size ≤ maxLen) (h0 : 0 < s.size) (hc : ((s[0].toNat : Int) == 45) = false)
    (hl1 : ∀ w, Calls Try.prog 39 #[.string s, .int .i64 0] w fun e w' => e = .returned (.int .i64 (p : Int)) ∧ w = w') (hp0 : 0 ≤ p) (hp1 : p ≤ s.size) (hp : 0 < p) (hpe : p < s.size) (hdot : ((s[p].toNat : Int) != 46) = false)
    (hl2 : ∀ w, Calls Try.prog 39 #[.string s, .int .i64 ((p : Int) + 1)] w fun x w' => x = .returned (.int .i64 ((p : Int) + 1 + (e : Int))) ∧ w = w') (he : 0 < e) (hee : p + 1 + e < s.size) :
    Calls Try.prog 29 #[.string s] w fun x w' => x = .returned (.tuple #[.bool false, .int .i64 ((p : Int) + 1 + (e : Int)), .int .i64 (p : Int)]) ∧ w = w' := by
  unfold maxLen at hs
  have hee2 : ((p : Int) + 1 + (e : Int) == (s.size : Int)) = false := by simp; omega
  have hq1 : ((p : Int) == 0) = false := by simp; omega
  have hq2 : ((p : Int) == (s.size : Int)) = false := by simp; omega
  go_enter Try.func29, Try.ntmps29
  go_wp2_with (fail)
  refine (hl1 _).mono ?_
  rintro e1 w1 ⟨rfl, rfl⟩
  go_wp2_with (fail)
  refine (hl2 _).mono ?_
  rintro e2 w2 ⟨rfl, rfl⟩
  go_wp2_with (fail)
  all_goals go_ret3
  all_goals first | exact ⟨rfl, rfl⟩ | (refine ⟨?_, rfl⟩; simp; omega)

set_option maxHeartbeats 1000000 in
theorem scan_done_pos (s : ByteArray) (p e : Nat) (w : World) (hs : s.size ≤ maxLen) (h0 : 0 < s.size) (hc : ((s[0].toNat : Int) == 45) = false)
    (hl1 : ∀ w, Calls Try.prog 39 #[.string s, .int .i64 0] w fun e w' => e = .returned (.int .i64 (p : Int)) ∧ w = w') (hp0 : 0 ≤ p) (hp1 : p ≤ s.size) (hp : 0 < p) (hpe : p < s.size) (hdot : ((s[p].toNat : Int) != 46) = false)
    (hl2 : ∀ w, Calls Try.prog 39 #[.string s, .int .i64 ((p : Int) + 1)] w fun x w' => x = .returned (.int .i64 ((p : Int) + 1 + (e : Int))) ∧ w = w') (he : 0 < e) (hee : p + 1 + e = s.size) :
    Calls Try.prog 29 #[.string s] w fun x w' => x = .returned (.tuple #[.bool true, .int .i64 ((p : Int) + 1 + (e : Int)), .int .i64 (p : Int)]) ∧ w = w' := by
  unfold maxLen at hs
  have hee1 : ¬ p + 1 + e < s.size := by omega
  have hee2 : ((p : Int) + 1 + (e : Int) == (s.size : Int)) = true := by simp; omega
  have he1 : ¬ p + 1 + e ≤ p + 1 := by omega
  clear hee
  have hq1 : ((p : Int) == 0) = false := by simp; omega
  have hq2 : ((p : Int) == (s.size : Int)) = false := by simp; omega
  go_enter Try.func29, Try.ntmps29
  go_wp2_with (fail)
  refine (hl1 _).mono ?_
  rintro e1 w1 ⟨rfl, rfl⟩
  go_wp2_with (fail)
  refine (hl2 _).mono ?_
  rintro e2 w2 ⟨rfl, rfl⟩
  go_wp2_with (fail)
  all_goals go_ret3
  all_goals first | exact ⟨rfl, rfl⟩ | (refine ⟨?_, rfl⟩; simp; omega)

set_option maxHeartbeats 1000000 in
theorem scan_none_nil (s : ByteArray) (p e : Nat) (w : World) (hs : s.size ≤ maxLen) (h0 : s.size = 0)
    (hl1 : ∀ w, Calls Try.prog 39 #[.string s, .int .i64 0] w fun e w' => e = .returned (.int .i64 (p : Int)) ∧ w = w') (hp0 : 0 ≤ p) (hp1 : p ≤ s.size) (hp : p = 0) :
    Calls Try.prog 29 #[.string s] w fun x w' => x = .returned (.tuple #[.bool false, .int .i64 ((p : Int)), .int .i64 (p : Int)]) ∧ w = w' := by
  unfold maxLen at hs
  subst hp
  go_enter Try.func29, Try.ntmps29
  go_wp2_with (fail)
  refine (hl1 _).mono ?_
  rintro e1 w1 ⟨rfl, rfl⟩
  go_wp2_with (fail)
  all_goals go_ret3
  all_goals first | exact ⟨rfl, rfl⟩ | (refine ⟨?_, rfl⟩; simp; omega)

theorem scan_any (s : ByteArray) (w : World) (hs : s.size ≤ maxLen) :
    Calls Try.prog 29 #[.string s] w fun x w' => x = .returned (.tuple #[.bool (perr s).isNone, .int .i64 (offOf s : Int), .int .i64 (ptOf s : Int)]) ∧ w = w' := by
  by_cases h0 : 0 < s.size
  case neg =>
    have hb : byteAt s 0 = 0 := by unfold byteAt; rw [dif_neg h0]
    have hsg : sgn s = 0 := by unfold sgn; rw [hb]; rfl
    have hw0 : (runAt s 0).size = 0 := by have := runAt_size s 0 (by omega); omega
    have hwe : wholeOf s = runAt s 0 := by unfold wholeOf; rw [hsg]
    have hp : ptOf s = 0 := by unfold ptOf; rw [hsg, hwe, hw0]
    have hpe : perr s = some (ptOf s) := by unfold perr; rw [hwe, if_pos hw0]
    rw [hpe, off_err hpe, hp]
    refine scan_none_nil s 0 0 w hs (by omega) (fun w => ?_) (by omega) (by omega) rfl
    have := skip_any s 0 w hs (by omega)
    rw [hw0] at this
    exact this
  have hb0 := byteAt_in s 0 h0
  by_cases hc : byteAt s 0 = 45
  · have hsg : sgn s = 1 := by unfold sgn; rw [if_pos hc]
    have hc' : ((s[0].toNat : Int) == 45) = true := by rw [← hb0, hc]; rfl
    have hpp : ptOf s = 1 + (wholeOf s).size := by unfold ptOf; rw [hsg]
    have hwe : wholeOf s = runAt s 1 := by unfold wholeOf; rw [hsg]
    have hp1 : ptOf s ≤ s.size := by have := runAt_size s 1 (by omega); rw [hpp, hwe]; omega
    have hl1 : ∀ w, Calls Try.prog 39 #[.string s, .int .i64 1] w fun e w' => e = .returned (.int .i64 (ptOf s : Int)) ∧ w = w' := fun w => by
      have := skip_any s 1 w hs (by omega)
      rw [hpp, hwe]
      exact this
    by_cases hW : (wholeOf s).size = 0
    · have hpe : perr s = some (ptOf s) := by unfold perr; rw [if_pos hW]
      rw [hpe, off_err hpe]
      exact scan_none_neg s (ptOf s) 0 w hs h0 hc' hl1 (by omega) hp1 (by omega)
    by_cases hlt : ptOf s < s.size
    case neg =>
      have hpe : perr s = none := by unfold perr; rw [if_neg hW, if_neg hlt]
      have ho : offOf s = ptOf s := by unfold offOf; rw [if_neg hW, if_neg hlt]
      rw [hpe, ho]
      exact scan_full_neg s (ptOf s) 0 w hs h0 hc' hl1 (by omega) hp1 (by omega) hlt
    have hbp := byteAt_in s (ptOf s) hlt
    by_cases hdot : byteAt s (ptOf s) = 46
    case neg =>
      have hpe : perr s = some (ptOf s) := by unfold perr; rw [if_neg hW, if_pos hlt, if_neg hdot]
      rw [hpe, off_err hpe]
      exact scan_bad_neg s (ptOf s) 0 w hs h0 hc' hl1 (by omega) hp1 (by omega) hlt (by rw [← hbp]; simpa using hdot)
    have hdot' : ((s[ptOf s].toNat : Int) != 46) = false := by rw [← hbp, hdot]; rfl
    have hf1 : ptOf s + 1 + (fracOf s).size ≤ s.size := runAt_size s (ptOf s + 1) (by omega)
    have hl2 : ∀ w, Calls Try.prog 39 #[.string s, .int .i64 ((ptOf s : Int) + 1)] w fun x w' => x = .returned (.int .i64 ((ptOf s : Int) + 1 + ((fracOf s).size : Int))) ∧ w = w' := fun w => skip_any s (ptOf s + 1) w hs (by omega)
    have hei : ((endOf s : Nat) : Int) = (ptOf s : Int) + 1 + ((fracOf s).size : Int) := by unfold endOf; omega
    have hee : endOf s = ptOf s + 1 + (fracOf s).size := by unfold endOf; omega
    by_cases hF : (fracOf s).size = 0
    · have hpe : perr s = some (endOf s) := by unfold perr; rw [if_neg hW, if_pos hlt, if_pos hdot, if_pos hF]
      rw [hpe, off_err hpe, hei]
      exact scan_empty_neg s (ptOf s) (fracOf s).size w hs h0 hc' hl1 (by omega) hp1 (by omega) hlt hdot' hl2 hF hf1
    by_cases hE : endOf s < s.size
    · have hpe : perr s = some (endOf s) := by unfold perr; rw [if_neg hW, if_pos hlt, if_pos hdot, if_neg hF, if_pos hE]
      rw [hpe, off_err hpe, hei]
      exact scan_more_neg s (ptOf s) (fracOf s).size w hs h0 hc' hl1 (by omega) hp1 (by omega) hlt hdot' hl2 (by omega) (by omega)
    · have hpe : perr s = none := by unfold perr; rw [if_neg hW, if_pos hlt, if_pos hdot, if_neg hF, if_neg hE]
      have ho : offOf s = endOf s := by unfold offOf; rw [if_neg hW, if_pos hlt, if_pos hdot]
      rw [hpe, ho, hei]
      exact scan_done_neg s (ptOf s) (fracOf s).size w hs h0 hc' hl1 (by omega) hp1 (by omega) hlt hdot' hl2 (by omega) (by omega)
  · have hsg : sgn s = 0 := by unfold sgn; rw [if_neg hc]
    have hc' : ((s[0].toNat : Int) == 45) = false := by rw [← hb0]; simpa using hc
    have hpp : ptOf s = 0 + (wholeOf s).size := by unfold ptOf; rw [hsg]
    have hwe : wholeOf s = runAt s 0 := by unfold wholeOf; rw [hsg]
    have hp1 : ptOf s ≤ s.size := by have := runAt_size s 0 (by omega); rw [hpp, hwe]; omega
    have hl1 : ∀ w, Calls Try.prog 39 #[.string s, .int .i64 0] w fun e w' => e = .returned (.int .i64 (ptOf s : Int)) ∧ w = w' := fun w => by
      have := skip_any s 0 w hs (by omega)
      rw [hpp, hwe]
      exact this
    by_cases hW : (wholeOf s).size = 0
    · have hpe : perr s = some (ptOf s) := by unfold perr; rw [if_pos hW]
      rw [hpe, off_err hpe]
      exact scan_none_pos s (ptOf s) 0 w hs h0 hc' hl1 (by omega) hp1 (by omega)
    by_cases hlt : ptOf s < s.size
    case neg =>
      have hpe : perr s = none := by unfold perr; rw [if_neg hW, if_neg hlt]
      have ho : offOf s = ptOf s := by unfold offOf; rw [if_neg hW, if_neg hlt]
      rw [hpe, ho]
      exact scan_full_pos s (ptOf s) 0 w hs h0 hc' hl1 (by omega) hp1 (by omega) hlt
    have hbp := byteAt_in s (ptOf s) hlt
    by_cases hdot : byteAt s (ptOf s) = 46
    case neg =>
      have hpe : perr s = some (ptOf s) := by unfold perr; rw [if_neg hW, if_pos hlt, if_neg hdot]
      rw [hpe, off_err hpe]
      exact scan_bad_pos s (ptOf s) 0 w hs h0 hc' hl1 (by omega) hp1 (by omega) hlt (by rw [← hbp]; simpa using hdot)
    have hdot' : ((s[ptOf s].toNat : Int) != 46) = false := by rw [← hbp, hdot]; rfl
    have hf1 : ptOf s + 1 + (fracOf s).size ≤ s.size := runAt_size s (ptOf s + 1) (by omega)
    have hl2 : ∀ w, Calls Try.prog 39 #[.string s, .int .i64 ((ptOf s : Int) + 1)] w fun x w' => x = .returned (.int .i64 ((ptOf s : Int) + 1 + ((fracOf s).size : Int))) ∧ w = w' := fun w => skip_any s (ptOf s + 1) w hs (by omega)
    have hei : ((endOf s : Nat) : Int) = (ptOf s : Int) + 1 + ((fracOf s).size : Int) := by unfold endOf; omega
    have hee : endOf s = ptOf s + 1 + (fracOf s).size := by unfold endOf; omega
    by_cases hF : (fracOf s).size = 0
    · have hpe : perr s = some (endOf s) := by unfold perr; rw [if_neg hW, if_pos hlt, if_pos hdot, if_pos hF]
      rw [hpe, off_err hpe, hei]
      exact scan_empty_pos s (ptOf s) (fracOf s).size w hs h0 hc' hl1 (by omega) hp1 (by omega) hlt hdot' hl2 hF hf1
    by_cases hE : endOf s < s.size
    · have hpe : perr s = some (endOf s) := by unfold perr; rw [if_neg hW, if_pos hlt, if_pos hdot, if_neg hF, if_pos hE]
      rw [hpe, off_err hpe, hei]
      exact scan_more_pos s (ptOf s) (fracOf s).size w hs h0 hc' hl1 (by omega) hp1 (by omega) hlt hdot' hl2 (by omega) (by omega)
    · have hpe : perr s = none := by unfold perr; rw [if_neg hW, if_pos hlt, if_pos hdot, if_neg hF, if_neg hE]
      have ho : offOf s = endOf s := by unfold offOf; rw [if_neg hW, if_pos hlt, if_pos hdot]
      rw [hpe, ho, hei]
      exact scan_done_pos s (ptOf s) (fracOf s).size w hs h0 hc' hl1 (by omega) hp1 (by omega) hlt hdot' hl2 (by omega) (by omega)
end Go.Proofs.Ytjjllfaehipemaa
