/-
  The contract of package fixed's 'split': one theorem a way.
-/
import Derived.Test.YtjjllfaehipemaaFrac
namespace Go.Proofs.Ytjjllfaehipemaa
open Go.ChangeShapes Go.WideShapes Go.ChangeAt Go.RowKit
set_option linter.unusedVariables false

set_option maxHeartbeats 400000 in
theorem split_E1_neg (s W : ByteArray) (w : World) (hs : s.size ≤ maxLen) (h0 : 0 < s.size) (hne : (!s.toList.isEmpty) = true) (hc : ((s[0].toNat : Int) == 45) = true)
    (hl1 : ∀ w, Calls Try.prog 42 #[.string (s.extract 1 s.size)] w fun e w' => e = .returned (.string W) ∧ w = w')
    (hW : 1 + W.size ≤ s.size)
    (hWe : W.toList.isEmpty = true) :
    Calls Try.prog 35 #[.string s] w fun e w' => e = .returned (.tuple #[.agg #[.bool false, .string ⟨#[]⟩, .string ⟨#[]⟩], .int .i64 (1 + (W.size : Int)), .int .i64 10]) ∧ Below w.heap.size w w' := by
  unfold maxLen at hs
  go_enter Try.func35, Try.ntmps35
  go_wp2_with (fail)
  refine (hl1 _).mono ?_
  rintro e0 w0 ⟨rfl, rfl⟩
  go_wp2_with (fail)
  refine bodyPost_ret (v := .tuple #[.agg #[.bool false, .string ⟨#[]⟩, .string ⟨#[]⟩], .int .i64 (1 + (W.size : Int)), .int .i64 10]) (by simp [results, Try.results35, go_sem]) rfl ⟨rfl, ?_⟩
  go_grown

set_option maxHeartbeats 400000 in
theorem split_E4_neg (s W : ByteArray) (w : World) (hs : s.size ≤ maxLen) (h0 : 0 < s.size) (hne : (!s.toList.isEmpty) = true) (hc : ((s[0].toNat : Int) == 45) = true)
    (hl1 : ∀ w, Calls Try.prog 42 #[.string (s.extract 1 s.size)] w fun e w' => e = .returned (.string W) ∧ w = w')
    (hW : 1 + W.size ≤ s.size)
    (hWe : W.toList.isEmpty = false)
    (hpt : 1 + W.size < s.size)
    (hdot : ((s[1 + W.size].toNat : Int) == 46) = false) :
    Calls Try.prog 35 #[.string s] w fun e w' => e = .returned (.tuple #[.agg #[.bool false, .string ⟨#[]⟩, .string ⟨#[]⟩], .int .i64 (1 + (W.size : Int)), .int .i64 10]) ∧ Below w.heap.size w w' := by
  unfold maxLen at hs
  go_enter Try.func35, Try.ntmps35
  go_wp2_with (fail)
  refine (hl1 _).mono ?_
  rintro e0 w0 ⟨rfl, rfl⟩
  go_wp2_with (fail)
  refine bodyPost_ret (v := .tuple #[.agg #[.bool false, .string ⟨#[]⟩, .string ⟨#[]⟩], .int .i64 (1 + (W.size : Int)), .int .i64 10]) (by simp [results, Try.results35, go_sem]) rfl ⟨rfl, ?_⟩
  go_grown

set_option maxHeartbeats 400000 in
theorem split_OK1_neg (s W : ByteArray) (w : World) (hs : s.size ≤ maxLen) (h0 : 0 < s.size) (hne : (!s.toList.isEmpty) = true) (hc : ((s[0].toNat : Int) == 45) = true)
    (hl1 : ∀ w, Calls Try.prog 42 #[.string (s.extract 1 s.size)] w fun e w' => e = .returned (.string W) ∧ w = w')
    (hW : 1 + W.size ≤ s.size)
    (hWe : W.toList.isEmpty = false)
    (hpt : ¬ 1 + W.size < s.size) :
    Calls Try.prog 35 #[.string s] w fun e w' => e = .returned (.tuple #[.agg #[.bool true, .string W, .string ⟨#[]⟩], .int .i64 0, .int .i64 0]) ∧ Below w.heap.size w w' := by
  unfold maxLen at hs
  go_enter Try.func35, Try.ntmps35
  go_wp2_with (fail)
  refine (hl1 _).mono ?_
  rintro e0 w0 ⟨rfl, rfl⟩
  go_wp2_with (fail)
  refine bodyPost_ret (v := .tuple #[.agg #[.bool true, .string W, .string ⟨#[]⟩], .int .i64 0, .int .i64 0]) (by simp [results, Try.results35, go_sem]) rfl ⟨rfl, ?_⟩
  go_grown

set_option maxHeartbeats 400000 in
theorem split_E2_neg (s W F : ByteArray) (w : World) (hs : s.size ≤ maxLen) (h0 : 0 < s.size) (hne : (!s.toList.isEmpty) = true) (hc : ((s[0].toNat : Int) == 45) = true)
    (hl1 : ∀ w, Calls Try.prog 42 #[.string (s.extract 1 s.size)] w fun e w' => e = .returned (.string W) ∧ w = w')
    (hW : 1 + W.size ≤ s.size)
    (hWe : W.toList.isEmpty = false)
    (hpt : 1 + W.size < s.size)
    (hdot : ((s[1 + W.size].toNat : Int) == 46) = true)
    (hl2 : ∀ w, Calls Try.prog 42 #[.string (s.extract (1 + W.size + 1) s.size)] w fun e w' => e = .returned (.string F) ∧ w = w')
    (hF : 1 + W.size + (1 + F.size) ≤ s.size)
    (hFe : F.toList.isEmpty = true) :
    Calls Try.prog 35 #[.string s] w fun e w' => e = .returned (.tuple #[.agg #[.bool false, .string ⟨#[]⟩, .string ⟨#[]⟩], .int .i64 (1 + (W.size : Int) + (1 + (F.size : Int))), .int .i64 10]) ∧ Below w.heap.size w w' := by
  unfold maxLen at hs
  go_enter Try.func35, Try.ntmps35
  go_wp2_with (fail)
  refine (hl1 _).mono ?_
  rintro e0 w0 ⟨rfl, rfl⟩
  go_wp2_with (fail)
  refine (hl2 _).mono ?_
  rintro e1 w1 ⟨rfl, rfl⟩
  go_wp2_with (fail)
  refine bodyPost_ret (v := .tuple #[.agg #[.bool false, .string ⟨#[]⟩, .string ⟨#[]⟩], .int .i64 (1 + (W.size : Int) + (1 + (F.size : Int))), .int .i64 10]) (by simp [results, Try.results35, go_sem]) rfl ⟨rfl, ?_⟩
  go_grown

set_option maxHeartbeats 400000 in
theorem split_E3_neg (s W F : ByteArray) (w : World) (hs : s.size ≤ maxLen) (h0 : 0 < s.size) (hne : (!s.toList.isEmpty) = true) (hc : ((s[0].toNat : Int) == 45) = true)
    (hl1 : ∀ w, Calls Try.prog 42 #[.string (s.extract 1 s.size)] w fun e w' => e = .returned (.string W) ∧ w = w')
    (hW : 1 + W.size ≤ s.size)
    (hWe : W.toList.isEmpty = false)
    (hpt : 1 + W.size < s.size)
    (hdot : ((s[1 + W.size].toNat : Int) == 46) = true)
    (hl2 : ∀ w, Calls Try.prog 42 #[.string (s.extract (1 + W.size + 1) s.size)] w fun e w' => e = .returned (.string F) ∧ w = w')
    (hF : 1 + W.size + (1 + F.size) ≤ s.size)
    (hFe : F.toList.isEmpty = false)
    (hend : 1 + W.size + (1 + F.size) < s.size) :
    Calls Try.prog 35 #[.string s] w fun e w' => e = .returned (.tuple #[.agg #[.bool false, .string ⟨#[]⟩, .string ⟨#[]⟩], .int .i64 (1 + (W.size : Int) + (1 + (F.size : Int))), .int .i64 10]) ∧ Below w.heap.size w w' := by
  unfold maxLen at hs
  go_enter Try.func35, Try.ntmps35
  go_wp2_with (fail)
  refine (hl1 _).mono ?_
  rintro e0 w0 ⟨rfl, rfl⟩
  go_wp2_with (fail)
  refine (hl2 _).mono ?_
  rintro e1 w1 ⟨rfl, rfl⟩
  go_wp2_with (fail)
  refine bodyPost_ret (v := .tuple #[.agg #[.bool false, .string ⟨#[]⟩, .string ⟨#[]⟩], .int .i64 (1 + (W.size : Int) + (1 + (F.size : Int))), .int .i64 10]) (by simp [results, Try.results35, go_sem]) rfl ⟨rfl, ?_⟩
  go_grown

set_option maxHeartbeats 400000 in
theorem split_OK2_neg (s W F : ByteArray) (w : World) (hs : s.size ≤ maxLen) (h0 : 0 < s.size) (hne : (!s.toList.isEmpty) = true) (hc : ((s[0].toNat : Int) == 45) = true)
    (hl1 : ∀ w, Calls Try.prog 42 #[.string (s.extract 1 s.size)] w fun e w' => e = .returned (.string W) ∧ w = w')
    (hW : 1 + W.size ≤ s.size)
    (hWe : W.toList.isEmpty = false)
    (hpt : 1 + W.size < s.size)
    (hdot : ((s[1 + W.size].toNat : Int) == 46) = true)
    (hl2 : ∀ w, Calls Try.prog 42 #[.string (s.extract (1 + W.size + 1) s.size)] w fun e w' => e = .returned (.string F) ∧ w = w')
    (hF : 1 + W.size + (1 + F.size) ≤ s.size)
    (hFe : F.toList.isEmpty = false)
    (hend : ¬ 1 + W.size + (1 + F.size) < s.size) :
    Calls Try.prog 35 #[.string s] w fun e w' => e = .returned (.tuple #[.agg #[.bool true, .string W, .string F], .int .i64 0, .int .i64 0]) ∧ Below w.heap.size w w' := by
  unfold maxLen at hs
  go_enter Try.func35, Try.ntmps35
  go_wp2_with (fail)
  refine (hl1 _).mono ?_
  rintro e0 w0 ⟨rfl, rfl⟩
  go_wp2_with (fail)
  refine (hl2 _).mono ?_
  rintro e1 w1 ⟨rfl, rfl⟩
  go_wp2_with (fail)
  refine bodyPost_ret (v := .tuple #[.agg #[.bool true, .string W, .string F], .int .i64 0, .int .i64 0]) (by simp [results, Try.results35, go_sem]) rfl ⟨rfl, ?_⟩
  go_grown

set_option maxHeartbeats 400000 in
theorem split_E1_pos (s W : ByteArray) (w : World) (hs : s.size ≤ maxLen) (h0 : 0 < s.size) (hne : (!s.toList.isEmpty) = true) (hc : ((s[0].toNat : Int) == 45) = false)
    (hl1 : ∀ w, Calls Try.prog 42 #[.string (s)] w fun e w' => e = .returned (.string W) ∧ w = w')
    (hW : W.size ≤ s.size)
    (hWe : W.toList.isEmpty = true) :
    Calls Try.prog 35 #[.string s] w fun e w' => e = .returned (.tuple #[.agg #[.bool false, .string ⟨#[]⟩, .string ⟨#[]⟩], .int .i64 ((W.size : Int)), .int .i64 10]) ∧ Below w.heap.size w w' := by
  unfold maxLen at hs
  go_enter Try.func35, Try.ntmps35
  go_wp2_with (fail)
  refine (hl1 _).mono ?_
  rintro e0 w0 ⟨rfl, rfl⟩
  go_wp2_with (fail)
  refine bodyPost_ret (v := .tuple #[.agg #[.bool false, .string ⟨#[]⟩, .string ⟨#[]⟩], .int .i64 ((W.size : Int)), .int .i64 10]) (by simp [results, Try.results35, go_sem]) rfl ⟨rfl, ?_⟩
  go_grown

set_option maxHeartbeats 400000 in
theorem split_E4_pos (s W : ByteArray) (w : World) (hs : s.size ≤ maxLen) (h0 : 0 < s.size) (hne : (!s.toList.isEmpty) = true) (hc : ((s[0].toNat : Int) == 45) = false)
    (hl1 : ∀ w, Calls Try.prog 42 #[.string (s)] w fun e w' => e = .returned (.string W) ∧ w = w')
    (hW : W.size ≤ s.size)
    (hWe : W.toList.isEmpty = false)
    (hpt : W.size < s.size)
    (hdot : ((s[W.size].toNat : Int) == 46) = false) :
    Calls Try.prog 35 #[.string s] w fun e w' => e = .returned (.tuple #[.agg #[.bool false, .string ⟨#[]⟩, .string ⟨#[]⟩], .int .i64 ((W.size : Int)), .int .i64 10]) ∧ Below w.heap.size w w' := by
  unfold maxLen at hs
  go_enter Try.func35, Try.ntmps35
  go_wp2_with (fail)
  refine (hl1 _).mono ?_
  rintro e0 w0 ⟨rfl, rfl⟩
  go_wp2_with (fail)
  refine bodyPost_ret (v := .tuple #[.agg #[.bool false, .string ⟨#[]⟩, .string ⟨#[]⟩], .int .i64 ((W.size : Int)), .int .i64 10]) (by simp [results, Try.results35, go_sem]) rfl ⟨rfl, ?_⟩
  go_grown

set_option maxHeartbeats 400000 in
theorem split_OK1_pos (s W : ByteArray) (w : World) (hs : s.size ≤ maxLen) (h0 : 0 < s.size) (hne : (!s.toList.isEmpty) = true) (hc : ((s[0].toNat : Int) == 45) = false)
    (hl1 : ∀ w, Calls Try.prog 42 #[.string (s)] w fun e w' => e = .returned (.string W) ∧ w = w')
    (hW : W.size ≤ s.size)
    (hWe : W.toList.isEmpty = false)
    (hpt : ¬ W.size < s.size) :
    Calls Try.prog 35 #[.string s] w fun e w' => e = .returned (.tuple #[.agg #[.bool false, .string W, .string ⟨#[]⟩], .int .i64 0, .int .i64 0]) ∧ Below w.heap.size w w' := by
  unfold maxLen at hs
  go_enter Try.func35, Try.ntmps35
  go_wp2_with (fail)
  refine (hl1 _).mono ?_
  rintro e0 w0 ⟨rfl, rfl⟩
  go_wp2_with (fail)
  refine bodyPost_ret (v := .tuple #[.agg #[.bool false, .string W, .string ⟨#[]⟩], .int .i64 0, .int .i64 0]) (by simp [results, Try.results35, go_sem]) rfl ⟨rfl, ?_⟩
  go_grown

set_option maxHeartbeats 400000 in
theorem split_E2_pos (s W F : ByteArray) (w : World) (hs : s.size ≤ maxLen) (h0 : 0 < s.size) (hne : (!s.toList.isEmpty) = true) (hc : ((s[0].toNat : Int) == 45) = false)
    (hl1 : ∀ w, Calls Try.prog 42 #[.string (s)] w fun e w' => e = .returned (.string W) ∧ w = w')
    (hW : W.size ≤ s.size)
    (hWe : W.toList.isEmpty = false)
    (hpt : W.size < s.size)
    (hdot : ((s[W.size].toNat : Int) == 46) = true)
    (hl2 : ∀ w, Calls Try.prog 42 #[.string (s.extract (W.size + 1) s.size)] w fun e w' => e = .returned (.string F) ∧ w = w')
    (hF : W.size + (1 + F.size) ≤ s.size)
    (hFe : F.toList.isEmpty = true) :
    Calls Try.prog 35 #[.string s] w fun e w' => e = .returned (.tuple #[.agg #[.bool false, .string ⟨#[]⟩, .string ⟨#[]⟩], .int .i64 ((W.size : Int) + (1 + (F.size : Int))), .int .i64 10]) ∧ Below w.heap.size w w' := by
  unfold maxLen at hs
  go_enter Try.func35, Try.ntmps35
  go_wp2_with (fail)
  refine (hl1 _).mono ?_
  rintro e0 w0 ⟨rfl, rfl⟩
  go_wp2_with (fail)
  refine (hl2 _).mono ?_
  rintro e1 w1 ⟨rfl, rfl⟩
  go_wp2_with (fail)
  refine bodyPost_ret (v := .tuple #[.agg #[.bool false, .string ⟨#[]⟩, .string ⟨#[]⟩], .int .i64 ((W.size : Int) + (1 + (F.size : Int))), .int .i64 10]) (by simp [results, Try.results35, go_sem]) rfl ⟨rfl, ?_⟩
  go_grown

set_option maxHeartbeats 400000 in
theorem split_E3_pos (s W F : ByteArray) (w : World) (hs : s.size ≤ maxLen) (h0 : 0 < s.size) (hne : (!s.toList.isEmpty) = true) (hc : ((s[0].toNat : Int) == 45) = false)
    (hl1 : ∀ w, Calls Try.prog 42 #[.string (s)] w fun e w' => e = .returned (.string W) ∧ w = w')
    (hW : W.size ≤ s.size)
    (hWe : W.toList.isEmpty = false)
    (hpt : W.size < s.size)
    (hdot : ((s[W.size].toNat : Int) == 46) = true)
    (hl2 : ∀ w, Calls Try.prog 42 #[.string (s.extract (W.size + 1) s.size)] w fun e w' => e = .returned (.string F) ∧ w = w')
    (hF : W.size + (1 + F.size) ≤ s.size)
    (hFe : F.toList.isEmpty = false)
    (hend : W.size + (1 + F.size) < s.size) :
    Calls Try.prog 35 #[.string s] w fun e w' => e = .returned (.tuple #[.agg #[.bool false, .string ⟨#[]⟩, .string ⟨#[]⟩], .int .i64 ((W.size : Int) + (1 + (F.size : Int))), .int .i64 10]) ∧ Below w.heap.size w w' := by
  unfold maxLen at hs
  go_enter Try.func35, Try.ntmps35
  go_wp2_with (fail)
  refine (hl1 _).mono ?_
  rintro e0 w0 ⟨rfl, rfl⟩
  go_wp2_with (fail)
  refine (hl2 _).mono ?_
  rintro e1 w1 ⟨rfl, rfl⟩
  go_wp2_with (fail)
  refine bodyPost_ret (v := .tuple #[.agg #[.bool false, .string ⟨#[]⟩, .string ⟨#[]⟩], .int .i64 ((W.size : Int) + (1 + (F.size : Int))), .int .i64 10]) (by simp [results, Try.results35, go_sem]) rfl ⟨rfl, ?_⟩
  go_grown

set_option maxHeartbeats 400000 in
theorem split_OK2_pos (s W F : ByteArray) (w : World) (hs : s.size ≤ maxLen) (h0 : 0 < s.size) (hne : (!s.toList.isEmpty) = true) (hc : ((s[0].toNat : Int) == 45) = false)
    (hl1 : ∀ w, Calls Try.prog 42 #[.string (s)] w fun e w' => e = .returned (.string W) ∧ w = w')
    (hW : W.size ≤ s.size)
    (hWe : W.toList.isEmpty = false)
    (hpt : W.size < s.size)
    (hdot : ((s[W.size].toNat : Int) == 46) = true)
    (hl2 : ∀ w, Calls Try.prog 42 #[.string (s.extract (W.size + 1) s.size)] w fun e w' => e = .returned (.string F) ∧ w = w')
    (hF : W.size + (1 + F.size) ≤ s.size)
    (hFe : F.toList.isEmpty = false)
    (hend : ¬ W.size + (1 + F.size) < s.size) :
    Calls Try.prog 35 #[.string s] w fun e w' => e = .returned (.tuple #[.agg #[.bool false, .string W, .string F], .int .i64 0, .int .i64 0]) ∧ Below w.heap.size w w' := by
  unfold maxLen at hs
  go_enter Try.func35, Try.ntmps35
  go_wp2_with (fail)
  refine (hl1 _).mono ?_
  rintro e0 w0 ⟨rfl, rfl⟩
  go_wp2_with (fail)
  refine (hl2 _).mono ?_
  rintro e1 w1 ⟨rfl, rfl⟩
  go_wp2_with (fail)
  refine bodyPost_ret (v := .tuple #[.agg #[.bool false, .string W, .string F], .int .i64 0, .int .i64 0]) (by simp [results, Try.results35, go_sem]) rfl ⟨rfl, ?_⟩
  go_grown

theorem split_empty (w : World) :
    Calls Try.prog 35 #[.string ⟨#[]⟩] w fun e w' => e = .returned (.tuple #[.agg #[.bool false, .string ⟨#[]⟩, .string ⟨#[]⟩], .int .i64 0, .int .i64 10]) ∧ Below w.heap.size w w' := by
  have hl1 : ∀ w, Calls Try.prog 42 #[.string ⟨#[]⟩] w fun e w' => e = .returned (.string ⟨#[]⟩) ∧ w = w' := fun w => lead_any ⟨#[]⟩ w (by decide)
  go_enter Try.func35, Try.ntmps35
  go_wp2_with (fail)
  refine (hl1 _).mono ?_
  rintro e0 w0 ⟨rfl, rfl⟩
  go_wp2_with (fail)
  refine bodyPost_ret (v := .tuple #[.agg #[.bool false, .string ⟨#[]⟩, .string ⟨#[]⟩], .int .i64 0, .int .i64 10]) (by simp [results, Try.results35, go_sem]) rfl ⟨rfl, ?_⟩
  go_grown
end Go.Proofs.Ytjjllfaehipemaa
