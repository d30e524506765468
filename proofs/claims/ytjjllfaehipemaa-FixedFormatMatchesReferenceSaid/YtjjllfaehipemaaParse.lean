/-
  The contract of package fixed's 'Parse', at every string.
-/
import Derived.Test.YtjjllfaehipemaaSplit
import Derived.Lib.Strings
namespace Go.Proofs.Ytjjllfaehipemaa
open Go.ChangeShapes Go.WideShapes Go.ChangeAt Go.RowKit

/-- The byte at a place; 0 behind the end. -/
def byteAt (s : ByteArray) (n : Nat) : Int := if h : n < s.size then ((s[n]'h).toNat : Int) else 0
theorem byteAt_in (s : ByteArray) (n : Nat) (h : n < s.size) : byteAt s n = (s[n].toNat : Int) := by unfold byteAt; rw [dif_pos h]
/-- How many bytes a sign takes. -/
def sgn (s : ByteArray) : Nat := if byteAt s 0 = 45 then 1 else 0
/-- The digits from a place on. -/
def runAt (s : ByteArray) (n : Nat) : ByteArray := (s.extract n s.size).extract 0 (nd (s.extract n s.size))
def wholeOf (s : ByteArray) : ByteArray := runAt s (sgn s)
def ptOf (s : ByteArray) : Nat := sgn s + (wholeOf s).size
def fracOf (s : ByteArray) : ByteArray := runAt s (ptOf s + 1)
def endOf (s : ByteArray) : Nat := ptOf s + (1 + (fracOf s).size)
/-- Where a text fails that is no number. -/
def perr (s : ByteArray) : Option Nat :=
  if (wholeOf s).size = 0 then some (ptOf s)
  else if ptOf s < s.size then
    if byteAt s (ptOf s) = 46 then
      if (fracOf s).size = 0 then some (endOf s) else if endOf s < s.size then some (endOf s) else none
    else some (ptOf s)
  else none
def fracIf (s : ByteArray) : ByteArray := if ptOf s < s.size then fracOf s else ⟨#[]⟩

theorem runAt_size (s : ByteArray) (n : Nat) (h : n ≤ s.size) : n + (runAt s n).size ≤ s.size := by
  have h1 := nd_le (s.extract n s.size)
  unfold runAt
  simp only [ByteArray.size_extract] at h1 ⊢
  omega
theorem isEmpty_of {s : ByteArray} (h : s.size = 0) : s.toList.isEmpty = true := by
  rw [ByteArray.toList_eq]
  exact List.isEmpty_iff.2 (List.length_eq_zero_iff.1 (by simpa using h))
theorem nonEmpty_of {s : ByteArray} (h : ¬ s.size = 0) : s.toList.isEmpty = false := by
  rw [ByteArray.toList_eq]
  cases hl : s.data.toList with
  | nil => exact absurd (by simpa using congrArg List.length hl) h
  | cons c l => rfl
theorem lead_at (s : ByteArray) (n : Nat) (hs : s.size ≤ maxLen) (w : World) :
    Calls Try.prog 42 #[.string (s.extract n s.size)] w fun e w' => e = .returned (.string (runAt s n)) ∧ w = w' :=
  lead_any _ w (by simp only [ByteArray.size_extract]; omega)

theorem run_digits (s : ByteArray) (n : Nat) : allD (runAt s n).data.toList := by
  intro c hc
  have e : (runAt s n).data.toList = (s.extract n s.size).data.toList.take (nd (s.extract n s.size)) := by
    unfold runAt
    rw [Lib.extract_data]
    simp
  rw [e] at hc
  obtain ⟨i, hi, rfl⟩ := List.getElem_of_mem hc
  rw [List.getElem_take]
  rw [List.length_take] at hi
  exact ndl_digit _ i (by omega) (by have : i < nd (s.extract n s.size) := by omega
                                     exact this)

/-- What 'split' hands back. -/
def splitV (s : ByteArray) : Value :=
  match perr s with
  | some o => .tuple #[.agg #[.bool false, .string ⟨#[]⟩, .string ⟨#[]⟩], .int .i64 (o : Int), .int .i64 10]
  | none => .tuple #[.agg #[.bool (decide (sgn s = 1)), .string (wholeOf s), .string (fracIf s)], .int .i64 0, .int .i64 0]
theorem splitV_some {s : ByteArray} {o : Nat} (h : perr s = some o) : splitV s = .tuple #[.agg #[.bool false, .string ⟨#[]⟩, .string ⟨#[]⟩], .int .i64 (o : Int), .int .i64 10] := by unfold splitV; rw [h]
theorem splitV_none {s : ByteArray} (h : perr s = none) : splitV s = .tuple #[.agg #[.bool (decide (sgn s = 1)), .string (wholeOf s), .string (fracIf s)], .int .i64 0, .int .i64 0] := by unfold splitV; rw [h]

theorem split_any (s : ByteArray) (w : World) (hs : s.size ≤ maxLen) :
    Calls Try.prog 35 #[.string s] w fun e w' => e = .returned (splitV s) ∧ Below w.heap.size w w' := by
  by_cases h0 : 0 < s.size
  case neg =>
    have h1 : s.size = 0 := by omega
    obtain rfl : s = ⟨#[]⟩ := by
      apply ByteArray.ext
      exact Array.size_eq_zero_iff.1 h1
    exact split_empty w
  have hne : (!s.toList.isEmpty) = true := by rw [nonEmpty_of (by omega)]; rfl
  have hb0 := byteAt_in s 0 h0
  by_cases hc : byteAt s 0 = 45
  · have hsg : sgn s = 1 := by unfold sgn; rw [if_pos hc]
    have hc' : ((s[0].toNat : Int) == 45) = true := by rw [← hb0, hc]; rfl
    have hl1 : ∀ w, Calls Try.prog 42 #[.string (s.extract 1 s.size)] w fun e w' => e = .returned (.string (wholeOf s)) ∧ w = w' := fun w => by have := lead_at s 1 hs w; unfold wholeOf; rwa [hsg]
    have hp : ptOf s = 1 + (wholeOf s).size := by unfold ptOf; rw [hsg]
    have hW : 1 + (wholeOf s).size ≤ s.size := by have := runAt_size s 1 (by omega); unfold wholeOf; rw [hsg]; omega
    have hpi : ((ptOf s : Nat) : Int) = 1 + ((wholeOf s).size : Int) := by rw [hp]; simp
    by_cases hWe : (wholeOf s).size = 0
    · have hpe : perr s = some (ptOf s) := by unfold perr; rw [if_pos hWe]
      rw [splitV_some hpe, hpi]
      exact split_E1_neg s (wholeOf s) w hs h0 hne hc' hl1 hW (isEmpty_of hWe)
    by_cases hpt : ptOf s < s.size
    · have hpt' : 1 + (wholeOf s).size < s.size := by omega
      have hbp : byteAt s (ptOf s) = (s[1 + (wholeOf s).size].toNat : Int) := by rw [hp]; exact byteAt_in s _ hpt'
      by_cases hdot : byteAt s (ptOf s) = 46
      · have hdot' : ((s[1 + (wholeOf s).size].toNat : Int) == 46) = true := by rw [← hbp, hdot]; rfl
        have hl2 : ∀ w, Calls Try.prog 42 #[.string (s.extract (1 + (wholeOf s).size + 1) s.size)] w fun e w' => e = .returned (.string (fracOf s)) ∧ w = w' := fun w => by have := lead_at s (1 + (wholeOf s).size + 1) hs w; unfold fracOf; rwa [hp]
        have hF : 1 + (wholeOf s).size + (1 + (fracOf s).size) ≤ s.size := by have := runAt_size s (1 + (wholeOf s).size + 1) (by omega); unfold fracOf; rw [hp]; omega
        have hei : ((endOf s : Nat) : Int) = 1 + ((wholeOf s).size : Int) + (1 + ((fracOf s).size : Int)) := by unfold endOf; rw [hp]; simp
        have hee : endOf s = 1 + (wholeOf s).size + (1 + (fracOf s).size) := by unfold endOf; rw [hp]
        have hfi : fracIf s = fracOf s := by unfold fracIf; rw [if_pos hpt]
        by_cases hFe : (fracOf s).size = 0
        · have hpe : perr s = some (endOf s) := by unfold perr; rw [if_neg hWe, if_pos hpt, if_pos hdot, if_pos hFe]
          rw [splitV_some hpe, hei]
          exact split_E2_neg s (wholeOf s) (fracOf s) w hs h0 hne hc' hl1 hW (nonEmpty_of hWe) hpt' hdot' hl2 hF (isEmpty_of hFe)
        by_cases hend : endOf s < s.size
        · have hpe : perr s = some (endOf s) := by unfold perr; rw [if_neg hWe, if_pos hpt, if_pos hdot, if_neg hFe, if_pos hend]
          rw [splitV_some hpe, hei]
          exact split_E3_neg s (wholeOf s) (fracOf s) w hs h0 hne hc' hl1 hW (nonEmpty_of hWe) hpt' hdot' hl2 hF (nonEmpty_of hFe) (by omega)
        · have hpe : perr s = none := by unfold perr; rw [if_neg hWe, if_pos hpt, if_pos hdot, if_neg hFe, if_neg hend]
          rw [splitV_none hpe, hsg, hfi]
          exact split_OK2_neg s (wholeOf s) (fracOf s) w hs h0 hne hc' hl1 hW (nonEmpty_of hWe) hpt' hdot' hl2 hF (nonEmpty_of hFe) (by omega)
      · have hdot' : ((s[1 + (wholeOf s).size].toNat : Int) == 46) = false := by rw [← hbp]; simpa using hdot
        have hpe : perr s = some (ptOf s) := by unfold perr; rw [if_neg hWe, if_pos hpt, if_neg hdot]
        rw [splitV_some hpe, hpi]
        exact split_E4_neg s (wholeOf s) w hs h0 hne hc' hl1 hW (nonEmpty_of hWe) hpt' hdot'
    · have hpe : perr s = none := by unfold perr; rw [if_neg hWe, if_neg hpt]
      have hfi : fracIf s = ⟨#[]⟩ := by unfold fracIf; rw [if_neg hpt]
      rw [splitV_none hpe, hsg, hfi]
      exact split_OK1_neg s (wholeOf s) w hs h0 hne hc' hl1 hW (nonEmpty_of hWe) (by omega)
  · have hsg : sgn s = 0 := by unfold sgn; rw [if_neg hc]
    have hc' : ((s[0].toNat : Int) == 45) = false := by rw [← hb0]; simpa using hc
    have hl1 : ∀ w, Calls Try.prog 42 #[.string (s)] w fun e w' => e = .returned (.string (wholeOf s)) ∧ w = w' := fun w => by have := lead_at s 0 hs w; rw [extract_all] at this; unfold wholeOf; rwa [hsg]
    have hp : ptOf s = (wholeOf s).size := by unfold ptOf; rw [hsg, Nat.zero_add]
    have hW : (wholeOf s).size ≤ s.size := by have := runAt_size s 0 (by omega); unfold wholeOf; rw [hsg]; omega
    have hpi : ((ptOf s : Nat) : Int) = ((wholeOf s).size : Int) := by rw [hp]
    by_cases hWe : (wholeOf s).size = 0
    · have hpe : perr s = some (ptOf s) := by unfold perr; rw [if_pos hWe]
      rw [splitV_some hpe, hpi]
      exact split_E1_pos s (wholeOf s) w hs h0 hne hc' hl1 hW (isEmpty_of hWe)
    by_cases hpt : ptOf s < s.size
    · have hpt' : (wholeOf s).size < s.size := by omega
      have hbp : byteAt s (ptOf s) = (s[(wholeOf s).size].toNat : Int) := by rw [hp]; exact byteAt_in s _ hpt'
      by_cases hdot : byteAt s (ptOf s) = 46
      · have hdot' : ((s[(wholeOf s).size].toNat : Int) == 46) = true := by rw [← hbp, hdot]; rfl
        have hl2 : ∀ w, Calls Try.prog 42 #[.string (s.extract ((wholeOf s).size + 1) s.size)] w fun e w' => e = .returned (.string (fracOf s)) ∧ w = w' := fun w => by have := lead_at s ((wholeOf s).size + 1) hs w; unfold fracOf; rwa [hp]
        have hF : (wholeOf s).size + (1 + (fracOf s).size) ≤ s.size := by have := runAt_size s ((wholeOf s).size + 1) (by omega); unfold fracOf; rw [hp]; omega
        have hei : ((endOf s : Nat) : Int) = ((wholeOf s).size : Int) + (1 + ((fracOf s).size : Int)) := by unfold endOf; rw [hp]; simp
        have hee : endOf s = (wholeOf s).size + (1 + (fracOf s).size) := by unfold endOf; rw [hp]
        have hfi : fracIf s = fracOf s := by unfold fracIf; rw [if_pos hpt]
        by_cases hFe : (fracOf s).size = 0
        · have hpe : perr s = some (endOf s) := by unfold perr; rw [if_neg hWe, if_pos hpt, if_pos hdot, if_pos hFe]
          rw [splitV_some hpe, hei]
          exact split_E2_pos s (wholeOf s) (fracOf s) w hs h0 hne hc' hl1 hW (nonEmpty_of hWe) hpt' hdot' hl2 hF (isEmpty_of hFe)
        by_cases hend : endOf s < s.size
        · have hpe : perr s = some (endOf s) := by unfold perr; rw [if_neg hWe, if_pos hpt, if_pos hdot, if_neg hFe, if_pos hend]
          rw [splitV_some hpe, hei]
          exact split_E3_pos s (wholeOf s) (fracOf s) w hs h0 hne hc' hl1 hW (nonEmpty_of hWe) hpt' hdot' hl2 hF (nonEmpty_of hFe) (by omega)
        · have hpe : perr s = none := by unfold perr; rw [if_neg hWe, if_pos hpt, if_pos hdot, if_neg hFe, if_neg hend]
          rw [splitV_none hpe, hsg, hfi]
          exact split_OK2_pos s (wholeOf s) (fracOf s) w hs h0 hne hc' hl1 hW (nonEmpty_of hWe) hpt' hdot' hl2 hF (nonEmpty_of hFe) (by omega)
      · have hdot' : ((s[(wholeOf s).size].toNat : Int) == 46) = false := by rw [← hbp]; simpa using hdot
        have hpe : perr s = some (ptOf s) := by unfold perr; rw [if_neg hWe, if_pos hpt, if_neg hdot]
        rw [splitV_some hpe, hpi]
        exact split_E4_pos s (wholeOf s) w hs h0 hne hc' hl1 hW (nonEmpty_of hWe) hpt' hdot'
    · have hpe : perr s = none := by unfold perr; rw [if_neg hWe, if_neg hpt]
      have hfi : fracIf s = ⟨#[]⟩ := by unfold fracIf; rw [if_neg hpt]
      rw [splitV_none hpe, hsg, hfi]
      exact split_OK1_pos s (wholeOf s) w hs h0 hne hc' hl1 hW (nonEmpty_of hWe) (by omega)
end Go.Proofs.Ytjjllfaehipemaa
