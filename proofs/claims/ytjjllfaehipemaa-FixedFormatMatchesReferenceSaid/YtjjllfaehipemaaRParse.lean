/-
  Plain facts for the contract of package armillaryref01's Parse.
-/
import Derived.Test.YtjjllfaehipemaaScale2
import Derived.Test.YtjjllfaehipemaaScan2
namespace Go.Proofs.Ytjjllfaehipemaa
open Go.ChangeShapes Go.WideShapes Go.ChangeAt Go.RowKit

/-- What the reference's Parse makes of the parts of a number. -/
def refHi (s : ByteArray) : Int := wv 1000000 (wholeOf s).data.toList * 65536 + up (val (fracIf s).data.toList * 65536) (10 ^ (fracIf s).data.toList.length)
def refLo (s : ByteArray) : Int := wv 1000000 (wholeOf s).data.toList * 65536 + dn (val (fracIf s).data.toList * 65536) (10 ^ (fracIf s).data.toList.length)
theorem ref_small (s : ByteArray) : 0 ≤ refLo s ∧ refLo s ≤ refHi s ∧ refHi s ≤ 65536131072 ∧ refHi s ≤ refLo s + 1 := by
  have b := wv_bd (cap := 1000000) (by decide) _ (run_digits s (sgn s))
  have e : wholeOf s = runAt s (sgn s) := rfl
  have bf := val_bd _ (fracIf_digits s)
  have p : 0 < (10 : Int) ^ (fracIf s).data.toList.length := Int.pow_pos (by decide)
  have u := up_dn (val (fracIf s).data.toList * 65536) p
  have d0 : 0 ≤ dn (val (fracIf s).data.toList * 65536) (10 ^ (fracIf s).data.toList.length) := dn_le p (by omega)
  have d1 : dn (val (fracIf s).data.toList * 65536) (10 ^ (fracIf s).data.toList.length) < 65536 := lt_dn p (by omega)
  unfold refLo refHi
  rw [e]
  omega
theorem parseV_ref (s : ByteArray) (h : perr s = none) : parseV s = if refHi s < 2147483648 then (if sgn s = 1 then (-refHi s, -refLo s, 0, 0) else (refLo s, refHi s, 0, 0)) else (0, 0, 0, 2) := by
  have e : wholeOf s = runAt s (sgn s) := rfl
  have hd := run_digits s (sgn s)
  have r := frac_round _ (fracIf_digits s)
  have w1 := wv_val (cap := 2147483648) (by decide) _ hd
  have w2 := wv_val (cap := 1000000) (by decide) _ hd
  have bf := val_bd _ (fracIf_digits s)
  have bw := val_bd _ hd
  have p : 0 < (10 : Int) ^ (fracIf s).data.toList.length := Int.pow_pos (by decide)
  have u := up_dn (val (fracIf s).data.toList * 65536) p
  have d0 : 0 ≤ dn (val (fracIf s).data.toList * 65536) (10 ^ (fracIf s).data.toList.length) := dn_le p (by omega)
  have e1 : hiOf s = min (val (wholeOf s).data.toList) 2147483648 * 65536 + up (val (fracIf s).data.toList * 65536) (10 ^ (fracIf s).data.toList.length) := by unfold hiOf sizeHi; rw [r.2, e, w1]
  have e2 : loOf s = min (val (wholeOf s).data.toList) 2147483648 * 65536 + dn (val (fracIf s).data.toList * 65536) (10 ^ (fracIf s).data.toList.length) := by unfold loOf sizeLo; rw [r.1, e, w1]
  have e3 : refHi s = min (val (wholeOf s).data.toList) 1000000 * 65536 + up (val (fracIf s).data.toList * 65536) (10 ^ (fracIf s).data.toList.length) := by unfold refHi; rw [e, w2]
  have e4 : refLo s = min (val (wholeOf s).data.toList) 1000000 * 65536 + dn (val (fracIf s).data.toList * 65536) (10 ^ (fracIf s).data.toList.length) := by unfold refLo; rw [e, w2]
  have hp : parseV s = if hiOf s < 2147483648 then (if sgn s = 1 then (-hiOf s, -loOf s, 0, 0) else (loOf s, hiOf s, 0, 0)) else (0, 0, 0, 2) := by unfold parseV; rw [h]
  rw [hp]
  by_cases hb : refHi s < 2147483648
  · have h1 : hiOf s = refHi s := by omega
    have h2 : loOf s = refLo s := by omega
    rw [h1, h2]
  · rw [if_neg hb, if_neg (by omega)]

/-- The bytes of the digits ahead of the point. -/
theorem whole_byte (s : ByteArray) (j : Nat) (h : j < (wholeOf s).size) : ∃ hk : sgn s + j < s.size, (wholeOf s).data.toList.take (j + 1) = (wholeOf s).data.toList.take j ++ [s[sgn s + j]] ∧ isD s[sgn s + j] := by
  have hl : j < (wholeOf s).data.toList.length := by simpa using h
  have e : (wholeOf s).data.toList = (s.data.toList.drop (sgn s)).take (ndl (s.data.toList.drop (sgn s))) := run_list s (sgn s)
  have hj : j < ndl (s.data.toList.drop (sgn s)) := by rw [e, List.length_take] at hl; omega
  have hk : sgn s + j < s.size := by
    have := ndl_le (s.data.toList.drop (sgn s))
    simp at this
    omega
  have h0 : s.data.toList[sgn s + j]? = some s[sgn s + j] := List.getElem?_eq_getElem (by simpa using hk)
  have h1 : (wholeOf s).data.toList[j]? = some s[sgn s + j] := by rw [e, List.getElem?_take_of_lt hj, List.getElem?_drop, h0]
  refine ⟨hk, ?_, run_digits s (sgn s) _ (List.mem_of_getElem? h1)⟩
  rw [List.take_add_one, h1]
  rfl
theorem whole_pos (s : ByteArray) (h : perr s = none) : ¬ (wholeOf s).size = 0 := by
  intro hh
  unfold perr at h
  rw [if_pos hh] at h
  cases h
/-- Where a number is well formed, its digits behind the point reach to the end. -/
theorem frac_all (s : ByteArray) (h0 : perr s = none) (hp : ptOf s < s.size) : s.extract (ptOf s + 1) s.size = fracIf s := by
  have hf : fracIf s = fracOf s := by unfold fracIf; rw [if_pos hp]
  rw [hf]
  have h := h0
  unfold perr at h
  rw [if_neg (whole_pos s h0), if_pos hp] at h
  split at h
  · split at h
    · cases h
    split at h
    · cases h
    · rename_i hE
      have hn : (fracOf s).size = nd (s.extract (ptOf s + 1) s.size) := by
        have := nd_le (s.extract (ptOf s + 1) s.size)
        unfold fracOf runAt
        simp only [ByteArray.size_extract] at this ⊢
        omega
      have hz : (s.extract (ptOf s + 1) s.size).size = nd (s.extract (ptOf s + 1) s.size) := by
        have := nd_le (s.extract (ptOf s + 1) s.size)
        unfold endOf at hE
        simp only [ByteArray.size_extract] at this ⊢
        omega
      unfold fracOf runAt
      rw [← hz]
      exact (extract_all _).symm
  · cases h
/-- What the second loop leaves: lo, and one more where a digit is left. -/
def hiv (l : List Int) (lo : Int) (i : Nat) : Int := if (l.take i).all (· == 0) then lo else lo + 1
theorem hiv_zero (l : List Int) (lo : Int) : hiv l lo 0 = lo := by simp [hiv]
theorem hiv_pos (l : List Int) (lo : Int) (i : Nat) (h : i < l.length) (hx : 0 < l[i]) : hiv l lo (i + 1) = lo + 1 := by
  unfold hiv
  rw [List.take_succ_eq_append_getElem h, List.all_append, if_neg]
  simp
  omega
theorem hiv_same (l : List Int) (lo : Int) (i : Nat) (h : i < l.length) (hx : l[i] = 0) : hiv l lo (i + 1) = hiv l lo i := by
  unfold hiv
  rw [List.take_succ_eq_append_getElem h, List.all_append]
  simp [hx]
theorem hiv_bd (l : List Int) (lo : Int) (i : Nat) : lo ≤ hiv l lo i ∧ hiv l lo i ≤ lo + 1 := by unfold hiv; split <;> omega
/-- The digits that sixteen doublings leave and what is carried out: the rounded value. -/
theorem scale_round (l : List UInt8) (h : allD l) : (dblN 16 (dvs l, 0)).2 = dn (val l * 65536) (10 ^ l.length) ∧ ∀ lo, hiv (dblN 16 (dvs l, 0)).1 (lo + (dblN 16 (dvs l, 0)).2) (dblN 16 (dvs l, 0)).1.length = lo + up (val l * 65536) (10 ^ l.length) := by
  obtain ⟨a, b, c, e⟩ := dblN_spec (dvs l) (dvs_dig9 h) 16
  have hl : (dvs l).length = l.length := by simp [dvs]
  have v := vl_bd _ a
  have z := vl_zero _ a
  rw [vl_dvs, hl] at e
  rw [hl] at b
  rw [b] at v
  have p : 0 < (10 : Int) ^ l.length := Int.pow_pos (by decide)
  have e2 : (2 : Int) ^ 16 = 65536 := by decide
  rw [e2] at e
  have hd : dn (val l * 65536) (10 ^ l.length) = (dblN 16 (dvs l, 0)).2 := dn_is p (by omega) (by omega)
  refine ⟨hd.symm, fun lo => ?_⟩
  have u := up_dn (val l * 65536) p
  have eu := dn_eq_up (val l * 65536) p
  unfold hiv
  rw [List.take_length]
  by_cases hz : vl (dblN 16 (dvs l, 0)).1 = 0
  · rw [if_pos (by rw [List.all_eq_true]; intro x hx; simpa using z.1 hz x hx)]
    have : up (val l * 65536) (10 ^ l.length) = (dblN 16 (dvs l, 0)).2 := up_is p (by omega) (by omega)
    omega
  · rw [if_neg (by rw [List.all_eq_true]; intro hh; exact hz (z.2 fun x hx => by simpa using hh x hx))]
    have : up (val l * 65536) (10 ^ l.length) = (dblN 16 (dvs l, 0)).2 + 1 := up_is p (by rw [Int.add_mul]; omega) (by rw [Int.add_mul]; omega)
    omega
end Go.Proofs.Ytjjllfaehipemaa
