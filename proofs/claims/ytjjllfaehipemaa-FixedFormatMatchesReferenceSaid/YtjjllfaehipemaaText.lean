/-
  What 'Parse' makes of a text that is a decimal number.
-/
import Derived.Test.YtjjllfaehipemaaParse2
import Derived.Test.YtjjllfaehipemaaVal
namespace Go.Proofs.Ytjjllfaehipemaa
open Go.RowKit

theorem ndl_app : ∀ (W r : List UInt8), allD W → (r = [] ∨ ∃ c r', r = c :: r' ∧ ¬ isD c) → ndl (W ++ r) = W.length
  | [], r, _, h => by
    rcases h with rfl | ⟨c, r', rfl, hc⟩
    · rfl
    · simp [ndl, hc]
  | c :: W, r, hW, h => by
    have hc := hW c (by simp)
    show ndl (c :: (W ++ r)) = _
    rw [ndl, if_pos hc, ndl_app W r (fun x hx => hW x (by simp [hx])) h]
    rfl

theorem run_list (s : ByteArray) (n : Nat) : (runAt s n).data.toList = (s.data.toList.drop n).take (ndl (s.data.toList.drop n)) := by
  have e : (s.extract n s.size).data.toList = s.data.toList.drop n := by
    rw [Lib.extract_data]
    exact List.take_of_length_le (by simp)
  unfold runAt nd
  rw [Lib.extract_data, e]
  simp
theorem size_list (s : ByteArray) : s.size = s.data.toList.length := by simp
theorem byte_list (s : ByteArray) (n : Nat) : byteAt s n = ((s.data.toList[n]?.getD 0).toNat : Int) := by
  unfold byteAt
  split
  · rename_i h
    have h' : n < s.data.toList.length := by simpa using h
    rw [List.getElem?_eq_getElem h']
    rfl
  · rename_i h
    rw [List.getElem?_eq_none (by simpa using h)]
    rfl

/-- A number's text: sign, digits, and a point with digits where there is a fraction. -/
def textOf (neg : Bool) (W F : List UInt8) : List UInt8 := (if neg then [45] else []) ++ (W ++ if F = [] then [] else 46 :: F)

theorem text_parts (s : ByteArray) (neg : Bool) (W F : List UInt8) (hs : s.data.toList = textOf neg W F) (hW : allD W) (hWe : W ≠ []) (hF : allD F) :
    perr s = none ∧ sgn s = (if neg then 1 else 0) ∧ (wholeOf s).data.toList = W ∧ (fracIf s).data.toList = F ∧ ptOf s = (if neg then 1 else 0) + W.length ∧ s.size = (if neg then 1 else 0) + W.length + (if F = [] then 0 else F.length + 1) := by
  have hsz : s.size = (if neg then 1 else 0) + W.length + (if F = [] then 0 else F.length + 1) := by
    rw [size_list, hs]
    unfold textOf
    cases neg <;> by_cases hf : F = [] <;> simp [hf] <;> omega
  have hsg : sgn s = (if neg then 1 else 0) := by
    unfold sgn
    rw [byte_list, hs]
    unfold textOf
    cases neg
    · obtain ⟨c, W', rfl⟩ := List.exists_cons_of_ne_nil hWe
      have := hW c (by simp)
      unfold isD at this
      simp
      intro h
      have : (c.toNat : Int) = 45 := by simpa using h
      omega
    · simp
  have hdrop : s.data.toList.drop (sgn s) = W ++ if F = [] then [] else 46 :: F := by
    rw [hsg, hs]
    unfold textOf
    cases neg <;> simp
  have hnd : ndl (s.data.toList.drop (sgn s)) = W.length := by
    rw [hdrop]
    refine ndl_app W _ hW ?_
    by_cases hf : F = []
    · exact .inl (by rw [if_pos hf])
    · exact .inr ⟨46, F, by rw [if_neg hf], by decide⟩
  have hwl : (wholeOf s).data.toList = W := by
    unfold wholeOf
    rw [run_list, hnd, hdrop]
    simp
  have hws : (wholeOf s).size = W.length := by rw [size_list, hwl]
  have hpt : ptOf s = (if neg then 1 else 0) + W.length := by unfold ptOf; rw [hws, hsg]
  have hW0 : ¬ (wholeOf s).size = 0 := by rw [hws]; exact fun h => hWe (List.length_eq_zero_iff.1 h)
  by_cases hf : F = []
  · subst hf
    simp at hsz
    have hn : ¬ ptOf s < s.size := by rw [hpt, hsz]; omega
    refine ⟨by unfold perr; rw [if_neg hW0, if_neg hn], hsg, hwl, by unfold fracIf; rw [if_neg hn], hpt, by simpa using hsz⟩
  · rw [if_neg hf] at hsz hdrop
    have hn : ptOf s < s.size := by rw [hpt, hsz]; omega
    have hd2 : s.data.toList.drop (ptOf s) = 46 :: F := by
      unfold ptOf
      rw [← List.drop_drop, hdrop, hws]
      simp
    have hby : byteAt s (ptOf s) = 46 := by
      rw [byte_list]
      have : s.data.toList[ptOf s]? = some 46 := by
        have := congrArg (·[0]?) hd2
        simpa [List.getElem?_drop] using this
      rw [this]
      rfl
    have hd3 : s.data.toList.drop (ptOf s + 1) = F := by rw [← List.drop_drop, hd2]; rfl
    have hfl : (fracOf s).data.toList = F := by
      unfold fracOf
      rw [run_list, hd3]
      have := ndl_app F [] hF (.inl rfl)
      rw [List.append_nil] at this
      rw [this]
      simp
    have hfs : (fracOf s).size = F.length := by rw [size_list, hfl]
    have hf0 : ¬ (fracOf s).size = 0 := by rw [hfs]; exact fun h => hf (List.length_eq_zero_iff.1 h)
    have he : ¬ endOf s < s.size := by unfold endOf; rw [hfs, hpt, hsz]; omega
    refine ⟨by unfold perr; rw [if_neg hW0, if_pos hn, if_pos hby, if_neg hf0, if_neg he], hsg, hwl, by unfold fracIf; rw [if_pos hn]; exact hfl, hpt, by rw [if_neg hf]; exact hsz⟩

/-- What 'Parse' hands back for such a text. -/
theorem parse_text (s : ByteArray) (neg : Bool) (W F : List UInt8) (hs : s.data.toList = textOf neg W F) (hW : allD W) (hWe : W ≠ []) (hF : allD F) (lo hi : Int)
    (hlo : val W * 65536 + dn (val F * 65536) (10 ^ F.length) = lo) (hhi : val W * 65536 + up (val F * 65536) (10 ^ F.length) = hi) (hb : hi < 2147483648) :
    parseV s = if neg then (-hi, -lo, 0, 0) else (lo, hi, 0, 0) := by
  obtain ⟨h1, h2, h3, h4, _, _⟩ := text_parts s neg W F hs hW hWe hF
  have r := frac_round F hF
  have b := val_bd W hW
  have bf := val_bd F hF
  have pp : 0 < (10 : Int) ^ F.length := Int.pow_pos (by decide)
  have ud := up_dn (val F * 65536) pp
  have d0 : 0 ≤ dn (val F * 65536) (10 ^ F.length) := dn_le pp (by omega)
  have hv : val W ≤ 32768 := by omega
  have hw := wv_val (cap := 2147483648) (by decide) W hW
  have e1 : loOf s = lo := by unfold loOf sizeLo; rw [h3, h4, r.1, hw]; omega
  have e2 : hiOf s = hi := by unfold hiOf sizeHi; rw [h3, h4, r.2, hw]; omega
  unfold parseV
  rw [h1]
  simp only [e1, e2, if_pos hb, h2]
  cases neg <;> simp
end Go.Proofs.Ytjjllfaehipemaa
