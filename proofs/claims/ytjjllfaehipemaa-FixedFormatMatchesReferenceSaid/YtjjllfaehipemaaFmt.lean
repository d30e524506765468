/-
  The contract of package fixed's 'Format'.
-/
import Derived.Test.YtjjllfaehipemaaDig
import Derived.Laws.BytesArg
namespace Go.Proofs.Ytjjllfaehipemaa
open Go.ChangeShapes Go.WideShapes Go.ChangeAt Go.RowKit

/-- The fraction without its trailing zeros, and its number of digits. -/
def strip : Nat → Int → Int × Nat
  | 0, f => (f, 0)
  | k + 1, f => if f % 10 = 0 then strip k (f / 10) else (f, k + 1)
theorem strip_zero (k : Nat) (f : Int) (h : f % 10 = 0) : strip (k + 1) f = strip k (f / 10) := by rw [strip, if_pos h]
theorem strip_end (k : Nat) (f : Int) (h : ¬ f % 10 = 0) : strip k f = (f, k) := by cases k <;> simp [strip, h]

def fracPart (n : Int) : List Int := if n % 65536 = 0 then [] else 46 :: dgs 15 (strip 16 (n % 65536 * 152587890625)).1 (strip 16 (n % 65536 * 152587890625)).2
def mag (n : Int) : List Int := dgs 4 (n / 65536) 1 ++ fracPart n
/-- What 'Format' hands back. -/
def fmt (x : Int) : List Int := if x < 0 then 45 :: mag (-x) else mag x

theorem conv_own {B : Nat} {v : Value} {xs : List Int} {w : World} (h : w.ownsRow B 5 1 v xs.length (xs.map (Value.int .u8))) :
    (convert 58 9 v).run Try.prog w = .ok (.string (strOfNums xs)) w := by
  rcases h.2 with ⟨rfl, h0⟩ | ⟨g, cap, cur, rfl, _, hg, _, _, _, _⟩
  · have e : xs = [] := List.length_eq_zero_iff.1 h0
    subst e
    exact run_convert_bytes_nil w _ _ Try.underlying58 Try.underlying5 _ _ _ Try.underlying9
  · refine run_convert_bytes_arg w _ _ Try.underlying58 Try.underlying5 g 0 _ _ xs rfl (fun i hi => ?_) _ Try.underlying9
    have hc := h.cells (g := g) rfl i (.int .u8 (xs.getD i 0)) (by simp [List.getElem?_map, List.getElem?_eq_getElem hi])
    have e : (⟨g, 0, none⟩ : Addr).add i = ⟨g, 0 + i, none⟩ := by unfold Addr.add; split <;> simp_all
    rwa [e] at hc

theorem len_of {α : Type} {xs ys : List α} (h : xs = ys) (k : Nat) (hk : ys.length ≤ k) : xs.length ≤ k := by rw [h]; exact hk

theorem mag_whole (m : Int) (h : m % 65536 = 0) : mag m = dgs 4 (m / 65536) 1 := by unfold mag fracPart; rw [if_pos h, List.append_nil]
theorem mag_frac (m : Int) (h : ¬ m % 65536 = 0) : mag m = dgs 4 (m / 65536) 1 ++ (46 :: dgs 15 (strip 16 (m % 65536 * 152587890625)).1 (strip 16 (m % 65536 * 152587890625)).2) := by unfold mag fracPart; rw [if_neg h]

set_option maxHeartbeats 1000000 in
theorem fmt_neg_whole (m : Int) (w : World) (h0 : 0 < m) (h1 : m < 2147483648) (hf : (m % 65536 == 0) = true) :
    Calls Try.prog 26 #[.int .i64 (-m)] w fun e w' => e = .returned (.string (strOfNums (45 :: mag m))) ∧ Below w.heap.size w w' := by
  obtain ⟨i, hi, hz0, hz1, hz2⟩ := info_parts info_u8
  obtain ⟨c, hu, hu2⟩ : ∃ c, IntKind.u64.wrap (-m) = c ∧ IntKind.u64.wrap (-c) = m := ⟨m * (-1) + 18446744073709551616, by rw [IntKind.wrap_u64]; omega, by rw [IntKind.wrap_u64]; omega⟩
  have hmag := Lib.hid (mag_whole m (by simpa using hf))
  have hf0 : m % 65536 = 0 := by simpa using hf
  clear hf
  go_enter Try.func26, Try.ntmps26
  go_wp2_with (at_builtin; refine wpList_append_own _ rfl (.tmp 11) (.tmp 12) 58 rfl w.heap.size 5 i (.int .u8 0) 1 1 Try.underlying58 hi hz0 hz1 hz2 rfl (by decide) (.slice none 0 0) 0 [] rfl (World.ownsRow_nil _ _ _ _) ⟨w.heap.size, 0, none⟩ 1 1 [.int .u8 45] rfl rfl (new_one _ _ _) (one_u8 _) (by decide) (by decide) (by simp) ?_)
  intro v0 w0 hown0 hgrow0 _
  have hb0 : Below w.heap.size w w0 := Below.grown ((Below.refl _ _).alloc (Nat.le_refl _) _) hgrow0 (by simp) (fun k hk => by cases hk)
  have hsz0 := hb0.size
  go_wp2_with (fail)
  clear hu hu2
  refine (digits_any 4 (m / 65536) 1 w.heap.size v0 [45] w0 (by omega) (by omega) (by omega) (by omega) (by omega) (by decide) hsz0 hown0).mono ?_
  rintro e w1 ⟨v1, rfl, hown1, hb1⟩
  have hl1 := Lib.hid (dgs_len 4 (m / 65536) 1)
  have hb1 := hb0.trans hb1
  have hconv := conv_own hown1
  go_wp2_with (fail)
  go_ret
  exact ⟨by rw [hmag.out]; rfl, hb1⟩

set_option maxHeartbeats 1000000 in
theorem fmt_pos_whole (m : Int) (w : World) (h0 : 0 ≤ m) (h1 : m < 2147483648) (hf : (m % 65536 == 0) = true) :
    Calls Try.prog 26 #[.int .i64 m] w fun e w' => e = .returned (.string (strOfNums (mag m))) ∧ Below w.heap.size w w' := by
  obtain ⟨i, hi, hz0, hz1, hz2⟩ := info_parts info_u8
  have hmag := Lib.hid (mag_whole m (by simpa using hf))
  have hf0 : m % 65536 = 0 := by simpa using hf
  clear hf
  go_enter Try.func26, Try.ntmps26
  go_wp2_with (fail)
  refine (digits_any 4 (m / 65536) 1 w.heap.size (.slice none 0 0) [] w (by omega) (by omega) (by omega) (by omega) (by omega) (by decide) (Nat.le_refl _) (World.ownsRow_nil _ _ _ _)).mono ?_
  rintro e w1 ⟨v1, rfl, hown1, hb1⟩
  have hl1 := Lib.hid (dgs_len 4 (m / 65536) 1)
  have hconv := conv_own hown1
  go_wp2_with (fail)
  go_ret
  exact ⟨by rw [hmag.out]; rfl, hb1⟩

set_option maxHeartbeats 1000000 in
theorem fmt_neg_frac (m : Int) (w : World) (h0 : 0 < m) (h1 : m < 2147483648) (hf : ¬ m % 65536 = 0) :
    Calls Try.prog 26 #[.int .i64 (-m)] w fun e w' => e = .returned (.string (strOfNums (45 :: mag m))) ∧ Below w.heap.size w w' := by
  obtain ⟨i, hi, hz0, hz1, hz2⟩ := info_parts info_u8
  obtain ⟨c, hu, hu2⟩ : ∃ c, IntKind.u64.wrap (-m) = c ∧ IntKind.u64.wrap (-c) = m := ⟨m * (-1) + 18446744073709551616, by rw [IntKind.wrap_u64]; omega, by rw [IntKind.wrap_u64]; omega⟩
  have hmag := Lib.hid (mag_frac m hf)
  have hff : (m % 65536 * 152587890625 == 0) = false := by simp; omega
  go_enter Try.func26, Try.ntmps26
  go_wp2_with (at_builtin; refine wpList_append_own _ rfl (.tmp 11) (.tmp 12) 58 rfl w.heap.size 5 i (.int .u8 0) 1 1 Try.underlying58 hi hz0 hz1 hz2 rfl (by decide) (.slice none 0 0) 0 [] rfl (World.ownsRow_nil _ _ _ _) ⟨w.heap.size, 0, none⟩ 1 1 [.int .u8 45] rfl rfl (new_one _ _ _) (one_u8 _) (by decide) (by decide) (by simp) ?_)
  intro v0 w0 hown0 hgrow0 _
  have hb0 : Below w.heap.size w w0 := Below.grown ((Below.refl _ _).alloc (Nat.le_refl _) _) hgrow0 (by simp) (fun k hk => by cases hk)
  have hsz0 := hb0.size
  go_wp2_with (fail)
  clear hu hu2
  refine (digits_any 4 (m / 65536) 1 w.heap.size v0 [45] w0 (by omega) (by omega) (by omega) (by omega) (by omega) (by decide) hsz0 hown0).mono ?_
  rintro e w1 ⟨v1, rfl, hown1, hb1⟩
  have hl1 := Lib.hid (dgs_len 4 (m / 65536) 1)
  have hb1 := hb0.trans hb1
  have hsz1 := hb1.size
  go_wp2_with (fail)
  have hF := Lib.hid (show 0 < m % 65536 * 152587890625 ∧ m % 65536 * 152587890625 < 10000000000000000 by omega)
  generalize m % 65536 * 152587890625 = F at *
  generalize hys : [45] ++ dgs 4 (m / 65536) 1 = ys at hown1
  have hyl : ys.length ≤ 6 := by have := hl1.out; rw [← hys]; simp; omega
  have hY := Lib.hid hys
  clear hys
  go_loop [5, 6] (fun f k => ∃ (r : Int) (d : Nat), f = .int .u64 r ∧ k = .int .i64 d ∧ 0 < r ∧ r < 10000000000000000 ∧ d ≤ 16 ∧ Hid (r < 10 ^ d) ∧ Hid (strip 16 F = strip d r)) (fun _ k => (intOf k).toNat)
  case atStart => exact ⟨F, 16, rfl, rfl, hF.out.1, hF.out.2, by decide, hF.out.2, rfl⟩
  case round =>
    obtain ⟨r, d, rfl, rfl, hr0, hr1, hd, hrd, hst⟩ := hrel
    by_cases hc : (r % 10 == 0) = true
    · have hc' : r % 10 = 0 := by simpa using hc
      obtain ⟨d', rfl⟩ : ∃ d', d = d' + 1 := by
        cases d with
        | zero => have h1 := hrd.out; simp at h1; omega
        | succ d' => exact ⟨d', rfl⟩
      go_wp2_with (fail)
      go_round
      case rel => exact ⟨r / 10, d', rfl, by go_num, by omega, by omega, by omega, (by have := hrd.out; rw [Int.pow_succ] at this; show _ < _; omega), by rw [hst.out, strip_zero _ _ hc']; exact rfl⟩
      case measure => simp [intOf]
    · have hc0 : (r % 10 == 0) = false := by simpa using hc
      have hfin := Lib.hid ((hst.out).trans (strip_end d r (by simpa using hc)))
      clear hc hst
      go_wp2_with (at_builtin; refine wpList_append_own _ rfl (.tmp 34) (.tmp 35) 58 rfl w.heap.size 5 i (.int .u8 0) 1 1 Try.underlying58 hi hz0 hz1 hz2 rfl (by decide) v1 ys.length _ rfl (hown1.alloc _) ⟨w1.heap.size, 0, none⟩ 1 1 [.int .u8 46] rfl rfl (new_one _ _ _) (one_u8 _) (by unfold maxLen; omega) (by omega) (by simp; omega) ?_)
      intro v2 w2 hown2 hgrow2 _
      have hb2 : Below w.heap.size w w2 := hb1.trans (Below.grown ((Below.refl _ _).alloc hsz1 _) hgrow2 (by simp; omega) (fun k hk => (hown1.lt k hk).1))
      have hsz2 := hb2.size
      have hown2' : w2.ownsRow w.heap.size 5 1 v2 (ys ++ [46]).length ((ys ++ [46]).map (Value.int .u8)) := by simpa using hown2
      have hdd : d ≠ 0 := fun e => by subst e; have h1 := hrd.out; simp at h1; omega
      have hpow : Hid (r < 10 ^ (15 + 1)) := hr1
      go_wp2_with (fail)
      refine (digits_any 15 r d w.heap.size v2 (ys ++ [46]) w2 (by omega) hpow.out (by omega) (by omega) (by omega) (by simp; omega) hsz2 hown2').mono ?_
      rintro e w3 ⟨v3, rfl, hown3, hb3⟩
      have hconv := conv_own hown3
      go_wp2_with (fail)
      go_ret
      refine ⟨?_, hb2.trans hb3⟩
      rw [hmag.out, hfin.out, ← hY.out]
      simp

set_option maxHeartbeats 1000000 in
theorem fmt_pos_frac (m : Int) (w : World) (h0 : 0 ≤ m) (h1 : m < 2147483648) (hf : ¬ m % 65536 = 0) :
    Calls Try.prog 26 #[.int .i64 m] w fun e w' => e = .returned (.string (strOfNums (mag m))) ∧ Below w.heap.size w w' := by
  obtain ⟨i, hi, hz0, hz1, hz2⟩ := info_parts info_u8
  have hmag := Lib.hid (mag_frac m hf)
  have hff : (m % 65536 * 152587890625 == 0) = false := by simp; omega
  go_enter Try.func26, Try.ntmps26
  go_wp2_with (fail)
  refine (digits_any 4 (m / 65536) 1 w.heap.size (.slice none 0 0) [] w (by omega) (by omega) (by omega) (by omega) (by omega) (by decide) (Nat.le_refl _) (World.ownsRow_nil _ _ _ _)).mono ?_
  rintro e w1 ⟨v1, rfl, hown1, hb1⟩
  have hl1 := Lib.hid (dgs_len 4 (m / 65536) 1)
  have hsz1 := hb1.size
  go_wp2_with (fail)
  have hF := Lib.hid (show 0 < m % 65536 * 152587890625 ∧ m % 65536 * 152587890625 < 10000000000000000 by omega)
  generalize m % 65536 * 152587890625 = F at *
  generalize hys : [] ++ dgs 4 (m / 65536) 1 = ys at hown1
  have hyl : ys.length ≤ 6 := by have := hl1.out; rw [← hys]; simp; omega
  have hY := Lib.hid hys
  clear hys
  go_loop [5, 6] (fun f k => ∃ (r : Int) (d : Nat), f = .int .u64 r ∧ k = .int .i64 d ∧ 0 < r ∧ r < 10000000000000000 ∧ d ≤ 16 ∧ Hid (r < 10 ^ d) ∧ Hid (strip 16 F = strip d r)) (fun _ k => (intOf k).toNat)
  case atStart => exact ⟨F, 16, rfl, rfl, hF.out.1, hF.out.2, by decide, hF.out.2, rfl⟩
  case round =>
    obtain ⟨r, d, rfl, rfl, hr0, hr1, hd, hrd, hst⟩ := hrel
    by_cases hc : (r % 10 == 0) = true
    · have hc' : r % 10 = 0 := by simpa using hc
      obtain ⟨d', rfl⟩ : ∃ d', d = d' + 1 := by
        cases d with
        | zero => have h1 := hrd.out; simp at h1; omega
        | succ d' => exact ⟨d', rfl⟩
      go_wp2_with (fail)
      go_round
      case rel => exact ⟨r / 10, d', rfl, by go_num, by omega, by omega, by omega, (by have := hrd.out; rw [Int.pow_succ] at this; show _ < _; omega), by rw [hst.out, strip_zero _ _ hc']; exact rfl⟩
      case measure => simp [intOf]
    · have hc0 : (r % 10 == 0) = false := by simpa using hc
      have hfin := Lib.hid ((hst.out).trans (strip_end d r (by simpa using hc)))
      clear hc hst
      go_wp2_with (at_builtin; refine wpList_append_own _ rfl (.tmp 34) (.tmp 35) 58 rfl w.heap.size 5 i (.int .u8 0) 1 1 Try.underlying58 hi hz0 hz1 hz2 rfl (by decide) v1 ys.length _ rfl (hown1.alloc _) ⟨w1.heap.size, 0, none⟩ 1 1 [.int .u8 46] rfl rfl (new_one _ _ _) (one_u8 _) (by unfold maxLen; omega) (by omega) (by simp; omega) ?_)
      intro v2 w2 hown2 hgrow2 _
      have hb2 : Below w.heap.size w w2 := hb1.trans (Below.grown ((Below.refl _ _).alloc hsz1 _) hgrow2 (by simp; omega) (fun k hk => (hown1.lt k hk).1))
      have hsz2 := hb2.size
      have hown2' : w2.ownsRow w.heap.size 5 1 v2 (ys ++ [46]).length ((ys ++ [46]).map (Value.int .u8)) := by simpa using hown2
      have hdd : d ≠ 0 := fun e => by subst e; have h1 := hrd.out; simp at h1; omega
      have hpow : Hid (r < 10 ^ (15 + 1)) := hr1
      go_wp2_with (fail)
      refine (digits_any 15 r d w.heap.size v2 (ys ++ [46]) w2 (by omega) hpow.out (by omega) (by omega) (by omega) (by simp; omega) hsz2 hown2').mono ?_
      rintro e w3 ⟨v3, rfl, hown3, hb3⟩
      have hconv := conv_own hown3
      go_wp2_with (fail)
      go_ret
      refine ⟨?_, hb2.trans hb3⟩
      rw [hmag.out, hfin.out, ← hY.out]
      simp

theorem fmt_any (x : Int) (w : World) (h0 : -2147483648 < x) (h1 : x < 2147483648) :
    Calls Try.prog 26 #[.int .i64 x] w fun e w' => e = .returned (.string (strOfNums (fmt x))) ∧ Below w.heap.size w w' := by
  by_cases hx : x < 0
  · obtain ⟨m, rfl⟩ : ∃ m, x = -m := ⟨-x, by omega⟩
    have e : fmt (-m) = 45 :: mag m := by unfold fmt; rw [if_pos hx, Int.neg_neg]
    rw [e]
    by_cases hf : m % 65536 = 0
    · exact fmt_neg_whole m w (by omega) (by omega) (by simpa using hf)
    · exact fmt_neg_frac m w (by omega) (by omega) hf
  · have e : fmt x = mag x := by unfold fmt; rw [if_neg hx]
    rw [e]
    by_cases hf : x % 65536 = 0
    · exact fmt_pos_whole x w (by omega) (by omega) (by simpa using hf)
    · exact fmt_pos_frac x w (by omega) (by omega) hf
end Go.Proofs.Ytjjllfaehipemaa
