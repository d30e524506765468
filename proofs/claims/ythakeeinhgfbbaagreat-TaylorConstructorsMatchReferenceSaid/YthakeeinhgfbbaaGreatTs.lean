/-
  Package poly: haveNumbers, Const, Degree.
-/
import Derived.Test.YthakeeinhgfbbaaGreatTr
namespace Go.Proofs.YthakeeinhgfbbaaGreat
open Go.ChangeShapes Go.WideShapes Go.ChangeAt Go.RowKit
set_option linter.unusedVariables false
set_option linter.unusedSimpArgs false
set_option maxRecDepth 100000

attribute [local irreducible] Calls
/-- A term's coefficient is no number. -/
def noNum (t : Tm) : Bool := !decide (Num t.1)
theorem num1_ok (k a0 a1 a2 a3 a4 a5 : Int) (r : Bool) (w : World) (h : noNum (k, [a0, a1, a2, a3, a4, a5]) = r) :
    Calls Tryz.prog 115 #[.agg #[.int .i64 k, .int .u8 a0, .int .u8 a1, .int .u8 a2, .int .u8 a3, .int .u8 a4, .int .u8 a5]] w fun e w' => e = .returned (.bool r) ∧ Below w.heap.size w w' := by
  have hk : decide (Num k) = !r := by rw [← h]; simp [noNum]
  have HC := Lib.hid (fun w => fx_valid k (!r) w hk)
  clear h hk
  go_enter Tryz.func115, Tryz.ntmps115
  go_wp2_with (fail)
  refine (HC.out _).mono ?_
  rintro e w' ⟨rfl, rfl⟩
  go_wp2_with (fail)
  go_ret
  exact ⟨by simp, by go_grown⟩
theorem six_at {t : Tm} (h : TV t) : ∃ k a0 a1 a2 a3 a4 a5, t = (k, [a0, a1, a2, a3, a4, a5]) := by
  obtain ⟨a0, a1, a2, a3, a4, a5, e⟩ := six_of h.1
  exact ⟨t.1, a0, a1, a2, a3, a4, a5, by rw [← e]⟩
set_option maxHeartbeats 4000000 in
theorem index_t (v : Value) (l : List Tm) (w : World) (hv : Tx w v l) (ht : ∀ t ∈ l, TV t) :
    Calls Tryz.prog 135 #[v, .func (.func 115) #[] #[]] w fun e w' => ∃ r : Int, e = .returned (.int .i64 r) ∧ decide (0 ≤ r) = l.any noNum ∧ Below w.heap.size w w' := by
  have hl := hv.1
  unfold maxLen at hl
  obtain ⟨p, c, rfl⟩ := hv.cut
  have HV := Lib.hid hv
  have HT := Lib.hid ht
  clear hv ht
  go_enter Tryz.func135, Tryz.ntmps135
  go_wp2_with (fail)
  go_loopw [8] (fun i wr => ∃ k : Nat, i = .int .i64 k ∧ k ≤ l.length ∧ Hid ((l.take k).any noNum = false) ∧ ∃ g : Grown w, wr = g.w) (fun i _ => l.length - (intOf i).toNat)
  case atStart => exact ⟨0, rfl, Nat.zero_le _, Lib.hid rfl, ⟨w, Below.refl _ _⟩, rfl⟩
  case round =>
    obtain ⟨k, rfl, hk, HN, g0, rfl⟩ := hrel
    by_cases hlt : k < l.length
    · have i1 : (k : Int) < l.length := by omega
      obtain ⟨t, hx⟩ : ∃ t, l[k]? = some t := ⟨_, List.getElem?_eq_getElem hlt⟩
      obtain ⟨c0, a0, a1, a2, a3, a4, a5, rfl⟩ := six_at (HT.out t (List.mem_of_getElem? hx))
      obtain ⟨b, o, hp, hb, rd⟩ := HV.out.rd7 hx
      subst hp
      obtain ⟨f0, f1, f2, f3, f4, f5, f6⟩ := rd g0
      have HX := Lib.hid hx
      clear rd hx
      cases hbo : noNum (c0, [a0, a1, a2, a3, a4, a5]) with
      | true =>
        have HC := Lib.hid (num1_ok c0 a0 a1 a2 a3 a4 a5 true g0.w hbo)
        have HA : Hid (l.any noNum = true) := Lib.hid (any_at HX.out hbo)
        clear hbo
        go_wp2_with (fail)
        refine HC.out.mono ?_
        rintro e w5 ⟨rfl, hB5⟩
        go_wp2_with (fail)
        go_ret
        exact ⟨_, rfl, by rw [HA.out]; exact decide_eq_true (by omega), below_then g0.h hB5⟩
      | false =>
        have HC := Lib.hid (num1_ok c0 a0 a1 a2 a3 a4 a5 false g0.w hbo)
        have HA : Hid ((l.take (k + 1)).any noNum = false) := Lib.hid (any_take HN.out HX.out hbo)
        clear hbo
        go_wp2_with (fail)
        refine HC.out.mono ?_
        rintro e w5 ⟨rfl, hB5⟩
        go_wp2_with (fail)
        go_roundw
        case rel => exact ⟨k + 1, by go_num, by omega, HA, ⟨w5, below_then g0.h hB5⟩, rfl⟩
        case measure => simp [intOf]; omega
    · obtain rfl : k = l.length := by omega
      have hn := HN.out
      rw [List.take_of_length_le (Nat.le_refl _)] at hn
      have HA := Lib.hid hn
      clear hn
      go_wp2_with (fail)
      go_ret
      exact ⟨_, rfl, by rw [HA.out]; rfl, g0.h⟩
theorem contains_t (v : Value) (l : List Tm) (w : World) (hv : Tx w v l) (ht : ∀ t ∈ l, TV t) :
    Calls Tryz.prog 114 #[v, .func (.func 115) #[] #[]] w fun e w' => e = .returned (.bool (l.any noNum)) ∧ Below w.heap.size w w' := by
  have HC := Lib.hid (index_t v l w hv ht)
  clear hv ht
  go_enter Tryz.func114, Tryz.ntmps114
  go_wp2_with (fail)
  refine HC.out.mono ?_
  rintro e w5 ⟨r, rfl, hr, hB⟩
  have HR := Lib.hid hr
  have HB := Lib.hid hB
  clear hr hB
  go_wp2_with (fail)
  go_ret
  exact ⟨by rw [← HR.out]; rfl, HB.out⟩
theorem nums_ok (v : Value) (l : List Tm) (w : World) (hv : Tx w v l) (ht : ∀ t ∈ l, TV t) :
    Calls Tryz.prog 93 #[v] w fun e w' => e = .returned (.bool (!l.any noNum)) ∧ Below w.heap.size w w' := by
  have HC := Lib.hid (contains_t v l w hv ht)
  obtain ⟨r, hr⟩ : ∃ r, l.any noNum = r := ⟨_, rfl⟩
  rw [hr] at HC ⊢
  clear hv ht hr
  go_enter Tryz.func93, Tryz.ntmps93
  go_wp2_with (fail)
  refine HC.out.mono ?_
  rintro e w5 ⟨rfl, hB⟩
  go_wp2_with (fail)
  go_ret
  exact ⟨rfl, hB⟩
/-- One term in a new block. -/
theorem tx_lit (W : World) (k a0 a1 a2 a3 a4 a5 : Int) : Tx (W.alloc (.cells #[.int .i64 k, .int .u8 a0, .int .u8 a1, .int .u8 a2, .int .u8 a3, .int .u8 a4, .int .u8 a5] 63)) (.slice (some ⟨W.heap.size, 0, none⟩) 1 1) [(k, [a0, a1, a2, a3, a4, a5])] := by
  refine ⟨by simp [maxLen], _, 1, rfl, fun i p hp => ⟨W.heap.size, 0, rfl, by simp, fun j u hu => ?_⟩⟩
  match i, hp with
  | 0, hp =>
    simp at hp
    subst hp
    have hj : j < 7 := by have := (List.getElem?_eq_some_iff.1 hu).1; simpa [encT] using this
    match j, hj, hu with
    | 0, _, hu => cases hu; simp [go_sem]
    | 1, _, hu => cases hu; simp [go_sem]
    | 2, _, hu => cases hu; simp [go_sem]
    | 3, _, hu => cases hu; simp [go_sem]
    | 4, _, hu => cases hu; simp [go_sem]
    | 5, _, hu => cases hu; simp [go_sem]
    | 6, _, hu => cases hu; simp [go_sem]
def constT (c : Int) : List Tm := if c = 0 then [] else [(c, [0, 0, 0, 0, 0, 0])]
theorem const_ok (c : Int) (w : World) :
    Calls Tryz.prog 74 #[.int .i64 c] w fun e w' => ∃ u, e = .returned u ∧ Tx w' u (constT c) ∧ Below w.heap.size w w' := by
  by_cases h : c = 0
  · subst h
    go_enter Tryz.func74, Tryz.ntmps74
    go_wp2_with (fail)
    go_ret
    exact ⟨_, rfl, Tx.nil _ _ _, Below.refl _ _⟩
  · have hc : constT c = [(c, [0, 0, 0, 0, 0, 0])] := by unfold constT; rw [if_neg h]
    rw [hc]
    clear hc
    have hne : (c == 0) = false := by simpa using h
    go_enter Tryz.func74, Tryz.ntmps74
    go_wp2_with (fail)
    go_ret
    exact ⟨_, rfl, tx_lit w c 0 0 0 0 0 0, by go_grown⟩
/-- The degree: the largest of the terms, -1 of none. -/
def degP (l : List Tm) : Int := l.foldl (fun d t => max d (degE t.2)) (-1)
theorem degP_snoc {l : List Tm} {k : Nat} {t : Tm} (h : l[k]? = some t) : degP (l.take (k + 1)) = max (degP (l.take k)) (degE t.2) := by
  unfold degP
  rw [List.take_add_one, h, Option.toList_some, List.foldl_append]
  rfl
end Go.Proofs.YthakeeinhgfbbaaGreat
