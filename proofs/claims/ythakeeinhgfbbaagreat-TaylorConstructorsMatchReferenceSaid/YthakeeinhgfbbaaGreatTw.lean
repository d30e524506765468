/-
  The reference's Same.
-/
import Derived.Test.YthakeeinhgfbbaaGreatTv
namespace Go.Proofs.YthakeeinhgfbbaaGreat
open Go.ChangeShapes Go.WideShapes Go.ChangeAt Go.RowKit
set_option linter.unusedVariables false
set_option linter.unusedSimpArgs false
set_option maxRecDepth 100000

attribute [local irreducible] Calls
theorem cmp_zero : ∀ {d e : List Int}, cmpE d e = 0 → d = e
  | [], [], _ => rfl
  | [], _ :: _, h => by simp [cmpE] at h
  | _ :: _, [], h => by simp [cmpE] at h
  | a :: l, b :: m, h => by
    rw [cmpE] at h
    by_cases h1 : a < b
    · rw [if_pos h1] at h
      cases h
    · rw [if_neg h1] at h
      by_cases h2 : b < a
      · rw [if_pos h2] at h
        cases h
      · rw [if_neg h2] at h
        have e1 : a = b := by omega
        rw [e1, cmp_zero h]
theorem cmp_self : ∀ d : List Int, cmpE d d = 0
  | [] => rfl
  | a :: l => by rw [cmpE, if_neg (by omega), if_neg (by omega)]; exact cmp_self l
theorem take_eq {l m : List Tm} {k : Nat} {x : Tm} (h : l.take k = m.take k) (h1 : l[k]? = some x) (h2 : m[k]? = some x) : l.take (k + 1) = m.take (k + 1) := by
  rw [List.take_add_one, List.take_add_one, h, h1, h2]
theorem at_ne {l m : List Tm} {k : Nat} {x y : Tm} (h1 : l[k]? = some x) (h2 : m[k]? = some y) (h : x ≠ y) : decide (l = m) = false := by
  rw [decide_eq_false_iff_not]
  rintro rfl
  rw [h1] at h2
  exact h (Option.some.inj h2)
set_option maxHeartbeats 8000000 in
theorem r5same (v u : Value) (l m : List Tm) (w : World) (hv : Tx w v l) (hu : Tx w u m) (hl : ∀ t ∈ l, TV t) (hm : ∀ t ∈ m, TV t) :
    Calls Tryz.prog 54 #[v, u] w fun e w' => e = .returned (.bool (decide (l = m))) ∧ Below w.heap.size w w' := by
  have h1 := hv.1
  have h2 := hu.1
  unfold maxLen at h1 h2
  obtain ⟨p, c, rfl⟩ := hv.cut
  obtain ⟨p', c', rfl⟩ := hu.cut
  have HV := Lib.hid hv
  have HU := Lib.hid hu
  have HL := Lib.hid hl
  have HM := Lib.hid hm
  clear hv hu hl hm
  by_cases hn : l.length = m.length
  · rw [← hn]
    rw [← hn] at HU
    obtain ⟨R, hR⟩ : ∃ R, decide (l = m) = R := ⟨_, rfl⟩
    rw [hR]
    have HR := Lib.hid hR
    have HN := Lib.hid hn
    clear hR hn h2
    go_enter Tryz.func54, Tryz.ntmps54
    go_wp2_with (fail)
    go_loopw [5] (fun i wr => ∃ k : Nat, i = .int .i64 k ∧ k ≤ l.length ∧ Hid (l.take k = m.take k) ∧ ∃ g : Grown w, wr = g.w) (fun i _ => l.length - (intOf i).toNat)
    case atStart => exact ⟨0, rfl, Nat.zero_le _, Lib.hid rfl, ⟨w, Below.refl _ _⟩, rfl⟩
    case round =>
      obtain ⟨k, rfl, hk, HK, g0, rfl⟩ := hrel
      by_cases hlt : k < l.length
      · have i1 : (k : Int) < l.length := by omega
        obtain ⟨x, hx⟩ : ∃ x, l[k]? = some x := ⟨_, List.getElem?_eq_getElem hlt⟩
        obtain ⟨y, hy⟩ : ∃ y, m[k]? = some y := ⟨_, List.getElem?_eq_getElem (by rw [← HN.out]; exact hlt)⟩
        have tx := HL.out x (List.mem_of_getElem? hx)
        have ty := HM.out y (List.mem_of_getElem? hy)
        obtain ⟨ka, a0, a1, a2, a3, a4, a5, rfl⟩ := six_at tx
        obtain ⟨kb, b0, b1, b2, b3, b4, b5, rfl⟩ := six_at ty
        obtain ⟨b, o, hp, hb, rda⟩ := HV.out.rd7 hx
        obtain ⟨b', o', hp', hb', rdb⟩ := HU.out.rd7 hy
        subst hp hp'
        have fa0 := fun g : Grown w => (rda g).1
        have fa1 := fun g : Grown w => (rda g).2.1
        have fa2 := fun g : Grown w => (rda g).2.2.1
        have fa3 := fun g : Grown w => (rda g).2.2.2.1
        have fa4 := fun g : Grown w => (rda g).2.2.2.2.1
        have fa5 := fun g : Grown w => (rda g).2.2.2.2.2.1
        have fa6 := fun g : Grown w => (rda g).2.2.2.2.2.2
        have fb0 := fun g : Grown w => (rdb g).1
        have fb1 := fun g : Grown w => (rdb g).2.1
        have fb2 := fun g : Grown w => (rdb g).2.2.1
        have fb3 := fun g : Grown w => (rdb g).2.2.2.1
        have fb4 := fun g : Grown w => (rdb g).2.2.2.2.1
        have fb5 := fun g : Grown w => (rdb g).2.2.2.2.2.1
        have fb6 := fun g : Grown w => (rdb g).2.2.2.2.2.2
        have HO := Lib.hid (fun w => r5order [a0, a1, a2, a3, a4, a5] [b0, b1, b2, b3, b4, b5] w tx.1 ty.1)
        rw [show valE [a0, a1, a2, a3, a4, a5] = .agg #[.int .u8 a0, .int .u8 a1, .int .u8 a2, .int .u8 a3, .int .u8 a4, .int .u8 a5] from rfl, show valE [b0, b1, b2, b3, b4, b5] = .agg #[.int .u8 b0, .int .u8 b1, .int .u8 b2, .int .u8 b3, .int .u8 b4, .int .u8 b5] from rfl] at HO
        clear rda rdb tx ty
        by_cases hc : ka = kb
        · subst hc
          have Hx := Lib.hid hx
          have Hy := Lib.hid hy
          obtain ⟨C, hC⟩ : ∃ C, cmpE [a0, a1, a2, a3, a4, a5] [b0, b1, b2, b3, b4, b5] = C := ⟨_, rfl⟩
          rw [hC] at HO
          have HCC := Lib.hid hC
          clear hx hy hC
          by_cases h0 : C = 0
          · subst h0
            have hy := Hy.out
            rw [← cmp_zero HCC.out] at hy
            have HN2 := Lib.hid (take_eq HK.out Hx.out hy)
            clear hy
            go_wp2_with (fail)
            refine region_quiet' g0 (by kernel_rfl) (by kernel_rfl) ?_
            repeat (go_big_quiet_step (exact qc (HO.out _)))
            refine wpQuiet_nil ?_
            rintro _ ⟨g1, rfl⟩
            go_wp2_with (fail)
            go_roundw
            case rel => exact ⟨k + 1, by go_num, by omega, HN2, g1, rfl⟩
            case measure => simp [intOf]; omega
          · have hr : R = false := by
              rw [← HR.out]
              refine at_ne Hx.out Hy.out ?_
              intro e
              injection e with e1 e2
              rw [e2, cmp_self] at HCC
              exact h0 HCC.out.symm
            subst hr
            have h0' : (C != 0) = true := by simpa using h0
            go_wp2_with (fail)
            refine region_quiet' g0 (by kernel_rfl) (by kernel_rfl) ?_
            repeat (go_big_quiet_step (exact qc (HO.out _)))
            refine wpQuiet_nil ?_
            rintro _ ⟨g1, rfl⟩
            go_wp2_with (fail)
            go_ret
            exact ⟨rfl, g1.h⟩
        · have hr : R = false := by
            rw [← HR.out]
            refine at_ne hx hy ?_
            intro e
            injection e with e1 e2
            exact hc e1
          subst hr
          clear hx hy
          have hc' : (ka != kb) = true := by simpa using hc
          go_wp2_with (fail)
          refine region_quiet' g0 (by kernel_rfl) (by kernel_rfl) ?_
          repeat (go_big_quiet_step (exact qc (HO.out _)))
          refine wpQuiet_nil ?_
          rintro _ ⟨g1, rfl⟩
          go_wp2_with (fail)
          go_ret
          exact ⟨rfl, g1.h⟩
      · obtain rfl : k = l.length := by omega
        have hr : R = true := by
          rw [← HR.out, decide_eq_true_iff]
          have := HK.out
          rw [List.take_of_length_le (Nat.le_refl _), List.take_of_length_le (by rw [HN.out]; exact Nat.le_refl _)] at this
          exact this
        subst hr
        go_wp2_with (fail)
        go_ret
        exact ⟨rfl, g0.h⟩
  · have hd : decide (l = m) = false := by
      rw [decide_eq_false_iff_not]
      rintro rfl
      exact hn rfl
    rw [hd]
    have hn' : ((l.length : Int) != (m.length : Int)) = true := by
      rw [bne_iff_ne]
      omega
    clear hd
    go_enter Tryz.func54, Tryz.ntmps54
    go_wp2_with (fail)
    go_ret
    exact ⟨rfl, Below.refl _ _⟩
end Go.Proofs.YthakeeinhgfbbaaGreat
