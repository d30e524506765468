/-
  The reference's Valid.
-/
import Derived.Test.YtcamjoddaeefdaaIn
namespace Go.Proofs.Ytcamjoddaeefdaa
open Go.ChangeShapes Go.WideShapes Go.ChangeAt Go.RowKit
set_option linter.unusedVariables false
set_option linter.unusedSimpArgs false
set_option maxRecDepth 100000

attribute [local irreducible] Calls
theorem no_num {l : List Tm} {t : Tm} (ht : t ∈ l) (h : ¬ Num t.1) : ¬ VP l := fun g => by
  have := List.any_eq_false.1 g.2.2 t ht
  simp [noNum, h] at this
set_option maxHeartbeats 8000000 in
theorem r5valid_ok (v : Value) (l : List Tm) (R : Bool) (w : World) (hv : Tx w v l) (hl : ∀ t ∈ l, TV t) (hR : R = true ↔ VP l) :
    Calls Try.prog 54 #[v] w fun e w' => e = .returned (.bool R) ∧ Below w.heap.size w w' := by
  have h1 := hv.1
  unfold maxLen at h1
  obtain ⟨p, c, rfl⟩ := hv.cut
  have HV := Lib.hid hv
  have HL := Lib.hid hl
  have HR := Lib.hid hR
  clear hv hl hR
  go_enter Try.func54, Try.ntmps54
  go_wp2_with (fail)
  go_loopw [3] (fun i wr => ∃ k : Nat, i = .int .i64 k ∧ k ≤ l.length ∧ Hid (allT l k ∧ (l.take k).any noNum = false) ∧ ∃ g : Grown w, wr = g.w) (fun i _ => l.length - (intOf i).toNat)
  case atStart => exact ⟨0, rfl, Nat.zero_le _, Lib.hid ⟨(fun i hi => absurd hi (Nat.not_lt_zero _)), rfl⟩, ⟨w, Below.refl _ _⟩, rfl⟩
  case round =>
    obtain ⟨k, rfl, hk, HK, g0, rfl⟩ := hrel
    by_cases hlt : k < l.length
    · have i1 : (k : Int) < l.length := by omega
      obtain ⟨x, hx⟩ : ∃ x, l[k]? = some x := ⟨_, List.getElem?_eq_getElem hlt⟩
      have tx := HL.out x (List.mem_of_getElem? hx)
      obtain ⟨ka, a0, a1, a2, a3, a4, a5, rfl⟩ := six_at tx
      obtain ⟨b, o, hp, hb, rda⟩ := HV.out.rd7 hx
      subst hp
      have fa0 := fun g : Grown w => (rda g).1
      have fa1 := fun g : Grown w => (rda g).2.1
      have fa2 := fun g : Grown w => (rda g).2.2.1
      have fa3 := fun g : Grown w => (rda g).2.2.2.1
      have fa4 := fun g : Grown w => (rda g).2.2.2.2.1
      have fa5 := fun g : Grown w => (rda g).2.2.2.2.2.1
      have fa6 := fun g : Grown w => (rda g).2.2.2.2.2.2
      have HD := Lib.hid (fun w => r5deg [a0, a1, a2, a3, a4, a5] w tx.1)
      rw [show valE [a0, a1, a2, a3, a4, a5] = .agg #[.int .u8 a0, .int .u8 a1, .int .u8 a2, .int .u8 a3, .int .u8 a4, .int .u8 a5] from rfl] at HD
      obtain ⟨D, hD⟩ : ∃ D, degE [a0, a1, a2, a3, a4, a5] = D := ⟨_, rfl⟩
      rw [hD] at HD
      have Hx := Lib.hid hx
      have HDD := Lib.hid hD
      have Ht := Lib.hid tx
      clear rda hx hD tx
      by_cases hnum : Num ka
      · have HN := Lib.hid (fun w => r2num_yes ka w hnum)
        have HNM := Lib.hid hnum
        clear hnum
        by_cases hc : ka = 0
        · have hc' : (ka == 0) = true := by simpa using hc
          have hr : R = false := by
            rw [← Bool.not_eq_true, HR.out]
            refine vp_no hlt ?_
            rintro ⟨t, ht, g1, _⟩
            rw [Hx.out] at ht
            obtain rfl := Option.some.inj ht
            exact g1 hc
          subst hr
          clear hc
          go_wp2_with (fail)
          refine region_quiet' g0 (by kernel_rfl) (by kernel_rfl) ?_
          repeat (go_big_quiet_step (first | exact qs (HN.out _) | exact qc (HD.out _)))
          refine wpQuiet_nil ?_
          rintro _ ⟨g1, rfl⟩
          go_wp2_with (fail)
          go_ret
          exact ⟨rfl, g1.h⟩
        · have hc' : (ka == 0) = false := by simpa using hc
          by_cases hd : 6 < D
          · have hd2 : decide (6 < D) = true := by simpa using hd
            have hr : R = false := by
              rw [← Bool.not_eq_true, HR.out]
              refine vp_no hlt ?_
              rintro ⟨t, ht, _, g1, _⟩
              rw [Hx.out] at ht
              obtain rfl := Option.some.inj ht
              dsimp only at g1
              rw [HDD.out] at g1
              omega
            subst hr
            skip
            go_wp2_with (fail)
            refine region_quiet' g0 (by kernel_rfl) (by kernel_rfl) ?_
            repeat (go_big_quiet_step (first | exact qs (HN.out _) | exact qc (HD.out _)))
            refine wpQuiet_nil ?_
            rintro _ ⟨g1, rfl⟩
            go_wp2_with (fail)
            go_ret
            exact ⟨rfl, g1.h⟩
          · have hd' : D ≤ 6 := by omega
            have hd2 : decide (6 < D) = false := by simpa using hd'
            have hnn : ∀ k', k = k' → (l.take (k' + 1)).any noNum = false := fun k' hk' => by
              subst hk'
              rw [List.take_add_one, Hx.out, List.any_append, HK.out.2]
              simp [noNum, HNM.out]
            have HNN := Lib.hid hnn
            clear hnn
            by_cases hk0 : k = 0
            · subst hk0
              have HN2 : Hid (allT l (0 + 1) ∧ (l.take (0 + 1)).any noNum = false) := Lib.hid ⟨allT_next HK.out.1 ⟨_, Hx.out, hc, by dsimp only; rw [HDD.out]; exact hd', fun h => absurd h (Nat.lt_irrefl _)⟩, HNN.out 0 rfl⟩
              simp only [Nat.zero_mul, Nat.add_zero, Nat.zero_add] at fa0 fa1 fa2 fa3 fa4 fa5 fa6
              rw [show ((0 : Nat) : Int) = 0 from rfl] at *
              go_wp2_with (fail)
              refine region_quiet' g0 (by kernel_rfl) (by kernel_rfl) ?_
              repeat (go_big_quiet_step (first | exact qs (HN.out _) | exact qc (HD.out _)))
              refine wpQuiet_nil ?_
              rintro _ ⟨g1, rfl⟩
              go_wp2_with (fail)
              go_roundw
              case rel => exact ⟨0 + 1, by go_num, by omega, HN2, g1, rfl⟩
              case measure => simp [intOf]; omega
            · have hk1 : (0 : Int) < (k : Int) := by omega
              obtain ⟨j, rfl⟩ : ∃ j, k = j + 1 := ⟨k - 1, by omega⟩
              obtain ⟨y, hy⟩ : ∃ y, l[j]? = some y := ⟨_, List.getElem?_eq_getElem (by omega)⟩
              have ty := HL.out y (List.mem_of_getElem? hy)
              obtain ⟨kb, b0, b1, b2, b3, b4, b5, rfl⟩ := six_at ty
              obtain ⟨b', o', hp', hb', rdb⟩ := HV.out.rd7 hy
              simp only [Option.some.injEq, Addr.mk.injEq, and_true] at hp'
              obtain ⟨rfl, rfl⟩ := hp'
              have fb1 := fun g : Grown w => (rdb g).2.1
              have fb2 := fun g : Grown w => (rdb g).2.2.1
              have fb3 := fun g : Grown w => (rdb g).2.2.2.1
              have fb4 := fun g : Grown w => (rdb g).2.2.2.2.1
              have fb5 := fun g : Grown w => (rdb g).2.2.2.2.2.1
              have fb6 := fun g : Grown w => (rdb g).2.2.2.2.2.2
              have ej : IntKind.i64.wrap (((j + 1 : Nat) : Int) - 1) = (j : Int) := by rw [show ((j + 1 : Nat) : Int) - 1 = (j : Int) by omega]; exact wrap_i64 _ (by omega) (by omega)
              have ej2 : IntKind.i64.wrap ((j : Int) + 1 - 1) = (j : Int) := by rw [show (j : Int) + 1 - 1 = (j : Int) by omega]; exact wrap_i64 _ (by omega) (by omega)
              have ej3 : IntKind.i64.wrap (j : Int) = (j : Int) := wrap_i64 _ (by omega) (by omega)
              have ij : (j : Int) < (l.length : Int) := by omega
              have ij0 : (0 : Int) ≤ (j : Int) := by omega
              have hk2 : decide (0 < (j : Int) + 1) = true := decide_eq_true (by omega)
              have HO := Lib.hid (fun w => r5order [b0, b1, b2, b3, b4, b5] [a0, a1, a2, a3, a4, a5] w ty.1 Ht.out.1)
              rw [show valE [a0, a1, a2, a3, a4, a5] = .agg #[.int .u8 a0, .int .u8 a1, .int .u8 a2, .int .u8 a3, .int .u8 a4, .int .u8 a5] from rfl, show valE [b0, b1, b2, b3, b4, b5] = .agg #[.int .u8 b0, .int .u8 b1, .int .u8 b2, .int .u8 b3, .int .u8 b4, .int .u8 b5] from rfl] at HO
              obtain ⟨C, hC⟩ : ∃ C, cmpE [b0, b1, b2, b3, b4, b5] [a0, a1, a2, a3, a4, a5] = C := ⟨_, rfl⟩
              rw [hC] at HO
              have Hy := Lib.hid hy
              have HCC := Lib.hid hC
              clear hy hC rdb ty
              by_cases h0 : C < 0
              · have HN2 : Hid (allT l (j + 1 + 1) ∧ (l.take (j + 1 + 1)).any noNum = false) := Lib.hid ⟨allT_next HK.out.1 ⟨_, Hx.out, hc, by dsimp only; rw [HDD.out]; exact hd', fun h => ⟨_, Hy.out, by dsimp only; rw [HCC.out]; exact h0⟩⟩, HNN.out (j + 1) rfl⟩
                go_wp2_with (fail)
                refine region_quiet' g0 (by kernel_rfl) (by kernel_rfl) ?_
                repeat (go_big_quiet_step (first | exact qs (HN.out _) | exact qc (HD.out _) | exact qc (HO.out _)))
                refine wpQuiet_nil ?_
                rintro _ ⟨g1, rfl⟩
                go_wp2_with (fail)
                go_roundw
                case rel => exact ⟨j + 1 + 1, by go_num, by omega, HN2, g1, rfl⟩
                case measure => simp [intOf]; omega
              · have h0' : 0 ≤ C := by omega
                have hr : R = false := by
                  rw [← Bool.not_eq_true, HR.out]
                  refine vp_no hlt ?_
                  rintro ⟨t, ht, _, _, g1⟩
                  rw [Hx.out] at ht
                  obtain rfl := Option.some.inj ht
                  obtain ⟨s, hs, g2⟩ := g1 (by omega)
                  rw [Nat.add_sub_cancel, Hy.out] at hs
                  obtain rfl := Option.some.inj hs
                  dsimp only at g2
                  rw [HCC.out] at g2
                  omega
                subst hr
                skip
                go_wp2_with (fail)
                refine region_quiet' g0 (by kernel_rfl) (by kernel_rfl) ?_
                repeat (go_big_quiet_step (first | exact qs (HN.out _) | exact qc (HD.out _) | exact qc (HO.out _)))
                refine wpQuiet_nil ?_
                rintro _ ⟨g1, rfl⟩
                go_wp2_with (fail)
                go_ret
                exact ⟨rfl, g1.h⟩
      · have HN := Lib.hid (fun w => r2num_no ka w hnum)
        have hr : R = false := by
          rw [← Bool.not_eq_true, HR.out]
          exact no_num (List.mem_of_getElem? Hx.out) hnum
        subst hr
        skip
        go_wp2_with (fail)
        refine region_quiet' g0 (by kernel_rfl) (by kernel_rfl) ?_
        repeat (go_big_quiet_step (first | exact qs (HN.out _) | exact qc (HD.out _)))
        refine wpQuiet_nil ?_
        rintro _ ⟨g1, rfl⟩
        go_wp2_with (fail)
        go_ret
        exact ⟨rfl, g1.h⟩
    · obtain rfl : k = l.length := by omega
      have hfin : VP l ↔ l.length ≤ 100 := by
        have h := HK.out
        rw [List.take_of_length_le (Nat.le_refl _)] at h
        exact ⟨fun g => g.2.1, fun g => ⟨h.1, g, h.2⟩⟩
      by_cases h100 : l.length ≤ 100
      · have hr : R = true := HR.out.2 (hfin.2 h100)
        subst hr
        have hle : (l.length : Int) ≤ 100 := by omega
        clear hfin
        go_wp2_with (fail)
        go_ret
        exact ⟨by simp; first | done | omega, g0.h⟩
      · have hr : R = false := by
          rw [← Bool.not_eq_true, HR.out]
          exact fun g => h100 (hfin.1 g)
        subst hr
        have hle : (100 : Int) < l.length := by omega
        clear hfin
        go_wp2_with (fail)
        go_ret
        exact ⟨by simp; first | done | omega, g0.h⟩
end Go.Proofs.Ytcamjoddaeefdaa
