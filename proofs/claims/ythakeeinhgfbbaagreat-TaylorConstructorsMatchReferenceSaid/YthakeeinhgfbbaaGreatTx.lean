/-
  Package poly: Valid.
-/
import Derived.Test.YthakeeinhgfbbaaGreatTw
namespace Go.Proofs.YthakeeinhgfbbaaGreat
open Go.ChangeShapes Go.WideShapes Go.ChangeAt Go.RowKit
set_option linter.unusedVariables false
set_option linter.unusedSimpArgs false
set_option maxRecDepth 100000

attribute [local irreducible] Calls
/-- The term at i keeps the rules. -/
def okT (l : List Tm) (i : Nat) : Prop := ∃ t, l[i]? = some t ∧ t.1 ≠ 0 ∧ degE t.2 ≤ 6 ∧ (0 < i → ∃ s, l[i - 1]? = some s ∧ cmpE s.2 t.2 < 0)
def allT (l : List Tm) (k : Nat) : Prop := ∀ i, i < k → okT l i
/-- A valid polynomial. -/
def VP (l : List Tm) : Prop := allT l l.length ∧ l.length ≤ 100 ∧ l.any noNum = false
theorem allT_next {l : List Tm} {k : Nat} (h : allT l k) (h1 : okT l k) : allT l (k + 1) := fun i hi => by
  by_cases e : i = k
  · subst e; exact h1
  · exact h i (by omega)
theorem vp_no {l : List Tm} {k : Nat} (hk : k < l.length) (h : ¬ okT l k) : ¬ VP l := fun g => h (g.1 k hk)
set_option maxHeartbeats 8000000 in
theorem pvalid_ok (v : Value) (l : List Tm) (R : Bool) (w : World) (hv : Tx w v l) (hl : ∀ t ∈ l, TV t) (hR : R = true ↔ VP l) :
    Calls Tryz.prog 51 #[v] w fun e w' => e = .returned (.bool R) ∧ Below w.heap.size w w' := by
  have h1 := hv.1
  unfold maxLen at h1
  obtain ⟨p, c, rfl⟩ := hv.cut
  have HV := Lib.hid hv
  have HL := Lib.hid hl
  have HR := Lib.hid hR
  clear hv hl hR
  go_enter Tryz.func51, Tryz.ntmps51
  go_wp2_with (fail)
  go_loopw [7] (fun i wr => ∃ k : Nat, i = .int .i64 k ∧ k ≤ l.length ∧ Hid (allT l k) ∧ ∃ g : Grown w, wr = g.w) (fun i _ => l.length - (intOf i).toNat)
  case atStart => exact ⟨0, rfl, Nat.zero_le _, Lib.hid (fun i hi => absurd hi (Nat.not_lt_zero _)), ⟨w, Below.refl _ _⟩, rfl⟩
  case round =>
    obtain ⟨k, rfl, hk, HK, g0, rfl⟩ := hrel
    by_cases hlt : k < l.length
    · have i1 : (k : Int) < l.length := by omega
      obtain ⟨x, hx⟩ : ∃ x, l[k]? = some x := ⟨_, List.getElem?_eq_getElem hlt⟩
      have tx := HL.out x (List.mem_of_getElem? hx)
      obtain ⟨ka, a0, a1, a2, a3, a4, a5, rfl⟩ := six_at tx
      obtain ⟨b, o, hp, hb, rda⟩ := HV.out.rd7 hx
      subst hp
      obtain ⟨fa0, fa1, fa2, fa3, fa4, fa5, fa6⟩ := rda g0
      have hX : Tx (g0.w.alloc (.cells #[.int .i64 ka, .int .u8 a0, .int .u8 a1, .int .u8 a2, .int .u8 a3, .int .u8 a4, .int .u8 a5] 63)) (.slice (some ⟨g0.w.heap.size, 0, none⟩) 1 1) [(ka, [a0, a1, a2, a3, a4, a5])] := tx_lit g0.w ka a0 a1 a2 a3 a4 a5
      obtain ⟨bb, oo, hpp, _, rdt⟩ := hX.rd7 (i := 0) rfl
      simp only [Option.some.injEq, Addr.mk.injEq, and_true] at hpp
      obtain ⟨rfl, rfl⟩ := hpp
      simp only [Nat.zero_mul, Nat.zero_add, Nat.add_zero] at rdt
      have ta0 := fun g => (rdt g).1
      have ta1 := fun g => (rdt g).2.1
      have ta2 := fun g => (rdt g).2.2.1
      have ta3 := fun g => (rdt g).2.2.2.1
      have ta4 := fun g => (rdt g).2.2.2.2.1
      have ta5 := fun g => (rdt g).2.2.2.2.2.1
      have ta6 := fun g => (rdt g).2.2.2.2.2.2
      have hba : Below g0.w.heap.size g0.w (g0.w.alloc (.cells #[.int .i64 ka, .int .u8 a0, .int .u8 a1, .int .u8 a2, .int .u8 a3, .int .u8 a4, .int .u8 a5] 63)) := (Below.refl _ _).alloc (Nat.le_refl _) _
      have HD := Lib.hid (fun w => degree_ok [a0, a1, a2, a3, a4, a5] w tx.1)
      rw [show valE [a0, a1, a2, a3, a4, a5] = .agg #[.int .u8 a0, .int .u8 a1, .int .u8 a2, .int .u8 a3, .int .u8 a4, .int .u8 a5] from rfl] at HD
      obtain ⟨D, hD⟩ : ∃ D, degE [a0, a1, a2, a3, a4, a5] = D := ⟨_, rfl⟩
      rw [hD] at HD
      have Hx := Lib.hid hx
      have HDD := Lib.hid hD
      have Ht := Lib.hid tx
      clear rda rdt hX hx hD tx
      by_cases hc : ka = 0
      · have hr : R = false := by
          rw [← Bool.not_eq_true, HR.out]
          refine vp_no hlt ?_
          rintro ⟨t, ht, g1, _⟩
          rw [Hx.out] at ht
          obtain rfl := Option.some.inj ht
          exact g1 hc
        subst hr
        have hc' : (ka == 0) = true := by simpa using hc
        clear hc
        go_wp2_with (fail)
        obtain ⟨W1, hW1⟩ : ∃ W, g0.w.alloc (.cells #[.int .i64 ka, .int .u8 a0, .int .u8 a1, .int .u8 a2, .int .u8 a3, .int .u8 a4, .int .u8 a5] 63) = W := ⟨_, rfl⟩
        rw [hW1] at hba ta0 ta1 ta2 ta3 ta4 ta5 ta6
        rw [hW1]
        clear hW1
        obtain ⟨gg0, hgg⟩ : ∃ g : Grown W1, W1 = g.w := ⟨⟨W1, Below.refl _ _⟩, rfl⟩
        rw [hgg]
        refine region_quiet' gg0 (by kernel_rfl) (by kernel_rfl) ?_
        repeat (go_big_quiet_step (first | exact qc (HD.out _) | exact qc (HO.out _)))
        refine wpQuiet_nil ?_
        rintro _ ⟨g1, rfl⟩
        go_wp2_with (fail)
        go_ret
        exact ⟨rfl, below_then g0.h (below_then hba g1.h)⟩
      · have hc' : (ka == 0) = false := by simpa using hc
        by_cases hd : 6 < D
        · have hr : R = false := by
            rw [← Bool.not_eq_true, HR.out]
            refine vp_no hlt ?_
            rintro ⟨t, ht, _, g1, _⟩
            rw [Hx.out] at ht
            obtain rfl := Option.some.inj ht
            dsimp only at g1
            rw [HDD.out] at g1
            omega
          subst hr
          go_wp2_with (fail)
          obtain ⟨W1, hW1⟩ : ∃ W, g0.w.alloc (.cells #[.int .i64 ka, .int .u8 a0, .int .u8 a1, .int .u8 a2, .int .u8 a3, .int .u8 a4, .int .u8 a5] 63) = W := ⟨_, rfl⟩
          rw [hW1] at hba ta0 ta1 ta2 ta3 ta4 ta5 ta6
          rw [hW1]
          clear hW1
          obtain ⟨gg0, hgg⟩ : ∃ g : Grown W1, W1 = g.w := ⟨⟨W1, Below.refl _ _⟩, rfl⟩
          rw [hgg]
          refine region_quiet' gg0 (by kernel_rfl) (by kernel_rfl) ?_
          repeat (go_big_quiet_step (first | exact qc (HD.out _) | exact qc (HO.out _)))
          refine wpQuiet_nil ?_
          rintro _ ⟨g1, rfl⟩
          go_wp2_with (fail)
          go_ret
          exact ⟨rfl, below_then g0.h (below_then hba g1.h)⟩
        · have hd' : D ≤ 6 := by omega
          have hd2 : decide (6 < D) = false := by simpa using hd'
          by_cases hk0 : k = 0
          · subst hk0
            have HN2 : Hid (allT l (0 + 1)) := Lib.hid (allT_next HK.out ⟨_, Hx.out, hc, by dsimp only; rw [HDD.out]; exact hd', fun h => absurd h (Nat.lt_irrefl _)⟩)
            simp only [Nat.zero_mul, Nat.add_zero, Nat.zero_add] at fa0 fa1 fa2 fa3 fa4 fa5 fa6
            rw [show ((0 : Nat) : Int) = 0 from rfl] at *
            go_wp2_with (fail)
            obtain ⟨W1, hW1⟩ : ∃ W, g0.w.alloc (.cells #[.int .i64 ka, .int .u8 a0, .int .u8 a1, .int .u8 a2, .int .u8 a3, .int .u8 a4, .int .u8 a5] 63) = W := ⟨_, rfl⟩
            rw [hW1] at hba ta0 ta1 ta2 ta3 ta4 ta5 ta6
            rw [hW1]
            clear hW1
            obtain ⟨gg0, hgg⟩ : ∃ g : Grown W1, W1 = g.w := ⟨⟨W1, Below.refl _ _⟩, rfl⟩
            rw [hgg]
            refine region_quiet' gg0 (by kernel_rfl) (by kernel_rfl) ?_
            repeat (go_big_quiet_step (first | exact qc (HD.out _) | exact qc (HO.out _)))
            refine wpQuiet_nil ?_
            rintro _ ⟨g1, rfl⟩
            go_wp2_with (fail)
            go_roundw
            case rel => exact ⟨0 + 1, by go_num, by omega, HN2, ⟨g1.w, below_then g0.h (below_then hba g1.h)⟩, rfl⟩
            case measure => simp [intOf]; omega
          · have hk1 : (0 : Int) < (k : Int) := by omega
            obtain ⟨j, rfl⟩ : ∃ j, k = j + 1 := ⟨k - 1, by omega⟩
            obtain ⟨y, hy⟩ : ∃ y, l[j]? = some y := ⟨_, List.getElem?_eq_getElem (by omega)⟩
            have ty := HL.out y (List.mem_of_getElem? hy)
            obtain ⟨kb, b0, b1, b2, b3, b4, b5, rfl⟩ := six_at ty
            obtain ⟨b', o', hp', hb', rdb⟩ := HV.out.rd7 hy
            simp only [Option.some.injEq, Addr.mk.injEq, and_true] at hp'
            obtain ⟨rfl, rfl⟩ := hp'
            have fb0 := fun g : Grown w => (rdb g).1
            have fb1 := fun g : Grown w => (rdb g).2.1
            have fb2 := fun g : Grown w => (rdb g).2.2.1
            have fb3 := fun g : Grown w => (rdb g).2.2.2.1
            have fb4 := fun g : Grown w => (rdb g).2.2.2.2.1
            have fb5 := fun g : Grown w => (rdb g).2.2.2.2.2.1
            have fb6 := fun g : Grown w => (rdb g).2.2.2.2.2.2
            have ej : IntKind.i64.wrap (((j + 1 : Nat) : Int) - 1) = (j : Int) := by rw [show ((j + 1 : Nat) : Int) - 1 = (j : Int) by omega]; exact wrap_i64 _ (by omega) (by omega)
            have ej2 : IntKind.i64.wrap ((j : Int) + 1 - 1) = (j : Int) := by rw [show (j : Int) + 1 - 1 = (j : Int) by omega]; exact wrap_i64 _ (by omega) (by omega)
            have ej3 : IntKind.i64.wrap (j : Int) = (j : Int) := wrap_i64 _ (by omega) (by omega)
            have ij : (j : Int) < (l.length : Int) := by omega
            have ij0 : (0 : Int) ≤ (j : Int) := by omega
            have hk2 : decide (0 < (j : Int) + 1) = true := decide_eq_true (by omega)
            have HO := Lib.hid (fun w => compare_ok [b0, b1, b2, b3, b4, b5] [a0, a1, a2, a3, a4, a5] w ty.1 Ht.out.1)
            rw [show valE [a0, a1, a2, a3, a4, a5] = .agg #[.int .u8 a0, .int .u8 a1, .int .u8 a2, .int .u8 a3, .int .u8 a4, .int .u8 a5] from rfl, show valE [b0, b1, b2, b3, b4, b5] = .agg #[.int .u8 b0, .int .u8 b1, .int .u8 b2, .int .u8 b3, .int .u8 b4, .int .u8 b5] from rfl] at HO
            obtain ⟨C, hC⟩ : ∃ C, cmpE [b0, b1, b2, b3, b4, b5] [a0, a1, a2, a3, a4, a5] = C := ⟨_, rfl⟩
            rw [hC] at HO
            have Hy := Lib.hid hy
            have HCC := Lib.hid hC
            clear hy hC rdb ty
            by_cases h0 : C < 0
            · have HN2 : Hid (allT l (j + 1 + 1)) := Lib.hid (allT_next HK.out ⟨_, Hx.out, hc, by dsimp only; rw [HDD.out]; exact hd', fun h => ⟨_, Hy.out, by dsimp only; rw [HCC.out]; exact h0⟩⟩)
              go_wp2_with (fail)
              obtain ⟨W1, hW1⟩ : ∃ W, g0.w.alloc (.cells #[.int .i64 ka, .int .u8 a0, .int .u8 a1, .int .u8 a2, .int .u8 a3, .int .u8 a4, .int .u8 a5] 63) = W := ⟨_, rfl⟩
              rw [hW1] at hba ta0 ta1 ta2 ta3 ta4 ta5 ta6
              rw [hW1]
              clear hW1
              obtain ⟨gg0, hgg⟩ : ∃ g : Grown W1, W1 = g.w := ⟨⟨W1, Below.refl _ _⟩, rfl⟩
              have tb0 := fun g : Grown W1 => fb0 ⟨g.w, below_then g0.h (below_then hba g.h)⟩
              have tb1 := fun g : Grown W1 => fb1 ⟨g.w, below_then g0.h (below_then hba g.h)⟩
              have tb2 := fun g : Grown W1 => fb2 ⟨g.w, below_then g0.h (below_then hba g.h)⟩
              have tb3 := fun g : Grown W1 => fb3 ⟨g.w, below_then g0.h (below_then hba g.h)⟩
              have tb4 := fun g : Grown W1 => fb4 ⟨g.w, below_then g0.h (below_then hba g.h)⟩
              have tb5 := fun g : Grown W1 => fb5 ⟨g.w, below_then g0.h (below_then hba g.h)⟩
              have tb6 := fun g : Grown W1 => fb6 ⟨g.w, below_then g0.h (below_then hba g.h)⟩
              dsimp only at tb0 tb1 tb2 tb3 tb4 tb5 tb6
              rw [hgg]
              refine region_quiet' gg0 (by kernel_rfl) (by kernel_rfl) ?_
              repeat (go_big_quiet_step (first | exact qc (HD.out _) | exact qc (HO.out _)))
              refine wpQuiet_nil ?_
              rintro _ ⟨g1, rfl⟩
              go_wp2_with (fail)
              go_roundw
              case rel => exact ⟨j + 1 + 1, by go_num, by omega, HN2, ⟨g1.w, below_then g0.h (below_then hba g1.h)⟩, rfl⟩
              case measure => simp [intOf]; omega
            · have h0' : 0 ≤ C := by omega
              have hr : R = false := by
                rw [← Bool.not_eq_true, HR.out]
                refine vp_no hlt ?_
                rintro ⟨t, ht, _, _, g1⟩
                rw [Hx.out] at ht
                obtain rfl := Option.some.inj ht
                obtain ⟨s, hs, g2⟩ := g1 (by omega)
                rw [Nat.add_sub_cancel, Hy.out] at hs
                obtain rfl := Option.some.inj hs
                dsimp only at g2
                rw [HCC.out] at g2
                omega
              subst hr
              go_wp2_with (fail)
              obtain ⟨W1, hW1⟩ : ∃ W, g0.w.alloc (.cells #[.int .i64 ka, .int .u8 a0, .int .u8 a1, .int .u8 a2, .int .u8 a3, .int .u8 a4, .int .u8 a5] 63) = W := ⟨_, rfl⟩
              rw [hW1] at hba ta0 ta1 ta2 ta3 ta4 ta5 ta6
              rw [hW1]
              clear hW1
              obtain ⟨gg0, hgg⟩ : ∃ g : Grown W1, W1 = g.w := ⟨⟨W1, Below.refl _ _⟩, rfl⟩
              have tb0 := fun g : Grown W1 => fb0 ⟨g.w, below_then g0.h (below_then hba g.h)⟩
              have tb1 := fun g : Grown W1 => fb1 ⟨g.w, below_then g0.h (below_then hba g.h)⟩
              have tb2 := fun g : Grown W1 => fb2 ⟨g.w, below_then g0.h (below_then hba g.h)⟩
              have tb3 := fun g : Grown W1 => fb3 ⟨g.w, below_then g0.h (below_then hba g.h)⟩
              have tb4 := fun g : Grown W1 => fb4 ⟨g.w, below_then g0.h (below_then hba g.h)⟩
              have tb5 := fun g : Grown W1 => fb5 ⟨g.w, below_then g0.h (below_then hba g.h)⟩
              have tb6 := fun g : Grown W1 => fb6 ⟨g.w, below_then g0.h (below_then hba g.h)⟩
              dsimp only at tb0 tb1 tb2 tb3 tb4 tb5 tb6
              rw [hgg]
              refine region_quiet' gg0 (by kernel_rfl) (by kernel_rfl) ?_
              repeat (go_big_quiet_step (first | exact qc (HD.out _) | exact qc (HO.out _)))
              refine wpQuiet_nil ?_
              rintro _ ⟨g1, rfl⟩
              go_wp2_with (fail)
              go_ret
              exact ⟨rfl, below_then g0.h (below_then hba g1.h)⟩
    · obtain rfl : k = l.length := by omega
      by_cases h100 : l.length ≤ 100
      · have i100 : (l.length : Int) ≤ 100 := by omega
        have HC := Lib.hid (fun g : Grown w => nums_ok _ l g.w (HV.out.grow g.h) HL.out)
        have hr : (!l.any noNum) = R := by
          have h := HR.out
          unfold VP at h
          have a1 := HK.out
          cases hb : l.any noNum <;> cases hR : R <;> simp_all
        rw [hr] at HC
        have HC2 := Lib.hid (HC.out g0)
        go_wp2_with (fail)
        refine HC2.out.mono ?_
        rintro e w5 ⟨rfl, hB5⟩
        go_wp2_with (fail)
        go_ret
        exact ⟨rfl, below_then g0.h hB5⟩
      · have i100 : (100 : Int) < (l.length : Int) := by omega
        have hr : R = false := by
          rw [← Bool.not_eq_true, HR.out]
          exact fun h => h100 h.2.1
        subst hr
        go_wp2_with (fail)
        go_ret
        exact ⟨rfl, g0.h⟩
end Go.Proofs.YthakeeinhgfbbaaGreat
