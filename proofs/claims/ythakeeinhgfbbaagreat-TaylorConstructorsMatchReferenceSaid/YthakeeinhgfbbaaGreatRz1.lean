/-
  The reference's TermRange, Degree, Const, Range.
  The reference's finish.
  The reference's Truncate.
  The reference's Range.
  The reference's Var.
-/
import Derived.Test.YthakeeinhgfbbaaGreatTA
import Derived.Test.YthakeeinhgfbbaaGreatRg
namespace Go.Proofs.YthakeeinhgfbbaaGreat
open Go.ChangeShapes Go.WideShapes Go.ChangeAt Go.RowKit
set_option linter.unusedVariables false
set_option linter.unusedSimpArgs false
set_option maxRecDepth 100000

attribute [local irreducible] Calls
set_option maxHeartbeats 8000000 in
theorem rtr_ok (c a0 a1 a2 a3 a4 a5 : Int) (w : World) (he : EV [a0, a1, a2, a3, a4, a5]) (hc : Num c) :
    Calls Tryz.prog 109 #[.int .i64 c, .agg #[.int .u8 a0, .int .u8 a1, .int .u8 a2, .int .u8 a3, .int .u8 a4, .int .u8 a5]] w fun e w' => e = .returned (.tuple #[.int .i64 (trg (c, [a0, a1, a2, a3, a4, a5])).1, .int .i64 (trg (c, [a0, a1, a2, a3, a4, a5])).2]) ∧ Below w.heap.size w w' := by
  have HD := Lib.hid (fun w => r5deg [a0, a1, a2, a3, a4, a5] w he)
  rw [show valE [a0, a1, a2, a3, a4, a5] = .agg #[.int .u8 a0, .int .u8 a1, .int .u8 a2, .int .u8 a3, .int .u8 a4, .int .u8 a5] from rfl] at HD
  have hb := he.2
  simp only [List.mem_cons, List.not_mem_nil, or_false, forall_eq_or_imp, forall_eq] at hb
  obtain ⟨b0, b1, b2, b3, b4, b5⟩ := hb
  have hc' := hc
  unfold Num at hc'
  have hev : evenE [a0, a1, a2, a3, a4, a5] = true ↔ a0 % 2 = 0 ∧ a1 % 2 = 0 ∧ a2 % 2 = 0 ∧ a3 % 2 = 0 ∧ a4 % 2 = 0 ∧ a5 % 2 = 0 := by simp [evenE]
  obtain ⟨R, hR⟩ : ∃ R, trg (c, [a0, a1, a2, a3, a4, a5]) = R := ⟨_, rfl⟩
  rw [hR]
  have hR' := hR
  unfold trg at hR'
  dsimp only at hR'
  obtain ⟨D, hD⟩ : ∃ D, degE [a0, a1, a2, a3, a4, a5] = D := ⟨_, rfl⟩
  rw [hD] at HD hR'
  obtain ⟨r0, r1⟩ := R
  have P0 : ByB (w.alloc (.cells #[.int .u8 a0, .int .u8 a1, .int .u8 a2, .int .u8 a3, .int .u8 a4, .int .u8 a5] 61)) w.heap.size [a0, a1, a2, a3, a4, a5] := World.alloc_heap_new w _
  have hB0 : Below w.heap.size w (w.alloc (.cells #[.int .u8 a0, .int .u8 a1, .int .u8 a2, .int .u8 a3, .int .u8 a4, .int .u8 a5] 61)) := (Below.refl _ _).alloc (Nat.le_refl _) _
  have x0 := P0.cell (k := 0) rfl
  have x1 := P0.cell (k := 1) rfl
  have x2 := P0.cell (k := 2) rfl
  have x3 := P0.cell (k := 3) rfl
  have x4 := P0.cell (k := 4) rfl
  have x5 := P0.cell (k := 5) rfl
  have HP := Lib.hid P0
  have WN : IntKind.i64.wrap (-c) = -c := wrap_i64 _ (by omega) (by omega)
  clear P0 hR hD he
  by_cases h0 : D = 0
  · rw [if_pos h0] at hR'
    simp only [Prod.mk.injEq] at hR'
    obtain ⟨rfl, rfl⟩ := hR'
    subst h0
    clear hev
    go_enter Tryz.func109, Tryz.ntmps109
    go_wp2_with (fail)
    refine (HD.out _).mono ?_
    rintro e w1 ⟨rfl, h1⟩
    clear x0 x1 x2 x3 x4 x5
    go_wp2_with (fail)
    exact bodyPost_ret (v := .tuple #[.int .i64 c, .int .i64 c]) (by simp [results, Tryz.results109, go_sem]) rfl ⟨rfl, below_then hB0 h1⟩
  · rw [if_neg h0] at hR'
    have hd : (D == 0) = false := by simpa using h0
    clear h0
    have HR := Lib.hid hR'
    have HE := Lib.hid hev
    clear hR' hev
    go_enter Tryz.func109, Tryz.ntmps109
    go_wp2_with (fail)
    refine (HD.out _).mono ?_
    rintro e w1 ⟨rfl, h1⟩
    clear x0 x1 x2 x3 x4 x5
    go_wp2_with (fail)
    go_loopw [6] (fun i wr => ∃ k : Nat, i = .int .i64 k ∧ k ≤ 6 ∧ Hid (∀ j x, j < k → ([a0, a1, a2, a3, a4, a5] : List Int)[j]? = some x → x % 2 = 0) ∧ wr = w1) (fun i _ => 6 - (intOf i).toNat)
    case atStart => exact ⟨0, rfl, by decide, Lib.hid (fun j x h => absurd h (Nat.not_lt_zero _)), rfl⟩
    case round =>
      obtain ⟨k, rfl, hk, HK, rfl⟩ := hrel
      have HQ := Lib.hid (HP.out.grow h1)
      rcases (show k = 0 ∨ k = 1 ∨ k = 2 ∨ k = 3 ∨ k = 4 ∨ k = 5 ∨ k = 6 by omega) with rfl | rfl | rfl | rfl | rfl | rfl | rfl
      · have y := HQ.out.cell (k := 0) rfl
        have tm : a0.tmod 2 = a0 % 2 := Int.tmod_eq_emod_of_nonneg b0.1
        by_cases ho : a0 % 2 = 1
        · have ht : (a0 % 2 == 1) = true := by simpa using ho
          have hr := HR.out
          rw [if_neg (fun q => by have := HE.out.1 q; omega)] at hr
          simp only [Prod.mk.injEq] at hr
          have e0 : min c (-c) = r0 := by omega
          have e1 : max c (-c) = r1 := by omega
          clear ho hr
          rcases Int.lt_trichotomy c 0 with hs | hs | hs
          · have s1 : ¬ -c < c := by omega
            have s2 : c < -c := by omega
            obtain rfl : c = r0 := by omega
            obtain rfl : -c = r1 := by omega
            clear e0 e1
            go_wp2_with (fail)
            exact bodyPost_ret (v := .tuple #[.int .i64 c, .int .i64 (-c)]) (by simp [results, Tryz.results109, go_sem]) rfl ⟨rfl, below_then hB0 h1⟩
          · subst hs
            obtain rfl : 0 = r0 := by omega
            obtain rfl : 0 = r1 := by omega
            clear e0 e1
            go_wp2_with (fail)
            exact bodyPost_ret (v := .tuple #[.int .i64 0, .int .i64 0]) (by simp [results, Tryz.results109, go_sem]) rfl ⟨rfl, below_then hB0 h1⟩
          · have s1 : -c < c := by omega
            have s2 : ¬ c < -c := by omega
            obtain rfl : -c = r0 := by omega
            obtain rfl : c = r1 := by omega
            clear e0 e1
            go_wp2_with (fail)
            exact bodyPost_ret (v := .tuple #[.int .i64 (-c), .int .i64 c]) (by simp [results, Tryz.results109, go_sem]) rfl ⟨rfl, below_then hB0 h1⟩
        · have ht : (a0 % 2 == 1) = false := by simpa using ho
          have HK2 : Hid (∀ j x, j < 1 → ([a0, a1, a2, a3, a4, a5] : List Int)[j]? = some x → x % 2 = 0) := Lib.hid (fun j x hj hx => by
            by_cases q : j < 0
            · exact HK.out j x q hx
            · obtain rfl : j = 0 := by omega
              obtain rfl : a0 = x := by simpa using hx
              omega)
          clear ho
          go_wp2_with (fail)
          exact ⟨⟨1, rfl, by decide, HK2, by trivial⟩, by simp [intOf]⟩
      · have y := HQ.out.cell (k := 1) rfl
        have tm : a1.tmod 2 = a1 % 2 := Int.tmod_eq_emod_of_nonneg b1.1
        by_cases ho : a1 % 2 = 1
        · have ht : (a1 % 2 == 1) = true := by simpa using ho
          have hr := HR.out
          rw [if_neg (fun q => by have := HE.out.1 q; omega)] at hr
          simp only [Prod.mk.injEq] at hr
          have e0 : min c (-c) = r0 := by omega
          have e1 : max c (-c) = r1 := by omega
          clear ho hr
          rcases Int.lt_trichotomy c 0 with hs | hs | hs
          · have s1 : ¬ -c < c := by omega
            have s2 : c < -c := by omega
            obtain rfl : c = r0 := by omega
            obtain rfl : -c = r1 := by omega
            clear e0 e1
            go_wp2_with (fail)
            exact bodyPost_ret (v := .tuple #[.int .i64 c, .int .i64 (-c)]) (by simp [results, Tryz.results109, go_sem]) rfl ⟨rfl, below_then hB0 h1⟩
          · subst hs
            obtain rfl : 0 = r0 := by omega
            obtain rfl : 0 = r1 := by omega
            clear e0 e1
            go_wp2_with (fail)
            exact bodyPost_ret (v := .tuple #[.int .i64 0, .int .i64 0]) (by simp [results, Tryz.results109, go_sem]) rfl ⟨rfl, below_then hB0 h1⟩
          · have s1 : -c < c := by omega
            have s2 : ¬ c < -c := by omega
            obtain rfl : -c = r0 := by omega
            obtain rfl : c = r1 := by omega
            clear e0 e1
            go_wp2_with (fail)
            exact bodyPost_ret (v := .tuple #[.int .i64 (-c), .int .i64 c]) (by simp [results, Tryz.results109, go_sem]) rfl ⟨rfl, below_then hB0 h1⟩
        · have ht : (a1 % 2 == 1) = false := by simpa using ho
          have HK2 : Hid (∀ j x, j < 2 → ([a0, a1, a2, a3, a4, a5] : List Int)[j]? = some x → x % 2 = 0) := Lib.hid (fun j x hj hx => by
            by_cases q : j < 1
            · exact HK.out j x q hx
            · obtain rfl : j = 1 := by omega
              obtain rfl : a1 = x := by simpa using hx
              omega)
          clear ho
          go_wp2_with (fail)
          exact ⟨⟨2, rfl, by decide, HK2, by trivial⟩, by simp [intOf]⟩
      · have y := HQ.out.cell (k := 2) rfl
        have tm : a2.tmod 2 = a2 % 2 := Int.tmod_eq_emod_of_nonneg b2.1
        by_cases ho : a2 % 2 = 1
        · have ht : (a2 % 2 == 1) = true := by simpa using ho
          have hr := HR.out
          rw [if_neg (fun q => by have := HE.out.1 q; omega)] at hr
          simp only [Prod.mk.injEq] at hr
          have e0 : min c (-c) = r0 := by omega
          have e1 : max c (-c) = r1 := by omega
          clear ho hr
          rcases Int.lt_trichotomy c 0 with hs | hs | hs
          · have s1 : ¬ -c < c := by omega
            have s2 : c < -c := by omega
            obtain rfl : c = r0 := by omega
            obtain rfl : -c = r1 := by omega
            clear e0 e1
            go_wp2_with (fail)
            exact bodyPost_ret (v := .tuple #[.int .i64 c, .int .i64 (-c)]) (by simp [results, Tryz.results109, go_sem]) rfl ⟨rfl, below_then hB0 h1⟩
          · subst hs
            obtain rfl : 0 = r0 := by omega
            obtain rfl : 0 = r1 := by omega
            clear e0 e1
            go_wp2_with (fail)
            exact bodyPost_ret (v := .tuple #[.int .i64 0, .int .i64 0]) (by simp [results, Tryz.results109, go_sem]) rfl ⟨rfl, below_then hB0 h1⟩
          · have s1 : -c < c := by omega
            have s2 : ¬ c < -c := by omega
            obtain rfl : -c = r0 := by omega
            obtain rfl : c = r1 := by omega
            clear e0 e1
            go_wp2_with (fail)
            exact bodyPost_ret (v := .tuple #[.int .i64 (-c), .int .i64 c]) (by simp [results, Tryz.results109, go_sem]) rfl ⟨rfl, below_then hB0 h1⟩
        · have ht : (a2 % 2 == 1) = false := by simpa using ho
          have HK2 : Hid (∀ j x, j < 3 → ([a0, a1, a2, a3, a4, a5] : List Int)[j]? = some x → x % 2 = 0) := Lib.hid (fun j x hj hx => by
            by_cases q : j < 2
            · exact HK.out j x q hx
            · obtain rfl : j = 2 := by omega
              obtain rfl : a2 = x := by simpa using hx
              omega)
          clear ho
          go_wp2_with (fail)
          exact ⟨⟨3, rfl, by decide, HK2, by trivial⟩, by simp [intOf]⟩
      · have y := HQ.out.cell (k := 3) rfl
        have tm : a3.tmod 2 = a3 % 2 := Int.tmod_eq_emod_of_nonneg b3.1
        by_cases ho : a3 % 2 = 1
        · have ht : (a3 % 2 == 1) = true := by simpa using ho
          have hr := HR.out
          rw [if_neg (fun q => by have := HE.out.1 q; omega)] at hr
          simp only [Prod.mk.injEq] at hr
          have e0 : min c (-c) = r0 := by omega
          have e1 : max c (-c) = r1 := by omega
          clear ho hr
          rcases Int.lt_trichotomy c 0 with hs | hs | hs
          · have s1 : ¬ -c < c := by omega
            have s2 : c < -c := by omega
            obtain rfl : c = r0 := by omega
            obtain rfl : -c = r1 := by omega
            clear e0 e1
            go_wp2_with (fail)
            exact bodyPost_ret (v := .tuple #[.int .i64 c, .int .i64 (-c)]) (by simp [results, Tryz.results109, go_sem]) rfl ⟨rfl, below_then hB0 h1⟩
          · subst hs
            obtain rfl : 0 = r0 := by omega
            obtain rfl : 0 = r1 := by omega
            clear e0 e1
            go_wp2_with (fail)
            exact bodyPost_ret (v := .tuple #[.int .i64 0, .int .i64 0]) (by simp [results, Tryz.results109, go_sem]) rfl ⟨rfl, below_then hB0 h1⟩
          · have s1 : -c < c := by omega
            have s2 : ¬ c < -c := by omega
            obtain rfl : -c = r0 := by omega
            obtain rfl : c = r1 := by omega
            clear e0 e1
            go_wp2_with (fail)
            exact bodyPost_ret (v := .tuple #[.int .i64 (-c), .int .i64 c]) (by simp [results, Tryz.results109, go_sem]) rfl ⟨rfl, below_then hB0 h1⟩
        · have ht : (a3 % 2 == 1) = false := by simpa using ho
          have HK2 : Hid (∀ j x, j < 4 → ([a0, a1, a2, a3, a4, a5] : List Int)[j]? = some x → x % 2 = 0) := Lib.hid (fun j x hj hx => by
            by_cases q : j < 3
            · exact HK.out j x q hx
            · obtain rfl : j = 3 := by omega
              obtain rfl : a3 = x := by simpa using hx
              omega)
          clear ho
          go_wp2_with (fail)
          exact ⟨⟨4, rfl, by decide, HK2, by trivial⟩, by simp [intOf]⟩
      · have y := HQ.out.cell (k := 4) rfl
        have tm : a4.tmod 2 = a4 % 2 := Int.tmod_eq_emod_of_nonneg b4.1
        by_cases ho : a4 % 2 = 1
        · have ht : (a4 % 2 == 1) = true := by simpa using ho
          have hr := HR.out
          rw [if_neg (fun q => by have := HE.out.1 q; omega)] at hr
          simp only [Prod.mk.injEq] at hr
          have e0 : min c (-c) = r0 := by omega
          have e1 : max c (-c) = r1 := by omega
          clear ho hr
          rcases Int.lt_trichotomy c 0 with hs | hs | hs
          · have s1 : ¬ -c < c := by omega
            have s2 : c < -c := by omega
            obtain rfl : c = r0 := by omega
            obtain rfl : -c = r1 := by omega
            clear e0 e1
            go_wp2_with (fail)
            exact bodyPost_ret (v := .tuple #[.int .i64 c, .int .i64 (-c)]) (by simp [results, Tryz.results109, go_sem]) rfl ⟨rfl, below_then hB0 h1⟩
          · subst hs
            obtain rfl : 0 = r0 := by omega
            obtain rfl : 0 = r1 := by omega
            clear e0 e1
            go_wp2_with (fail)
            exact bodyPost_ret (v := .tuple #[.int .i64 0, .int .i64 0]) (by simp [results, Tryz.results109, go_sem]) rfl ⟨rfl, below_then hB0 h1⟩
          · have s1 : -c < c := by omega
            have s2 : ¬ c < -c := by omega
            obtain rfl : -c = r0 := by omega
            obtain rfl : c = r1 := by omega
            clear e0 e1
            go_wp2_with (fail)
            exact bodyPost_ret (v := .tuple #[.int .i64 (-c), .int .i64 c]) (by simp [results, Tryz.results109, go_sem]) rfl ⟨rfl, below_then hB0 h1⟩
        · have ht : (a4 % 2 == 1) = false := by simpa using ho
          have HK2 : Hid (∀ j x, j < 5 → ([a0, a1, a2, a3, a4, a5] : List Int)[j]? = some x → x % 2 = 0) := Lib.hid (fun j x hj hx => by
            by_cases q : j < 4
            · exact HK.out j x q hx
            · obtain rfl : j = 4 := by omega
              obtain rfl : a4 = x := by simpa using hx
              omega)
          clear ho
          go_wp2_with (fail)
          exact ⟨⟨5, rfl, by decide, HK2, by trivial⟩, by simp [intOf]⟩
      · have y := HQ.out.cell (k := 5) rfl
        have tm : a5.tmod 2 = a5 % 2 := Int.tmod_eq_emod_of_nonneg b5.1
        by_cases ho : a5 % 2 = 1
        · have ht : (a5 % 2 == 1) = true := by simpa using ho
          have hr := HR.out
          rw [if_neg (fun q => by have := HE.out.1 q; omega)] at hr
          simp only [Prod.mk.injEq] at hr
          have e0 : min c (-c) = r0 := by omega
          have e1 : max c (-c) = r1 := by omega
          clear ho hr
          rcases Int.lt_trichotomy c 0 with hs | hs | hs
          · have s1 : ¬ -c < c := by omega
            have s2 : c < -c := by omega
            obtain rfl : c = r0 := by omega
            obtain rfl : -c = r1 := by omega
            clear e0 e1
            go_wp2_with (fail)
            exact bodyPost_ret (v := .tuple #[.int .i64 c, .int .i64 (-c)]) (by simp [results, Tryz.results109, go_sem]) rfl ⟨rfl, below_then hB0 h1⟩
          · subst hs
            obtain rfl : 0 = r0 := by omega
            obtain rfl : 0 = r1 := by omega
            clear e0 e1
            go_wp2_with (fail)
            exact bodyPost_ret (v := .tuple #[.int .i64 0, .int .i64 0]) (by simp [results, Tryz.results109, go_sem]) rfl ⟨rfl, below_then hB0 h1⟩
          · have s1 : -c < c := by omega
            have s2 : ¬ c < -c := by omega
            obtain rfl : -c = r0 := by omega
            obtain rfl : c = r1 := by omega
            clear e0 e1
            go_wp2_with (fail)
            exact bodyPost_ret (v := .tuple #[.int .i64 (-c), .int .i64 c]) (by simp [results, Tryz.results109, go_sem]) rfl ⟨rfl, below_then hB0 h1⟩
        · have ht : (a5 % 2 == 1) = false := by simpa using ho
          have HK2 : Hid (∀ j x, j < 6 → ([a0, a1, a2, a3, a4, a5] : List Int)[j]? = some x → x % 2 = 0) := Lib.hid (fun j x hj hx => by
            by_cases q : j < 5
            · exact HK.out j x q hx
            · obtain rfl : j = 5 := by omega
              obtain rfl : a5 = x := by simpa using hx
              omega)
          clear ho
          go_wp2_with (fail)
          exact ⟨⟨6, rfl, by decide, HK2, by trivial⟩, by simp [intOf]⟩
      · have hr := HR.out
        rw [if_pos (HE.out.2 ⟨HK.out 0 _ (by decide) rfl, HK.out 1 _ (by decide) rfl, HK.out 2 _ (by decide) rfl, HK.out 3 _ (by decide) rfl, HK.out 4 _ (by decide) rfl, HK.out 5 _ (by decide) rfl⟩)] at hr
        simp only [Prod.mk.injEq] at hr
        rw [show ((6 : Nat) : Int) = 6 from rfl]
        rcases Int.lt_trichotomy c 0 with hs | hs | hs
        · have s1 : ¬ 0 < c := by omega
          obtain rfl : c = r0 := by omega
          obtain rfl : 0 = r1 := by omega
          clear hr
          go_wp2_with (fail)
          exact bodyPost_ret (v := .tuple #[.int .i64 c, .int .i64 0]) (by simp [results, Tryz.results109, go_sem]) rfl ⟨rfl, below_then hB0 h1⟩
        · subst hs
          obtain rfl : 0 = r0 := by omega
          obtain rfl : 0 = r1 := by omega
          clear hr
          go_wp2_with (fail)
          exact bodyPost_ret (v := .tuple #[.int .i64 0, .int .i64 0]) (by simp [results, Tryz.results109, go_sem]) rfl ⟨rfl, below_then hB0 h1⟩
        · have s1 : ¬ c < 0 := by omega
          obtain rfl : 0 = r0 := by omega
          obtain rfl : c = r1 := by omega
          clear hr
          go_wp2_with (fail)
          exact bodyPost_ret (v := .tuple #[.int .i64 0, .int .i64 c]) (by simp [results, Tryz.results109, go_sem]) rfl ⟨rfl, below_then hB0 h1⟩
theorem rconst_ok (c : Int) (w : World) :
    Calls Tryz.prog 78 #[.int .i64 c] w fun e w' => ∃ u, e = .returned u ∧ Tx w' u (constT c) ∧ Below w.heap.size w w' := by
  unfold constT
  by_cases h : c = 0
  · rw [if_pos h]
    have hd : (c == 0) = true := by simpa using h
    clear h
    go_enter Tryz.func78, Tryz.ntmps78
    go_wp2_with (fail)
    go_ret
    exact ⟨_, rfl, Tx.nil _ _ _, by go_grown⟩
  · rw [if_neg h]
    have hd : (c == 0) = false := by simpa using h
    clear h
    go_enter Tryz.func78, Tryz.ntmps78
    go_wp2_with (fail)
    go_ret
    exact ⟨_, rfl, tx_lit w c 0 0 0 0 0 0, by go_grown⟩
set_option maxHeartbeats 4000000 in
theorem rdegree_ok (v : Value) (l : List Tm) (w : World) (hv : Tx w v l) (ht : ∀ t ∈ l, TV t) :
    Calls Tryz.prog 46 #[v] w fun e w' => e = .returned (.int .i64 (degP l)) ∧ Below w.heap.size w w' := by
  have h1 := hv.1
  unfold maxLen at h1
  obtain ⟨p, c, rfl⟩ := hv.cut
  have HV := Lib.hid hv
  have HL := Lib.hid ht
  clear hv ht
  go_enter Tryz.func46, Tryz.ntmps46
  go_wp2_with (fail)
  go_loopw [3, 4] (fun u i wr => ∃ k : Nat, u = .int .i64 (degP (l.take k)) ∧ i = .int .i64 k ∧ k ≤ l.length ∧ ∃ g : Grown w, wr = g.w) (fun _ i _ => l.length - (intOf i).toNat)
  case atStart => exact ⟨0, rfl, rfl, Nat.zero_le _, ⟨w, Below.refl _ _⟩, rfl⟩
  case round =>
    obtain ⟨k, rfl, rfl, hk, g0, rfl⟩ := hrel
    by_cases hlt : k < l.length
    · have i1 : (k : Int) < l.length := by omega
      obtain ⟨x, hx⟩ : ∃ x, l[k]? = some x := ⟨_, List.getElem?_eq_getElem hlt⟩
      have tx := HL.out x (List.mem_of_getElem? hx)
      have hsn := degP_snoc hx
      obtain ⟨ka, a0, a1, a2, a3, a4, a5, rfl⟩ := six_at tx
      obtain ⟨b, o, hp, hb, rda⟩ := HV.out.rd7 hx
      subst hp
      obtain ⟨fa0, fa1, fa2, fa3, fa4, fa5, fa6⟩ := rda g0
      have HD := Lib.hid (fun w => r5deg [a0, a1, a2, a3, a4, a5] w tx.1)
      rw [show valE [a0, a1, a2, a3, a4, a5] = .agg #[.int .u8 a0, .int .u8 a1, .int .u8 a2, .int .u8 a3, .int .u8 a4, .int .u8 a5] from rfl] at HD
      dsimp only at hsn
      have HS := Lib.hid hsn
      clear rda hx hsn tx
      go_wp2_with (fail)
      refine (HD.out _).mono ?_
      rintro _ w3 ⟨rfl, hb3⟩
      obtain ⟨g3, hg3⟩ : ∃ g : Grown w, w3 = g.w := grow g0 hb3
      clear hb3 fa0 fa1 fa2 fa3 fa4 fa5 fa6
      subst hg3
      go_wp2_with (fail)
      exact ⟨⟨k + 1, by rw [HS.out]; congr 1; omega, by go_num, by omega, g3, rfl⟩, by simp [intOf]; omega⟩
    · obtain rfl : k = l.length := by omega
      have i1 : ¬ (l.length : Int) < l.length := by omega
      rw [List.take_length]
      go_wp2_with (fail)
      go_ret
      exact ⟨rfl, g0.h⟩
end Go.Proofs.YthakeeinhgfbbaaGreat

namespace Go.Proofs.YthakeeinhgfbbaaGreat
open Go.ChangeShapes Go.WideShapes Go.ChangeAt Go.RowKit
set_option linter.unusedVariables false
set_option linter.unusedSimpArgs false
set_option maxRecDepth 100000

attribute [local irreducible] Calls
theorem own_emptyF (W : World) : (W.alloc (.cells #[] 63)).ownsRow W.heap.size 63 7 (.slice (some ⟨W.heap.size, 0, none⟩) 0 0) 0 [] :=
  ⟨rfl, .inr ⟨W.heap.size, 0, #[], rfl, Nat.le_refl _, World.alloc_heap_new W _, Nat.le_refl _, Nat.zero_le _, rfl, rfl⟩⟩
def nzT (l : List Tm) : List Tm := l.filter fun t => t.1 != 0
theorem nz_in {l : List Tm} {k : Nat} {x : Tm} (hx : l[k]? = some x) (h : x.1 ≠ 0) : nzT (l.take (k + 1)) = nzT (l.take k) ++ [x] := by
  unfold nzT
  rw [List.take_add_one, hx, List.filter_append]
  simp [h]
theorem nz_out {l : List Tm} {k : Nat} {x : Tm} (hx : l[k]? = some x) (h : x.1 = 0) : nzT (l.take (k + 1)) = nzT (l.take k) := by
  unfold nzT
  rw [List.take_add_one, hx, List.filter_append]
  simp [h]
theorem nz_any (l : List Tm) : (nzT l).any noNum = l.any noNum := by
  unfold nzT
  rw [Bool.eq_iff_iff]
  simp only [List.any_eq_true, List.mem_filter]
  constructor
  · rintro ⟨t, ⟨h1, h2⟩, h3⟩
    exact ⟨t, h1, h3⟩
  · rintro ⟨t, h1, h2⟩
    refine ⟨t, ⟨h1, ?_⟩, h2⟩
    by_cases q : t.1 = 0
    · exfalso
      simp [noNum, q, Num] at h2
    · simpa using q
def FB (k : Nat) (m : Int × Int) : Prop := -(2147483648 * ((k : Int) + 1000)) ≤ m.1 ∧ m.1 ≤ 2147483648 * ((k : Int) + 1000) ∧ -(2147483648 * ((k : Int) + 1000)) ≤ m.2 ∧ m.2 ≤ 2147483648 * ((k : Int) + 1000)
structure FnI (w : World) (l : List Tm) (D : Int) (m : Int × Int) (k : Nat) (u : Value) (wr : World) : Prop where
  row : wr.ownsRow (w.heap.size + 1) 63 7 u (keptP D (nzT (l.take k))).length (ct (keptP D (nzT (l.take k))))
  res : IvC wr w.heap.size (0, 0)
  bd : FB k (missP D m (nzT (l.take k)))
  bel : Below w.heap.size w wr
  siz : w.heap.size + 1 ≤ wr.heap.size
  nums : ∀ t ∈ l.take k, Num t.1
theorem keptP_snoc (D : Int) (l : List Tm) (x : Tm) : keptP D (l ++ [x]) = if degE x.2 ≤ D then keptP D l ++ [x] else keptP D l := by
  unfold keptP
  rw [List.filter_append]
  by_cases h : degE x.2 ≤ D
  · rw [if_pos h]; simp [h]
  · rw [if_neg h]; simp [h]
theorem missP_snoc (D : Int) (m : Int × Int) (l : List Tm) (x : Tm) : missP D m (l ++ [x]) = if degE x.2 ≤ D then missP D m l else addR (missP D m l) x := by
  unfold missP
  rw [List.filter_append, List.foldl_append]
  by_cases h : degE x.2 ≤ D
  · rw [if_pos h]; simp [h]
  · rw [if_neg h]; simp [h]
theorem kept_lenF (D : Int) (l : List Tm) (k : Nat) : (keptP D (nzT (l.take k))).length ≤ l.length := by
  unfold keptP nzT
  refine Nat.le_trans (List.length_filter_le _ _) (Nat.le_trans (List.length_filter_le _ _) ?_)
  rw [List.length_take]
  omega
set_option maxHeartbeats 40000000 in
theorem rfin_ok (v : Value) (l : List Tm) (deg x y : Int) (w : World) (hv : Tx w v l) (ht : ∀ t ∈ l, TV t) (hm : FB 0 (x, y)) (hsm : l.length ≤ 100000) :
    Calls Tryz.prog 101 #[v, .int .i64 deg, .int .i64 x, .int .i64 y] w fun e w' => ∃ u, e = .returned (.tuple #[u, .agg #[.int .i64 (truncP (nzT l) (min deg 6) (x, y)).2.1, .int .i64 (truncP (nzT l) (min deg 6) (x, y)).2.2]]) ∧ Tx w' u (truncP (nzT l) (min deg 6) (x, y)).1 ∧ NewB w.heap.size u ∧ Below w.heap.size w w' := by
  obtain ⟨R, hR⟩ : ∃ R, truncP (nzT l) (min deg 6) (x, y) = R := ⟨_, rfl⟩
  rw [hR]
  have HRR := Lib.hid hR
  clear hR
  obtain ⟨i0, hi, hz0, hz1, hz2⟩ := info_parts info_t
  obtain ⟨p, c, rfl⟩ := hv.cut
  have HV := Lib.hid hv
  have HT := Lib.hid ht
  have hba : Below w.heap.size w ((w.alloc (.cells #[.int .i64 0, .int .i64 0] 24)).alloc (.cells #[] 63)) := ((Below.refl _ _).alloc (Nat.le_refl _) _).alloc (by simp) _
  have hI1 : IvC ((w.alloc (.cells #[.int .i64 0, .int .i64 0] 24)).alloc (.cells #[] 63)) w.heap.size (0, 0) := (Below.heap_alloc _ _ _ (by simp)).trans (World.alloc_heap_new w _)
  have hown : ((w.alloc (.cells #[.int .i64 0, .int .i64 0] 24)).alloc (.cells #[] 63)).ownsRow (w.heap.size + 1) 63 7 (.slice (some ⟨w.heap.size + 1, 0, none⟩) 0 0) 0 [] := by
    have := own_emptyF (w.alloc (.cells #[.int .i64 0, .int .i64 0] 24))
    rw [World.size_alloc] at this
    exact this
  have HI : Hid (FnI w l (min deg 6) (x, y) 0 (.slice (some ⟨w.heap.size + 1, 0, none⟩) 0 0) ((w.alloc (.cells #[.int .i64 0, .int .i64 0] 24)).alloc (.cells #[] 63))) := Lib.hid ⟨hown, hI1, hm, hba, by simp, by simp⟩
  clear hv ht hba hI1 hown hm
  go_enter Tryz.func101, Tryz.ntmps101
  go_wp2_with (fail)
  go_loopw [2, 3, 10, 11] (fun lo hi u i wr => ∃ k : Nat, lo = .int .i64 (missP (min deg 6) (x, y) (nzT (l.take k))).1 ∧ hi = .int .i64 (missP (min deg 6) (x, y) (nzT (l.take k))).2 ∧ i = .int .i64 k ∧ k ≤ l.length ∧ Hid (FnI w l (min deg 6) (x, y) k u wr)) (fun _ _ _ i _ => l.length - (intOf i).toNat)
  case atStart => exact ⟨0, rfl, rfl, rfl, Nat.zero_le _, HI⟩
  case round =>
    obtain ⟨k, rfl, rfl, rfl, hk, HR⟩ := hrel
    have hsz := HR.out.siz
    by_cases hlt : k < l.length
    · have i1 : (k : Int) < l.length := by omega
      obtain ⟨t, hx⟩ : ∃ t, l[k]? = some t := ⟨_, List.getElem?_eq_getElem hlt⟩
      have htv := HT.out t (List.mem_of_getElem? hx)
      have htm := List.mem_of_getElem? hx
      obtain ⟨ka, a0, a1, a2, a3, a4, a5, rfl⟩ := six_at htv
      obtain ⟨b, o, hp, hb, rd⟩ := HV.out.rd7 hx
      subst hp
      have HRD := Lib.hid rd
      obtain ⟨f0, f1, f2, f3, f4, f5, f6⟩ := rd ⟨wr, HR.out.bel⟩
      dsimp only at f0 f1 f2 f3 f4 f5 f6
      have HX := Lib.hid hx
      have HTV := Lib.hid htv
      have HTM := Lib.hid htm
      clear rd hx htv htm
      by_cases hnum : Num ka
      · have HN := Lib.hid (fun w => r2num_yes ka w hnum)
        have HNM := Lib.hid hnum
        have hnk : Hid (∀ t ∈ l.take (k + 1), Num t.1) := Lib.hid (fun t ht => by
          rw [List.take_add_one, HX.out] at ht
          rcases List.mem_append.1 ht with h | h
          · exact HR.out.nums t h
          · simp at h; subst h; exact HNM.out)
        clear hnum
        by_cases h0 : ka = 0
        · subst h0
          have hn := nz_out HX.out rfl
          have HZ := Lib.hid hn
          clear hn
          go_wp2_with (fail)
          refine (HN.out _).mono ?_
          rintro e w2 ⟨rfl, rfl⟩
          go_wp2_with (fail)
          exact ⟨⟨k + 1, by rw [HZ.out], by rw [HZ.out], by go_num, by omega, Lib.hid ⟨by rw [HZ.out]; exact HR.out.row, HR.out.res, by rw [HZ.out]; have := HR.out.bd; unfold FB at *; push_cast; omega, HR.out.bel, HR.out.siz, hnk.out⟩⟩, by simp [intOf]; omega⟩
        · have hd0 : (ka == 0) = false := by simpa using h0
          have hn := nz_in HX.out h0
          have HZ := Lib.hid hn
          have HD := Lib.hid (fun w => r5deg [a0, a1, a2, a3, a4, a5] w HTV.out.1)
          rw [show valE [a0, a1, a2, a3, a4, a5] = .agg #[.int .u8 a0, .int .u8 a1, .int .u8 a2, .int .u8 a3, .int .u8 a4, .int .u8 a5] from rfl] at HD
          obtain ⟨D, hD⟩ : ∃ D, degE [a0, a1, a2, a3, a4, a5] = D := ⟨_, rfl⟩
          rw [hD] at HD
          have HDD := Lib.hid hD
          clear hn hD h0
          go_wp2_with (fail)
          refine (HN.out _).mono ?_
          rintro e w2 ⟨rfl, rfl⟩
          obtain ⟨⟨p1, p2⟩, hpp⟩ : ∃ P, missP (min deg 6) (x, y) (nzT (l.take k)) = P := ⟨_, rfl⟩
          rw [hpp]
          have HPP := Lib.hid hpp
          clear hpp
          by_cases h1 : D ≤ deg
          · go_wp2_with (fail)
            refine (HD.out _).mono ?_
            rintro e w3 ⟨rfl, h3⟩
            clear f0 f1 f2 f3 f4 f5 f6
            obtain ⟨f0, f1, f2, f3, f4, f5, f6⟩ := HRD.out ⟨w3, HR.out.bel.trans (h3.mono HR.out.bel.size)⟩
            dsimp only at f0 f1 f2 f3 f4 f5 f6
            by_cases h2 : D ≤ 6
            · go_wp2_with (fail)
              refine (HD.out _).mono ?_
              rintro e w4 ⟨rfl, h4⟩
              have h34 := h3.trans (h4.mono h3.size)
              clear f0 f1 f2 f3 f4 f5 f6
              obtain ⟨f0, f1, f2, f3, f4, f5, f6⟩ := HRD.out ⟨w4, HR.out.bel.trans (h34.mono HR.out.bel.size)⟩
              dsimp only at f0 f1 f2 f3 f4 f5 f6
              have hrow := own_keptT HR.out.row h34
              have hkl := kept_lenF (min deg 6) l k
              have hs4 := h34.size
              go_wp2_with (at_builtin; refine wpList_append_own _ rfl (.tmp 53) (.tmp 58) 22 rfl (w.heap.size + 1) 63 i0 (.agg #[.int .i64 0, .int .u8 0, .int .u8 0, .int .u8 0, .int .u8 0, .int .u8 0, .int .u8 0]) 7 16 Tryz.underlying22 hi hz0 hz1 hz2 rfl (by decide) _ (keptP (min deg 6) (nzT (l.take k))).length _ rfl (hrow.alloc _) ⟨w4.heap.size, 0, none⟩ 1 1 [.int .i64 ka, .int .u8 a0, .int .u8 a1, .int .u8 a2, .int .u8 a3, .int .u8 a4, .int .u8 a5] rfl rfl (new_t _ _ _ _ _ _ _ _) (one_t _ _ _ _ _ _ _) (by unfold maxLen; omega) (by omega) (by simp only [World.size_alloc]; omega) ?_)
              intro v' w6 hown' hgrow _
              have hB6 : Below (w.heap.size + 1) wr w6 := Below.grown ((h34.mono HR.out.siz).alloc (by omega) _) hgrow (by simp only [World.size_alloc]; omega) (fun j hj => (hrow.lt j hj).1)
              have hks : keptP (min deg 6) (nzT (l.take (k + 1))) = keptP (min deg 6) (nzT (l.take k)) ++ [(ka, [a0, a1, a2, a3, a4, a5])] := by
                rw [HZ.out, keptP_snoc, if_pos (by dsimp only; rw [HDD.out]; omega)]
              have hms : missP (min deg 6) (x, y) (nzT (l.take (k + 1))) = (p1, p2) := by
                rw [HZ.out, missP_snoc, if_pos (by dsimp only; rw [HDD.out]; omega), HPP.out]
              have hbd : FB (k + 1) (p1, p2) := by
                have := HR.out.bd
                rw [HPP.out] at this
                unfold FB at *
                dsimp only at *
                push_cast
                omega
              have HNX : Hid (FnI w l (min deg 6) (x, y) (k + 1) v' w6) := Lib.hid ⟨by rw [hks, List.length_append, ct_snoc]; exact hown', HR.out.res.below hB6 (by omega), by rw [hms]; exact hbd, HR.out.bel.trans (hB6.mono (by omega)), Nat.le_trans HR.out.siz hB6.size, hnk.out⟩
              have HMS := Lib.hid hms
              clear hown' hgrow hks hms hbd hrow hB6
              go_wp2_with (fail)
              exact ⟨⟨k + 1, by rw [HMS.out], by rw [HMS.out], by go_num, by omega, HNX⟩, by simp [intOf]; omega⟩
            · have h2' : 6 < D := by omega
              go_wp2_with (fail)
              refine (HD.out _).mono ?_
              rintro e w4 ⟨rfl, h4⟩
              have h34 := h3.trans (h4.mono h3.size)
              clear f0 f1 f2 f3 f4 f5 f6
              obtain ⟨g0, hg0⟩ : ∃ g : Grown w4, w4 = g.w := ⟨⟨w4, Below.refl _ _⟩, rfl⟩
              have rdg := fun g : Grown w4 => HRD.out ⟨g.w, HR.out.bel.trans ((h34.trans (g.h.mono h34.size)).mono HR.out.bel.size)⟩
              dsimp only at rdg
              have u0 := fun g => (rdg g).1
              have u1 := fun g => (rdg g).2.1
              have u2 := fun g => (rdg g).2.2.1
              have u3 := fun g => (rdg g).2.2.2.1
              have u4 := fun g => (rdg g).2.2.2.2.1
              have u5 := fun g => (rdg g).2.2.2.2.2.1
              have u6 := fun g => (rdg g).2.2.2.2.2.2
              have KT := Lib.hid (fun w => rtr_ok ka a0 a1 a2 a3 a4 a5 w HTV.out.1 HNM.out)
              have tb := trg_bd (t := (ka, [a0, a1, a2, a3, a4, a5])) HNM.out
              have hms : missP (min deg 6) (x, y) (nzT (l.take (k + 1))) = addR (p1, p2) (ka, [a0, a1, a2, a3, a4, a5]) := by
                rw [HZ.out, missP_snoc, if_neg (by dsimp only; rw [HDD.out]; omega), HPP.out]
              have hks : keptP (min deg 6) (nzT (l.take (k + 1))) = keptP (min deg 6) (nzT (l.take k)) := by
                rw [HZ.out, keptP_snoc, if_neg (by dsimp only; rw [HDD.out]; omega)]
              unfold addR at hms
              obtain ⟨⟨r, q⟩, hrq⟩ : ∃ R, trg (ka, [a0, a1, a2, a3, a4, a5]) = R := ⟨_, rfl⟩
              rw [hrq] at KT tb hms
              dsimp only at KT tb hms
              have bd := HR.out.bd
              rw [HPP.out] at bd
              unfold FB at bd
              dsimp only at bd
              have Wr : IntKind.i64.wrap (p1 + r) = p1 + r := wrap_i64 _ (by omega) (by omega)
              have Wq : IntKind.i64.wrap (p2 + q) = p2 + q := wrap_i64 _ (by omega) (by omega)
              have hb2 : FB (k + 1) (p1 + r, p2 + q) := by unfold FB; dsimp only; push_cast; omega
              have HMS := Lib.hid hms
              have HKS := Lib.hid hks
              have HB2 := Lib.hid hb2
              clear rdg tb hms hks hrq bd hb2
              rw [hg0]
              go_wp2_with (fail)
              refine region_quiet' g0 (by kernel_rfl) (by kernel_rfl) ?_
              repeat (go_big_quiet_step (first | exact qc (KT.out _)))
              refine wpQuiet_nil ?_
              rintro _ ⟨g5, rfl⟩
              have hW5 := h34.trans (g5.h.mono h34.size)
              have HNX : Hid (FnI w l (min deg 6) (x, y) (k + 1) u10 g5.w) := Lib.hid ⟨by rw [HKS.out]; exact own_keptT HR.out.row hW5, HR.out.res.grow hW5, by rw [HMS.out]; exact HB2.out, below_then HR.out.bel hW5, Nat.le_trans HR.out.siz hW5.size, hnk.out⟩
              clear u0 u1 u2 u3 u4 u5 u6
              go_wp2_with (fail)
              exact ⟨⟨k + 1, by rw [HMS.out], by rw [HMS.out], by go_num, by omega, HNX⟩, by simp [intOf]; omega⟩
          · have h1' : deg < D := by omega
            go_wp2_with (fail)
            refine (HD.out _).mono ?_
            rintro e w3 ⟨rfl, h3⟩
            clear f0 f1 f2 f3 f4 f5 f6
            obtain ⟨g0, hg0⟩ : ∃ g : Grown w3, w3 = g.w := ⟨⟨w3, Below.refl _ _⟩, rfl⟩
            have rdg := fun g : Grown w3 => HRD.out ⟨g.w, HR.out.bel.trans ((h3.trans (g.h.mono h3.size)).mono HR.out.bel.size)⟩
            dsimp only at rdg
            have u0 := fun g => (rdg g).1
            have u1 := fun g => (rdg g).2.1
            have u2 := fun g => (rdg g).2.2.1
            have u3 := fun g => (rdg g).2.2.2.1
            have u4 := fun g => (rdg g).2.2.2.2.1
            have u5 := fun g => (rdg g).2.2.2.2.2.1
            have u6 := fun g => (rdg g).2.2.2.2.2.2
            have KT := Lib.hid (fun w => rtr_ok ka a0 a1 a2 a3 a4 a5 w HTV.out.1 HNM.out)
            have tb := trg_bd (t := (ka, [a0, a1, a2, a3, a4, a5])) HNM.out
            have hms : missP (min deg 6) (x, y) (nzT (l.take (k + 1))) = addR (p1, p2) (ka, [a0, a1, a2, a3, a4, a5]) := by
              rw [HZ.out, missP_snoc, if_neg (by dsimp only; rw [HDD.out]; omega), HPP.out]
            have hks : keptP (min deg 6) (nzT (l.take (k + 1))) = keptP (min deg 6) (nzT (l.take k)) := by
              rw [HZ.out, keptP_snoc, if_neg (by dsimp only; rw [HDD.out]; omega)]
            unfold addR at hms
            obtain ⟨⟨r, q⟩, hrq⟩ : ∃ R, trg (ka, [a0, a1, a2, a3, a4, a5]) = R := ⟨_, rfl⟩
            rw [hrq] at KT tb hms
            dsimp only at KT tb hms
            have bd := HR.out.bd
            rw [HPP.out] at bd
            unfold FB at bd
            dsimp only at bd
            have Wr : IntKind.i64.wrap (p1 + r) = p1 + r := wrap_i64 _ (by omega) (by omega)
            have Wq : IntKind.i64.wrap (p2 + q) = p2 + q := wrap_i64 _ (by omega) (by omega)
            have hb2 : FB (k + 1) (p1 + r, p2 + q) := by unfold FB; dsimp only; push_cast; omega
            have HMS := Lib.hid hms
            have HKS := Lib.hid hks
            have HB2 := Lib.hid hb2
            clear rdg tb hms hks hrq bd hb2
            rw [hg0]
            go_wp2_with (fail)
            refine region_quiet' g0 (by kernel_rfl) (by kernel_rfl) ?_
            repeat (go_big_quiet_step (first | exact qc (KT.out _)))
            refine wpQuiet_nil ?_
            rintro _ ⟨g5, rfl⟩
            have hW5 := h3.trans (g5.h.mono h3.size)
            have HNX : Hid (FnI w l (min deg 6) (x, y) (k + 1) u10 g5.w) := Lib.hid ⟨by rw [HKS.out]; exact own_keptT HR.out.row hW5, HR.out.res.grow hW5, by rw [HMS.out]; exact HB2.out, below_then HR.out.bel hW5, Nat.le_trans HR.out.siz hW5.size, hnk.out⟩
            clear u0 u1 u2 u3 u4 u5 u6
            go_wp2_with (fail)
            exact ⟨⟨k + 1, by rw [HMS.out], by rw [HMS.out], by go_num, by omega, HNX⟩, by simp [intOf]; omega⟩
      · have hany : (nzT l).any noNum = true := by
          rw [nz_any, List.any_eq_true]
          exact ⟨_, HTM.out, by simp [noNum, hnum]⟩
        have hr : R = ([], (-2147483648, 2147483648)) := by rw [← HRR.out]; unfold truncP; rw [if_pos hany]
        subst hr
        have HN := Lib.hid (fun w => r2num_no ka w hnum)
        have hres := HR.out.res
        have hbel := HR.out.bel
        clear hnum hany
        go_wp2_with (fail)
        refine (HN.out _).mono ?_
        rintro e w2 ⟨rfl, rfl⟩
        go_wp2_with (fail)
        refine (r2entire _).mono ?_
        rintro e wf ⟨rfl, hf⟩
        have hif := hres.grow hf
        have qs0 := hif.c0
        have qs1 := hif.c1
        have qz0 := hif.frozen 0
        have qz1 := hif.frozen 1
        have hBf := below_then hbel hf
        go_wp2_with (fail)
        refine bodyPost_ret (v := .tuple #[.slice none 0 0, .agg #[.int .i64 (-2147483648), .int .i64 2147483648]]) (by simp [results, Tryz.results101, go_sem, qs0, qs1]) rfl ⟨_, rfl, Tx.nil _ _ _, newb_nil _, ?_⟩
        exact (hBf.setCell (p := ⟨w.heap.size, 0, none⟩) (Nat.le_refl _) _).setCell (p := ⟨w.heap.size, 1, none⟩) (Nat.le_refl _) _
    · obtain rfl : k = l.length := by omega
      have i1 : ¬ (l.length : Int) < l.length := by omega
      have row := HR.out.row
      have res := HR.out.res
      have bel := HR.out.bel
      have nums := HR.out.nums
      have fbd := HR.out.bd
      rw [List.take_length] at row nums fbd ⊢
      have hany : (nzT l).any noNum = false := by
        rw [nz_any, List.any_eq_false]
        exact fun t ht => by simp [noNum, nums t ht]
      have hR := HRR.out
      unfold truncP at hR
      rw [if_neg (by rw [hany]; decide)] at hR
      obtain ⟨KL, hKL⟩ : ∃ K, keptP (min deg 6) (nzT l) = K := ⟨_, rfl⟩
      have hkl := kept_lenF (min deg 6) l l.length
      rw [List.take_length, hKL] at hkl
      have htv : ∀ t ∈ KL, TV t := fun t ht => by
        rw [← hKL] at ht
        exact HT.out t (List.mem_filter.1 (List.mem_filter.1 ht).1).1
      rw [hKL] at row hR
      have htx := Tx.own row (by unfold maxLen; omega) (fun t ht => (htv t ht).1.1)
      have hnb : NewB (w.heap.size + 1) u10 := ⟨capok_own row, fun j hj => (row.lt j hj).1⟩
      obtain ⟨pr, cr, rfl⟩ := htx.cut
      obtain ⟨⟨p1, p2⟩, hpp⟩ : ∃ P, missP (min deg 6) (x, y) (nzT l) = P := ⟨_, rfl⟩
      rw [hpp] at hR ⊢
      obtain ⟨⟨n0, n1⟩, hnn⟩ : ∃ P, newR (p1, p2) = P := ⟨_, rfl⟩
      rw [hnn] at hR
      have KW := Lib.hid (fun w => r2new p1 p2 w)
      have e0 : mkLo p1 p2 = n0 := by have := congrArg Prod.fst hnn; exact this
      have e1 : mkHi p1 p2 = n1 := by have := congrArg Prod.snd hnn; exact this
      rw [e0, e1] at KW
      have HTX := Lib.hid htx
      have HNB := Lib.hid hnb
      have HRS := Lib.hid res
      have HBL := Lib.hid bel
      have HR9 := Lib.hid hR
      clear row nums hany hR hKL htv htx hnb hpp hnn e0 e1 res bel HR fbd
      go_wp2_with (fail)
      refine (KW.out _).mono ?_
      rintro e w2 ⟨rfl, h2⟩
      have c2 : IvC (w2.alloc (.cells #[.int .i64 n0, .int .i64 n1] 24)) w2.heap.size (n0, n1) := World.alloc_heap_new w2 _
      have hb2 : Below wr.heap.size wr (w2.alloc (.cells #[.int .i64 n0, .int .i64 n1] 24)) := h2.alloc h2.size _
      have hI2 := HRS.out.grow hb2
      have hB2 := below_then HBL.out hb2
      have x0 := c2.c0
      have x1 := c2.c1
      dsimp only at x0 x1
      by_cases h100 : 100 < KL.length
      · have i3 : (100 : Int) < KL.length := by omega
        have hr := HR9.out
        rw [if_pos (.inl h100)] at hr
        subst hr
        clear h100 x0 x1
        go_wp2_with (fail)
        generalize hW2 : World.alloc w2 _ = W2 at *
        refine (r2entire _).mono ?_
        rintro e wf ⟨rfl, hf⟩
        have hif := hI2.grow hf
        have qs0 := hif.c0
        have qs1 := hif.c1
        have qz0 := hif.frozen 0
        have qz1 := hif.frozen 1
        have hBf := below_then hB2 hf
        go_wp2_with (fail)
        refine bodyPost_ret (v := .tuple #[.slice none 0 0, .agg #[.int .i64 (-2147483648), .int .i64 2147483648]]) (by simp [results, Tryz.results101, go_sem, qs0, qs1]) rfl ⟨_, rfl, Tx.nil _ _ _, newb_nil _, ?_⟩
        exact (hBf.setCell (p := ⟨w.heap.size, 0, none⟩) (Nat.le_refl _) _).setCell (p := ⟨w.heap.size, 1, none⟩) (Nat.le_refl _) _
      · have i3 : ¬ (100 : Int) < KL.length := by omega
        by_cases hE : Ent n0 n1
        · have hr := HR9.out
          rw [if_pos (.inr (by simp [entR, hE.1, hE.2]))] at hr
          subst hr
          obtain ⟨rfl, rfl⟩ := hE
          clear h100
          go_wp2_with (fail)
          generalize hW2 : World.alloc w2 _ = W2 at *
          refine (r2ent_yes _).mono ?_
          rintro e w5 ⟨rfl, h5⟩
          have hI5 := hI2.grow h5
          have hB5 := below_then hB2 h5
          clear x0 x1
          go_wp2_with (fail)
          refine (r2entire _).mono ?_
          rintro e wf ⟨rfl, hf⟩
          have hif := hI5.grow hf
          have qs0 := hif.c0
          have qs1 := hif.c1
          have qz0 := hif.frozen 0
          have qz1 := hif.frozen 1
          have hBf := below_then hB5 hf
          go_wp2_with (fail)
          refine bodyPost_ret (v := .tuple #[.slice none 0 0, .agg #[.int .i64 (-2147483648), .int .i64 2147483648]]) (by simp [results, Tryz.results101, go_sem, qs0, qs1]) rfl ⟨_, rfl, Tx.nil _ _ _, newb_nil _, ?_⟩
          exact (hBf.setCell (p := ⟨w.heap.size, 0, none⟩) (Nat.le_refl _) _).setCell (p := ⟨w.heap.size, 1, none⟩) (Nat.le_refl _) _
        · have hr := HR9.out
          rw [if_neg (by rintro (q | q); exact h100 q; simp only [entR, Bool.and_eq_true, beq_iff_eq] at q; exact hE q)] at hr
          subst hr
          have HE := Lib.hid (fun w => r2ent_no n0 n1 w hE)
          clear h100 hE
          go_wp2_with (fail)
          generalize hW2 : World.alloc w2 _ = W2 at *
          refine (HE.out _).mono ?_
          rintro e w5 ⟨rfl, h5⟩
          have hI5 := hI2.grow h5
          have hB5 := below_then hB2 h5
          have hC5 := c2.grow h5
          have hX5 := (HTX.out.grow hb2).grow h5
          have y0 := hC5.c0
          have y1 := hC5.c1
          have q0 := hI5.c0
          have q1 := hI5.c1
          have z0 := hI5.frozen 0
          have z1 := hI5.frozen 1
          have hlt5 := hI5.lt
          dsimp only at y0 y1 q0 q1
          clear x0 x1
          go_wp2_with (fail)
          go_region
          go_wp2_with (fail)
          refine bodyPost_ret (v := .tuple #[.slice pr KL.length cr, .agg #[.int .i64 n0, .int .i64 n1]]) (by simp [results, Tryz.results101, go_sem, q0, q1]) rfl ⟨_, rfl, ?_, ⟨HNB.out.1, fun b h => Nat.le_of_succ_le (HNB.out.2 b h)⟩, ?_⟩
          · exact (hX5.off HNB.out (Nat.lt_succ_self _) hlt5 _ _).grow ((Below.refl _ _).drew)
          · exact ((hB5.setCell (p := ⟨w.heap.size, 0, none⟩) (Nat.le_refl _) _).setCell (p := ⟨w.heap.size, 1, none⟩) (Nat.le_refl _) _).drew
    end Go.Proofs.YthakeeinhgfbbaaGreat

namespace Go.Proofs.YthakeeinhgfbbaaGreat
open Go.ChangeShapes Go.WideShapes Go.ChangeAt Go.RowKit
set_option linter.unusedVariables false
set_option linter.unusedSimpArgs false
set_option maxRecDepth 100000

attribute [local irreducible] Calls
set_option maxHeartbeats 8000000 in
theorem rtrunc_ok (v : Value) (l : List Tm) (deg : Int) (w : World) (hv : Tx w v l) (ht : ∀ t ∈ l, TV t) (hsm : l.length ≤ 100000) :
    Calls Tryz.prog 71 #[v, .int .i64 deg] w fun e w' => ∃ u, e = .returned (.tuple #[u, .agg #[.int .i64 (truncP (nzT l) (min deg 6) (0, 0)).2.1, .int .i64 (truncP (nzT l) (min deg 6) (0, 0)).2.2]]) ∧ Tx w' u (truncP (nzT l) (min deg 6) (0, 0)).1 ∧ NewB w.heap.size u ∧ Below w.heap.size w w' := by
  have hba : Below w.heap.size w (w.alloc (.cells #[.int .i64 0, .int .i64 0] 24)) := (Below.refl _ _).alloc (Nat.le_refl _) _
  have hI1 : IvC (w.alloc (.cells #[.int .i64 0, .int .i64 0] 24)) w.heap.size (0, 0) := World.alloc_heap_new w _
  have K := Lib.hid (rfin_ok v l deg 0 0 _ (hv.grow hba) ht (by unfold FB; decide) hsm)
  obtain ⟨R, hR⟩ : ∃ R, truncP (nzT l) (min deg 6) (0, 0) = R := ⟨_, rfl⟩
  rw [hR] at K ⊢
  obtain ⟨Rl, n0, n1⟩ := R
  dsimp only at K ⊢
  clear hR hv ht
  go_enter Tryz.func71, Tryz.ntmps71
  go_wp2_with (fail)
  refine K.out.mono ?_
  rintro e w2 ⟨u, rfl, h1, h2, h3⟩
  simp only [World.size_alloc] at h2
  have hI2 := hI1.grow h3
  have hB2 := below_then hba h3
  have c2 : IvC (w2.alloc (.cells #[.int .i64 n0, .int .i64 n1] 24)) w2.heap.size (n0, n1) := World.alloc_heap_new w2 _
  have ha2 : Below w2.heap.size w2 (w2.alloc (.cells #[.int .i64 n0, .int .i64 n1] 24)) := (Below.refl _ _).alloc (Nat.le_refl _) _
  have hI3 := hI2.grow ha2
  have hB3 := below_then hB2 ha2
  have hX3 := h1.grow ha2
  have y0 := c2.c0
  have y1 := c2.c1
  have q0 := hI3.c0
  have q1 := hI3.c1
  have z0 := hI3.frozen 0
  have z1 := hI3.frozen 1
  have hlt5 := hI3.lt
  dsimp only at y0 y1 q0 q1
  clear hI1 hI2 c2 ha2 h1 h3 hba
  go_wp2_with (fail)
  generalize hW2 : World.alloc w2 _ = W2 at *
  go_region
  go_wp2_with (fail)
  refine bodyPost_ret (v := .tuple #[u, .agg #[.int .i64 n0, .int .i64 n1]]) (by simp [results, Tryz.results71, go_sem, q0, q1]) rfl ⟨_, rfl, ?_, ⟨h2.1, fun b h => Nat.le_of_succ_le (h2.2 b h)⟩, ?_⟩
  · exact (hX3.off h2 (Nat.lt_succ_self _) hlt5 _ _).grow ((Below.refl _ _).drew)
  · exact ((hB3.setCell (p := ⟨w.heap.size, 0, none⟩) (Nat.le_refl _) _).setCell (p := ⟨w.heap.size, 1, none⟩) (Nat.le_refl _) _).drew
end Go.Proofs.YthakeeinhgfbbaaGreat

namespace Go.Proofs.YthakeeinhgfbbaaGreat
open Go.ChangeShapes Go.WideShapes Go.ChangeAt Go.RowKit
set_option linter.unusedVariables false
set_option linter.unusedSimpArgs false
set_option maxRecDepth 100000

attribute [local irreducible] Calls
set_option maxHeartbeats 8000000 in
theorem rrange_ok (v : Value) (l : List Tm) (w : World) (hv : Tx w v l) (ht : ∀ t ∈ l, TV t ∧ Num t.1) (hsm : l.length ≤ 100000) :
    Calls Tryz.prog 69 #[v] w fun e w' => e = .returned (.agg #[.int .i64 (newR (sumR l)).1, .int .i64 (newR (sumR l)).2]) ∧ Below w.heap.size w w' := by
  have h1 := hv.1
  unfold maxLen at h1
  obtain ⟨p, c, rfl⟩ := hv.cut
  have HV := Lib.hid hv
  have HL := Lib.hid ht
  have hba : Below w.heap.size w (w.alloc (.cells #[.int .i64 0, .int .i64 0] 24)) := (Below.refl _ _).alloc (Nat.le_refl _) _
  have hI1 : IvC (w.alloc (.cells #[.int .i64 0, .int .i64 0] 24)) w.heap.size (0, 0) := World.alloc_heap_new w _
  have HI := Lib.hid hI1
  obtain ⟨W0, hW0⟩ : ∃ W, w.alloc (.cells #[.int .i64 0, .int .i64 0] 24) = W := ⟨_, rfl⟩
  clear hv ht hI1
  go_enter Tryz.func69, Tryz.ntmps69
  go_wp2_with (fail)
  rw [hW0] at HI hba
  try rw [hW0]
  clear hW0
  go_loopw [3, 4, 5] (fun lo hi i wr => ∃ k : Nat, lo = .int .i64 (sumR (l.take k)).1 ∧ hi = .int .i64 (sumR (l.take k)).2 ∧ i = .int .i64 k ∧ k ≤ l.length ∧ Hid (FB k (sumR (l.take k))) ∧ ∃ g : Grown W0, wr = g.w) (fun _ _ i _ => l.length - (intOf i).toNat)
  case atStart => exact ⟨0, rfl, rfl, rfl, Nat.zero_le _, Lib.hid (by simp [sumR, FB]), ⟨W0, Below.refl _ _⟩, rfl⟩
  case round =>
    obtain ⟨k, rfl, rfl, rfl, hk, HB, g0, rfl⟩ := hrel
    by_cases hlt : k < l.length
    · have i1 : (k : Int) < l.length := by omega
      obtain ⟨t, hx⟩ : ∃ t, l[k]? = some t := ⟨_, List.getElem?_eq_getElem hlt⟩
      have tx := HL.out t (List.mem_of_getElem? hx)
      have hs := sumR_snoc hx
      obtain ⟨ka, a0, a1, a2, a3, a4, a5, rfl⟩ := six_at tx.1
      obtain ⟨b, o, hp, hb, rd⟩ := HV.out.rd7 hx
      subst hp
      have rdg := fun g : Grown W0 => rd ⟨g.w, below_then hba g.h⟩
      dsimp only at rdg
      have u0 := fun g => (rdg g).1
      have u1 := fun g => (rdg g).2.1
      have u2 := fun g => (rdg g).2.2.1
      have u3 := fun g => (rdg g).2.2.2.1
      have u4 := fun g => (rdg g).2.2.2.2.1
      have u5 := fun g => (rdg g).2.2.2.2.2.1
      have u6 := fun g => (rdg g).2.2.2.2.2.2
      have KT := Lib.hid (fun w => rtr_ok ka a0 a1 a2 a3 a4 a5 w tx.1.1 tx.2)
      have tb := trg_bd (t := (ka, [a0, a1, a2, a3, a4, a5])) tx.2
      obtain ⟨⟨p1, p2⟩, hpp⟩ : ∃ P, sumR (l.take k) = P := ⟨_, rfl⟩
      have bd := HB.out
      rw [hpp] at hs bd ⊢
      unfold addR at hs
      obtain ⟨⟨r, q⟩, hrq⟩ : ∃ R, trg (ka, [a0, a1, a2, a3, a4, a5]) = R := ⟨_, rfl⟩
      rw [hrq] at KT tb hs
      unfold FB at bd
      dsimp only at KT tb hs bd
      have Wr : IntKind.i64.wrap (p1 + r) = p1 + r := wrap_i64 _ (by omega) (by omega)
      have Wq : IntKind.i64.wrap (p2 + q) = p2 + q := wrap_i64 _ (by omega) (by omega)
      have hb2 : FB (k + 1) (p1 + r, p2 + q) := by unfold FB; dsimp only; push_cast; omega
      have HS := Lib.hid hs
      have HB2 := Lib.hid hb2
      clear rdg rd tb hs hrq bd hb2 hx tx hpp
      go_wp2_with (fail)
      refine region_quiet' g0 (by kernel_rfl) (by kernel_rfl) ?_
      repeat (go_big_quiet_step (first | exact qc (KT.out _)))
      refine wpQuiet_nil ?_
      rintro _ ⟨g5, rfl⟩
      clear u0 u1 u2 u3 u4 u5 u6
      go_wp2_with (fail)
      exact ⟨⟨k + 1, by rw [HS.out], by rw [HS.out], by go_num, by omega, by rw [HS.out]; exact HB2, g5, rfl⟩, by simp [intOf]; omega⟩
    · obtain rfl : k = l.length := by omega
      have i1 : ¬ (l.length : Int) < l.length := by omega
      rw [List.take_length]
      have KW := Lib.hid (fun w => r2new (sumR l).1 (sumR l).2 w)
      have hI := HI.out.grow g0.h
      go_wp2_with (fail)
      refine (KW.out _).mono ?_
      rintro e w2 ⟨rfl, h2⟩
      have hI2 := hI.grow h2
      have q0 := hI2.c0
      have q1 := hI2.c1
      have z0 := hI2.frozen 0
      have z1 := hI2.frozen 1
      dsimp only at q0 q1
      have hB2 := below_then (below_then hba g0.h) h2
      go_wp2_with (fail)
      refine bodyPost_ret (v := .agg #[.int .i64 (mkLo (sumR l).1 (sumR l).2), .int .i64 (mkHi (sumR l).1 (sumR l).2)]) (by simp [results, Tryz.results69, go_sem, q0, q1]) rfl ⟨rfl, ?_⟩
      exact (hB2.setCell (p := ⟨w.heap.size, 0, none⟩) (Nat.le_refl _) _).setCell (p := ⟨w.heap.size, 1, none⟩) (Nat.le_refl _) _
end Go.Proofs.YthakeeinhgfbbaaGreat

namespace Go.Proofs.YthakeeinhgfbbaaGreat
open Go.ChangeShapes Go.WideShapes Go.ChangeAt Go.RowKit
set_option linter.unusedVariables false
set_option linter.unusedSimpArgs false
set_option maxRecDepth 100000

attribute [local irreducible] Calls
set_option maxHeartbeats 4000000 in
theorem rvar_ok (i : Int) (w : World) :
    Calls Tryz.prog 84 #[.int .i64 i] w fun e w' => ∃ u, e = .returned u ∧ Tx w' u (varT i) ∧ Below w.heap.size w w' := by
  by_cases h0 : i < 0
  · rw [show varT i = [] by unfold varT; rw [if_neg (by omega)]]
    have h1 : ¬ 0 ≤ i := by omega
    go_enter Tryz.func84, Tryz.ntmps84
    go_wp2_with (fail)
    go_ret
    exact ⟨_, rfl, Tx.nil _ _ _, by go_grown⟩
  · have h0' : 0 ≤ i := by omega
    by_cases h6 : 5 < i
    · rw [show varT i = [] by unfold varT; rw [if_neg (by omega)]]
      go_enter Tryz.func84, Tryz.ntmps84
      go_wp2_with (fail)
      go_ret
      exact ⟨_, rfl, Tx.nil _ _ _, by go_grown⟩
    · rcases (show i = 0 ∨ i = 1 ∨ i = 2 ∨ i = 3 ∨ i = 4 ∨ i = 5 by omega) with rfl | rfl | rfl | rfl | rfl | rfl
      all_goals
        clear h0 h0' h6
        go_enter Tryz.func84, Tryz.ntmps84
        go_wp2_with (fail)
        go_ret
      · have := tx_lit (w.alloc (.cells #[.int .i64 65536, .int .u8 1, .int .u8 0, .int .u8 0, .int .u8 0, .int .u8 0, .int .u8 0] 63)) 65536 1 0 0 0 0 0
        rw [World.size_alloc] at this
        exact ⟨.slice (some ⟨w.heap.size + 1, 0, none⟩) 1 1, rfl, this, by go_grown⟩
      · have := tx_lit (w.alloc (.cells #[.int .i64 65536, .int .u8 0, .int .u8 1, .int .u8 0, .int .u8 0, .int .u8 0, .int .u8 0] 63)) 65536 0 1 0 0 0 0
        rw [World.size_alloc] at this
        exact ⟨.slice (some ⟨w.heap.size + 1, 0, none⟩) 1 1, rfl, this, by go_grown⟩
      · have := tx_lit (w.alloc (.cells #[.int .i64 65536, .int .u8 0, .int .u8 0, .int .u8 1, .int .u8 0, .int .u8 0, .int .u8 0] 63)) 65536 0 0 1 0 0 0
        rw [World.size_alloc] at this
        exact ⟨.slice (some ⟨w.heap.size + 1, 0, none⟩) 1 1, rfl, this, by go_grown⟩
      · have := tx_lit (w.alloc (.cells #[.int .i64 65536, .int .u8 0, .int .u8 0, .int .u8 0, .int .u8 1, .int .u8 0, .int .u8 0] 63)) 65536 0 0 0 1 0 0
        rw [World.size_alloc] at this
        exact ⟨.slice (some ⟨w.heap.size + 1, 0, none⟩) 1 1, rfl, this, by go_grown⟩
      · have := tx_lit (w.alloc (.cells #[.int .i64 65536, .int .u8 0, .int .u8 0, .int .u8 0, .int .u8 0, .int .u8 1, .int .u8 0] 63)) 65536 0 0 0 0 1 0
        rw [World.size_alloc] at this
        exact ⟨.slice (some ⟨w.heap.size + 1, 0, none⟩) 1 1, rfl, this, by go_grown⟩
      · have := tx_lit (w.alloc (.cells #[.int .i64 65536, .int .u8 0, .int .u8 0, .int .u8 0, .int .u8 0, .int .u8 0, .int .u8 1] 63)) 65536 0 0 0 0 0 1
        rw [World.size_alloc] at this
        exact ⟨.slice (some ⟨w.heap.size + 1, 0, none⟩) 1 1, rfl, this, by go_grown⟩
end Go.Proofs.YthakeeinhgfbbaaGreat
