/-
  The tape's reference: Arity, same, SameBoxes.
  The tape's reference: Same.
  The tape's reference: SameRows.
  The reference's Near and Boxes.
  Package tape: the map of Optimize.
  law08: one, num.
-/
import Derived.Test.YtecmgiihacigaaaU7
import Derived.Test.YtecmgiihacigaaaR2
namespace Go.Proofs.Ytecmgiihacigaaa
open Go.ChangeShapes Go.WideShapes Go.ChangeAt Go.RowKit
set_option linter.unusedVariables false
set_option linter.unusedSimpArgs false
set_option maxRecDepth 100000
attribute [local irreducible] Calls
def raI (op : Int) : Int := if 1 ≤ op ∧ op ≤ 3 then 0 else if 4 ≤ op ∧ op ≤ 6 then 1 else if 7 ≤ op ∧ op ≤ 10 then 2 else -1
theorem rarity_ok (op : Int) (w : World) : Calls Try.prog 58 #[.int .i64 op] w fun e w' => e = .returned (.int .i64 (raI op)) ∧ Below w.heap.size w w' := by
  by_cases h0 : op < 1
  · rw [show raI op = -1 by unfold raI; (repeat' split) <;> omega]
    skip
    have n1 : ¬ op ≥ 1 := (by omega); have n4 : ¬ op ≥ 4 := (by omega); have n7 : ¬ op ≥ 7 := (by omega)
    skip
    go_enter Try.func58, Try.ntmps58
    go_wp2_with (fail)
    go_ret
    exact ⟨rfl, Below.refl _ _⟩
  by_cases h1 : op ≤ 3
  · rw [show raI op = 0 by unfold raI; (repeat' split) <;> omega]
    have p1 : op ≥ 1 := (by omega)
    have n4 : ¬ op ≥ 4 := (by omega); have n7 : ¬ op ≥ 7 := (by omega)
    skip
    go_enter Try.func58, Try.ntmps58
    go_wp2_with (fail)
    go_ret
    exact ⟨rfl, Below.refl _ _⟩
  by_cases h2 : op ≤ 6
  · rw [show raI op = 1 by unfold raI; (repeat' split) <;> omega]
    have p1 : op ≥ 1 := (by omega); have p4 : op ≥ 4 := (by omega)
    have n7 : ¬ op ≥ 7 := (by omega)
    have m3 : ¬ op ≤ 3 := (by omega)
    go_enter Try.func58, Try.ntmps58
    go_wp2_with (fail)
    go_ret
    exact ⟨rfl, Below.refl _ _⟩
  by_cases h3 : op ≤ 10
  · rw [show raI op = 2 by unfold raI; (repeat' split) <;> omega]
    have p1 : op ≥ 1 := (by omega); have p4 : op ≥ 4 := (by omega); have p7 : op ≥ 7 := (by omega)
    skip
    have m3 : ¬ op ≤ 3 := (by omega); have m6 : ¬ op ≤ 6 := (by omega)
    go_enter Try.func58, Try.ntmps58
    go_wp2_with (fail)
    go_ret
    exact ⟨rfl, Below.refl _ _⟩
  rw [show raI op = -1 by unfold raI; (repeat' split) <;> omega]
  have p1 : op ≥ 1 := by omega
  have p4 : op ≥ 4 := by omega
  have p7 : op ≥ 7 := by omega
  have m3 : ¬ op ≤ 3 := by omega
  have m6 : ¬ op ≤ 6 := by omega
  have m10 : ¬ op ≤ 10 := by omega
  go_enter Try.func58, Try.ntmps58
  go_wp2_with (fail)
  go_ret
  exact ⟨rfl, Below.refl _ _⟩
theorem r2same (a b c d : Int) (w : World) : Calls Try.prog 42 #[.agg #[.int .i64 a, .int .i64 b], .agg #[.int .i64 c, .int .i64 d]] w fun e w' => e = .returned (.bool ((a == c) && (b == d))) ∧ Below w.heap.size w w' := by
  cases h1 : (a == c) with
  | false => exact r2same_2 a b c d w h1
  | true =>
    cases h2 : (b == d) with
    | false => exact r2same_1 a b c d w h1 h2
    | true => exact r2same_0 a b c d w h1 h2
def sbGo : List (Int × Int) → List (Int × Int) → Bool
  | [], [] => true
  | p :: l, q :: m => ((p.1 == q.1) && (p.2 == q.2)) && sbGo l m
  | _, _ => false
theorem sbGo_self : ∀ l, sbGo l l = true
  | [] => rfl
  | p :: l => by simp [sbGo, sbGo_self l]
set_option maxHeartbeats 8000000 in
theorem sameboxes_ok (va vb : Value) (l m : List (Int × Int)) (N : Nat) (w : World) (ha : Vx w va l) (hb : Vx w vb m) (hl : l.length = N) (hm : m.length = N) : Calls Try.prog 16 #[va, vb] w fun e w' => e = .returned (.bool (sbGo l m)) ∧ Below w.heap.size w w' := by
  obtain ⟨pa, ca, rfl⟩ := ha.cut
  obtain ⟨pb, cb, rfl⟩ := hb.cut
  have hmx := ha.1
  unfold maxLen at hmx
  rw [hl] at ha hmx ⊢
  rw [hm] at hb ⊢
  obtain ⟨R, hR⟩ : ∃ R, sbGo l m = R := ⟨_, rfl⟩
  rw [hR]
  have HA := Lib.hid ha
  have HB := Lib.hid hb
  have HR := Lib.hid hR
  have NL := Lib.hid hl
  have NM := Lib.hid hm
  clear ha hb hR hl hm
  go_enter Try.func16, Try.ntmps16
  go_wp2_with (fail)
  go_loopw [5] (fun i wr => ∃ k : Nat, i = .int .i64 k ∧ k ≤ N ∧ Hid (sbGo (l.drop k) (m.drop k) = R) ∧ Below w.heap.size w wr) (fun i _ => N - (intOf i).toNat)
  case atStart => exact ⟨0, rfl, Nat.zero_le _, HR, Below.refl _ _⟩
  case round =>
    clear HR
    obtain ⟨k, rfl, hk, HR, hB⟩ := hrel
    have HBr := Lib.hid hB
    by_cases hlt : k < N
    · have i2 : (k : Int) < N := by omega
      obtain ⟨⟨p1, p2⟩, hx⟩ : ∃ x, l[k]? = some x := ⟨_, List.getElem?_eq_getElem (by rw [NL.out]; exact hlt)⟩
      obtain ⟨⟨q1, q2⟩, hy⟩ : ∃ x, m[k]? = some x := ⟨_, List.getElem?_eq_getElem (by rw [NM.out]; exact hlt)⟩
      have hd := HR.out
      rw [drop_consG hx, drop_consG hy] at hd
      unfold sbGo at hd
      dsimp only at hd
      obtain ⟨ba, oa, rfl, hba, rda⟩ := vx_rd HA.out hx
      obtain ⟨bb, ob, rfl, hbb, rdb⟩ := vx_rd HB.out hy
      have fa0 := fun g : Grown wr => (rda ⟨g.w, HBr.out.trans (g.h.mono HBr.out.size)⟩).1
      have fa1 := fun g : Grown wr => (rda ⟨g.w, HBr.out.trans (g.h.mono HBr.out.size)⟩).2
      have fb0 := fun g : Grown wr => (rdb ⟨g.w, HBr.out.trans (g.h.mono HBr.out.size)⟩).1
      have fb1 := fun g : Grown wr => (rdb ⟨g.w, HBr.out.trans (g.h.mono HBr.out.size)⟩).2
      dsimp only at fa0 fa1 fb0 fb1
      have KS := Lib.hid (r2same p1 p2 q1 q2)
      obtain ⟨T, hT⟩ : ∃ T, ((p1 == q1) && (p2 == q2)) = T := ⟨_, rfl⟩
      rw [hT] at KS hd
      have HD := Lib.hid hd
      clear hd hT rda rdb hx hy HR hB
      go_wp2_with (fail)
      refine region_pred (lk [(17, fun z_ _ => z_ = .slice (some ⟨ba, oa, none⟩) N ca), (18, fun z_ _ => z_ = .int .i64 (k : Int)), (19, fun z_ _ => z_ = .pointer (some ⟨ba, oa + k * 2, none⟩)), (20, fun z_ _ => z_ = .agg #[.int .i64 p1, .int .i64 p2]), (21, fun z_ _ => z_ = .slice (some ⟨bb, ob, none⟩) N cb), (22, fun z_ _ => z_ = .int .i64 (k : Int)), (23, fun z_ _ => z_ = .pointer (some ⟨bb, ob + k * 2, none⟩)), (24, fun z_ _ => z_ = .agg #[.int .i64 q1, .int .i64 q2]), (25, fun z_ _ => z_ = .bool T), (26, fun z_ _ => z_ = .bool (!T))]) (by kernel_rfl) (by kernel_rfl) (lk_steady _ ⟨steady_eq _, steady_eq _, steady_eq _, steady_eq _, steady_eq _, steady_eq _, steady_eq _, steady_eq _, steady_eq _, steady_eq _, trivial⟩) ?_ ?_
      · refine ⟨?_, ?_, ?_, ?_, ?_, ?_, ?_, ?_, ?_, ?_, trivial⟩
        · refine ob_plain [0] rfl rfl fun aa g h => ?_
          have yy0 := seen_out (v := .slice (some ⟨ba, oa, none⟩) N ca) rfl rfl h.1
          have ee0 := getD_of yy0
          exact tupon_value (v := .slice (some ⟨ba, oa, none⟩) N ca) (by simp [go_sem, ee0, yy0]) (Below.refl _ _) rfl
        · refine ob_plain [5] rfl rfl fun aa g h => ?_
          have yy0 := seen_out (v := .int .i64 (k : Int)) rfl rfl h.1
          have ee0 := getD_of yy0
          exact tupon_value (v := .int .i64 (k : Int)) (by simp [go_sem, ee0, yy0]) (Below.refl _ _) rfl
        · refine ob_plain [17, 18] rfl rfl fun aa g h => ?_
          obtain ⟨_, yy0, rfl⟩ := seen_in rfl h.1
          have ee0 := getD_of yy0
          obtain ⟨_, yy1, rfl⟩ := seen_in rfl h.2.1
          have ee1 := getD_of yy1
          exact tupon_value (v := .pointer (some ⟨ba, oa + k * 2, none⟩)) (by simp [go_sem, ee0, yy0, ee1, yy1, i2]) (Below.refl _ _) rfl
        · refine ob_plain [19] rfl rfl fun aa g h => ?_
          obtain ⟨_, yy0, rfl⟩ := seen_in rfl h.1
          have ee0 := getD_of yy0
          exact tupon_value (v := .agg #[.int .i64 p1, .int .i64 p2]) (by simp [go_sem, ee0, yy0, fa0 g, fa1 g]) (Below.refl _ _) rfl
        · refine ob_plain [1] rfl rfl fun aa g h => ?_
          have yy0 := seen_out (v := .slice (some ⟨bb, ob, none⟩) N cb) rfl rfl h.1
          have ee0 := getD_of yy0
          exact tupon_value (v := .slice (some ⟨bb, ob, none⟩) N cb) (by simp [go_sem, ee0, yy0]) (Below.refl _ _) rfl
        · refine ob_plain [5] rfl rfl fun aa g h => ?_
          have yy0 := seen_out (v := .int .i64 (k : Int)) rfl rfl h.1
          have ee0 := getD_of yy0
          exact tupon_value (v := .int .i64 (k : Int)) (by simp [go_sem, ee0, yy0]) (Below.refl _ _) rfl
        · refine ob_plain [21, 22] rfl rfl fun aa g h => ?_
          obtain ⟨_, yy0, rfl⟩ := seen_in rfl h.1
          have ee0 := getD_of yy0
          obtain ⟨_, yy1, rfl⟩ := seen_in rfl h.2.1
          have ee1 := getD_of yy1
          exact tupon_value (v := .pointer (some ⟨bb, ob + k * 2, none⟩)) (by simp [go_sem, ee0, yy0, ee1, yy1, i2]) (Below.refl _ _) rfl
        · refine ob_plain [23] rfl rfl fun aa g h => ?_
          obtain ⟨_, yy0, rfl⟩ := seen_in rfl h.1
          have ee0 := getD_of yy0
          exact tupon_value (v := .agg #[.int .i64 q1, .int .i64 q2]) (by simp [go_sem, ee0, yy0, fb0 g, fb1 g]) (Below.refl _ _) rfl
        · refine ob_plain [20, 24] rfl rfl fun aa g h => ?_
          obtain ⟨_, yy0, rfl⟩ := seen_in rfl h.1
          have ee0 := getD_of yy0
          obtain ⟨_, yy1, rfl⟩ := seen_in rfl h.2.1
          have ee1 := getD_of yy1
          refine tupon_enter (f := 42) (args := #[.agg #[.int .i64 p1, .int .i64 p2], .agg #[.int .i64 q1, .int .i64 q2]]) (by simp [go_sem, ee0, yy0, ee1, yy1]) rfl ?_
          exact (KS.out g.w).mono fun e w' ⟨he, hB⟩ => ⟨_, he, hB, rfl⟩
        · refine ob_plain [25] rfl rfl fun aa g h => ?_
          obtain ⟨_, yy0, rfl⟩ := seen_in rfl h.1
          have ee0 := getD_of yy0
          exact tupon_value (v := .bool (!T)) (by simp [go_sem, ee0, yy0]) (Below.refl _ _) rfl
      rintro w9 hB9 _ rfl _ rfl _ rfl _ rfl _ rfl _ rfl _ rfl _ rfl _ rfl _ rfl
      simp only [Act.put, List.setIfInBounds_toArray, List.set_cons_succ, List.set_cons_zero, List.filterMap_nil, finP]
      have hBn := HBr.out.trans (hB9.mono HBr.out.size)
      clear fa0 fa1 fb0 fb1 hB9
      cases T with
      | false =>
        have hd := HD.out
        rw [Bool.false_and] at hd
        subst hd
        go_wp2_with (fail)
        go_ret
        exact ⟨rfl, hBn⟩
      | true =>
        have hd := HD.out
        rw [Bool.true_and] at hd
        have HD2 := Lib.hid hd
        clear hd HD
        go_wp2_with (fail)
        exact ⟨⟨k + 1, by go_num, by omega, HD2, hBn⟩, by simp [intOf]; omega⟩
    · obtain rfl : k = N := by omega
      have i2 : ¬ (k : Int) < k := by omega
      have hd := HR.out
      rw [List.drop_eq_nil_of_le (by rw [NL.out]; exact Nat.le_refl _), List.drop_eq_nil_of_le (by rw [NM.out]; exact Nat.le_refl _)] at hd
      unfold sbGo at hd
      subst hd
      clear HR
      go_wp2_with (fail)
      go_ret
      exact ⟨rfl, hB⟩
end Go.Proofs.Ytecmgiihacigaaa

namespace Go.Proofs.Ytecmgiihacigaaa
open Go.ChangeShapes Go.WideShapes Go.ChangeAt Go.RowKit
set_option linter.unusedVariables false
set_option linter.unusedSimpArgs false
set_option maxRecDepth 100000
attribute [local irreducible] Calls
end Go.Proofs.Ytecmgiihacigaaa

namespace Go.Proofs.Ytecmgiihacigaaa
open Go.ChangeShapes Go.WideShapes Go.ChangeAt Go.RowKit
set_option linter.unusedVariables false
set_option linter.unusedSimpArgs false
set_option maxRecDepth 100000
attribute [local irreducible] Calls
end Go.Proofs.Ytecmgiihacigaaa

namespace Go.Proofs.Ytecmgiihacigaaa
open Go.ChangeShapes Go.WideShapes Go.ChangeAt Go.RowKit
set_option linter.unusedVariables false
set_option linter.unusedSimpArgs false
set_option maxRecDepth 100000
attribute [local irreducible] Calls
/-- An interval near the origin, of a width below d. -/
def nearI (p : Int × Int) (d : Int) : Int × Int := (p.1.tmod 1048576, p.1.tmod 1048576 + (p.2.tmod d + d).tmod d)
theorem near_bd (p : Int × Int) {d : Int} (h1 : 1 ≤ d) : -1048576 < (nearI p d).1 ∧ (nearI p d).1 < 1048576 ∧ (nearI p d).1 ≤ (nearI p d).2 ∧ (nearI p d).2 < (nearI p d).1 + d := by
  have a1 := Int.lt_tmod_of_pos p.1 (show (0 : Int) < 1048576 by decide)
  have a2 := Int.tmod_lt_of_pos p.1 (show (0 : Int) < 1048576 by decide)
  have b1 := Int.lt_tmod_of_pos p.2 (show (0 : Int) < d by omega)
  have c1 := Int.tmod_nonneg d (show 0 ≤ p.2.tmod d + d by omega)
  have c2 := Int.tmod_lt_of_pos (p.2.tmod d + d) (show (0 : Int) < d by omega)
  unfold nearI
  dsimp only
  omega
set_option maxHeartbeats 4000000 in
theorem r2near (a b d : Int) (w : World) (h1 : 1 ≤ d) (h2 : d ≤ 16777216) : Calls Try.prog 59 #[.agg #[.int .i64 a, .int .i64 b], .int .i64 d] w fun e w' => e = .returned (.agg #[.int .i64 (nearI (a, b) d).1, .int .i64 (nearI (a, b) d).2]) ∧ Below w.heap.size w w' := by
  have hbd := near_bd (a, b) h1
  have b1 := Int.lt_tmod_of_pos b (show (0 : Int) < d by omega)
  have b2 := Int.tmod_lt_of_pos b (show (0 : Int) < d by omega)
  unfold nearI at hbd ⊢
  dsimp only at hbd ⊢
  have W1 : IntKind.i64.wrap (b.tmod d + d) = b.tmod d + d := wrapN _ (by omega) (by omega)
  have W2 : IntKind.i64.wrap (a.tmod 1048576 + (b.tmod d + d).tmod d) = a.tmod 1048576 + (b.tmod d + d).tmod d := wrapN _ (by omega) (by omega)
  have hd0 : ¬ d = 0 := by omega
  have hba : Below w.heap.size w ((w.alloc (.cells #[.int .i64 a, .int .i64 b] 45)).alloc (.cells #[.int .i64 0, .int .i64 0] 45)) := ((Below.refl _ _).alloc (Nat.le_refl _) _).alloc (by rw [alloc_sz]; omega) _
  have hX : ((w.alloc (.cells #[.int .i64 a, .int .i64 b] 45)).alloc (.cells #[.int .i64 0, .int .i64 0] 45)).heap[w.heap.size]? = some (.cells #[.int .i64 a, .int .i64 b] 45 (0, 0)) := (((Below.refl _ (w.alloc (.cells #[.int .i64 a, .int .i64 b] 45))).alloc (Nat.le_refl _) _).block _ (by rw [alloc_sz]; omega)).trans (World.alloc_heap_new w _)
  have hY : ((w.alloc (.cells #[.int .i64 a, .int .i64 b] 45)).alloc (.cells #[.int .i64 0, .int .i64 0] 45)).heap[w.heap.size + 1]? = some (.cells #[.int .i64 0, .int .i64 0] 45 (0, 0)) := by
    have := World.alloc_heap_new (w.alloc (.cells #[.int .i64 a, .int .i64 b] 45)) (.cells #[.int .i64 0, .int .i64 0] 45)
    rwa [alloc_sz] at this
  have fa := fun g : Grown ((w.alloc (.cells #[.int .i64 a, .int .i64 b] 45)).alloc (.cells #[.int .i64 0, .int .i64 0] 45)) => heapN_cellj ((g.h.block _ (Array.getElem?_eq_some_iff.1 hX).1).trans hX) (k := 0) (u := .int .i64 a) rfl
  have fb := fun g : Grown ((w.alloc (.cells #[.int .i64 a, .int .i64 b] 45)).alloc (.cells #[.int .i64 0, .int .i64 0] 45)) => heapN_cellj ((g.h.block _ (Array.getElem?_eq_some_iff.1 hX).1).trans hX) (k := 1) (u := .int .i64 b) rfl
  have HY := Lib.hid hY
  have HB := Lib.hid hba
  clear hX hY hba hbd b1 b2
  go_enter Try.func59, Try.ntmps59
  go_wp2_with (fail)
  refine region_pred (lk [(7, fun z_ _ => z_ = .pointer (some ⟨w.heap.size, 0, none⟩)), (8, fun z_ _ => z_ = .int .i64 a), (9, fun z_ _ => z_ = .int .i64 (a.tmod 1048576)), (10, fun z_ _ => z_ = .pointer (some ⟨w.heap.size, 1, none⟩)), (11, fun z_ _ => z_ = .int .i64 b), (12, fun z_ _ => z_ = .int .i64 d), (13, fun z_ _ => z_ = .int .i64 (b.tmod d)), (14, fun z_ _ => z_ = .int .i64 d), (15, fun z_ _ => z_ = .int .i64 (b.tmod d + d)), (16, fun z_ _ => z_ = .int .i64 d), (17, fun z_ _ => z_ = .int .i64 ((b.tmod d + d).tmod d)), (5, fun z_ _ => z_ = .int .i64 (a.tmod 1048576)), (6, fun z_ _ => z_ = .int .i64 ((b.tmod d + d).tmod d))]) (by kernel_rfl) (by kernel_rfl) (lk_steady _ ⟨steady_eq _, steady_eq _, steady_eq _, steady_eq _, steady_eq _, steady_eq _, steady_eq _, steady_eq _, steady_eq _, steady_eq _, steady_eq _, steady_eq _, steady_eq _, trivial⟩) ?_ ?_
  · refine ⟨?_, ?_, ?_, ?_, ?_, ?_, ?_, ?_, ?_, ?_, ?_, ?_, ?_, trivial⟩
    · refine ob_plain [2] rfl rfl fun aa g h => ?_
      have yy0 := seen_out (v := .pointer (some ⟨w.heap.size, 0, none⟩)) rfl rfl h.1
      have ee0 := getD_of yy0
      exact tupon_value (v := .pointer (some ⟨w.heap.size, 0, none⟩)) (by simp [go_sem, ee0, yy0]) (Below.refl _ _) rfl
    · refine ob_plain [7] rfl rfl fun aa g h => ?_
      obtain ⟨_, yy0, rfl⟩ := seen_in rfl h.1
      have ee0 := getD_of yy0
      exact tupon_value (v := .int .i64 a) (by simp [go_sem, ee0, yy0, fa g]) (Below.refl _ _) rfl
    · refine ob_plain [8] rfl rfl fun aa g h => ?_
      obtain ⟨_, yy0, rfl⟩ := seen_in rfl h.1
      have ee0 := getD_of yy0
      exact tupon_value (v := .int .i64 (a.tmod 1048576)) (by simp [go_sem, ee0, yy0]) (Below.refl _ _) rfl
    · refine ob_plain [2] rfl rfl fun aa g h => ?_
      have yy0 := seen_out (v := .pointer (some ⟨w.heap.size, 0, none⟩)) rfl rfl h.1
      have ee0 := getD_of yy0
      exact tupon_value (v := .pointer (some ⟨w.heap.size, 1, none⟩)) (by simp [go_sem, ee0, yy0]) (Below.refl _ _) rfl
    · refine ob_plain [10] rfl rfl fun aa g h => ?_
      obtain ⟨_, yy0, rfl⟩ := seen_in rfl h.1
      have ee0 := getD_of yy0
      exact tupon_value (v := .int .i64 b) (by simp [go_sem, ee0, yy0, fb g]) (Below.refl _ _) rfl
    · refine ob_plain [1] rfl rfl fun aa g h => ?_
      have yy0 := seen_out (v := .int .i64 d) rfl rfl h.1
      have ee0 := getD_of yy0
      exact tupon_value (v := .int .i64 d) (by simp [go_sem, ee0, yy0]) (Below.refl _ _) rfl
    · refine ob_plain [11, 12] rfl rfl fun aa g h => ?_
      obtain ⟨_, yy0, rfl⟩ := seen_in rfl h.1
      have ee0 := getD_of yy0
      obtain ⟨_, yy1, rfl⟩ := seen_in rfl h.2.1
      have ee1 := getD_of yy1
      exact tupon_value (v := .int .i64 (b.tmod d)) (by simp [go_sem, ee0, yy0, ee1, yy1, hd0]) (Below.refl _ _) rfl
    · refine ob_plain [1] rfl rfl fun aa g h => ?_
      have yy0 := seen_out (v := .int .i64 d) rfl rfl h.1
      have ee0 := getD_of yy0
      exact tupon_value (v := .int .i64 d) (by simp [go_sem, ee0, yy0]) (Below.refl _ _) rfl
    · refine ob_plain [13, 14] rfl rfl fun aa g h => ?_
      obtain ⟨_, yy0, rfl⟩ := seen_in rfl h.1
      have ee0 := getD_of yy0
      obtain ⟨_, yy1, rfl⟩ := seen_in rfl h.2.1
      have ee1 := getD_of yy1
      exact tupon_value (v := .int .i64 (b.tmod d + d)) (by simp [go_sem, ee0, yy0, ee1, yy1, W1]) (Below.refl _ _) rfl
    · refine ob_plain [1] rfl rfl fun aa g h => ?_
      have yy0 := seen_out (v := .int .i64 d) rfl rfl h.1
      have ee0 := getD_of yy0
      exact tupon_value (v := .int .i64 d) (by simp [go_sem, ee0, yy0]) (Below.refl _ _) rfl
    · refine ob_plain [15, 16] rfl rfl fun aa g h => ?_
      obtain ⟨_, yy0, rfl⟩ := seen_in rfl h.1
      have ee0 := getD_of yy0
      obtain ⟨_, yy1, rfl⟩ := seen_in rfl h.2.1
      have ee1 := getD_of yy1
      exact tupon_value (v := .int .i64 ((b.tmod d + d).tmod d)) (by simp [go_sem, ee0, yy0, ee1, yy1, hd0]) (Below.refl _ _) rfl
    · refine ob_plain [9] rfl rfl fun aa g h => ?_
      obtain ⟨_, yy0, rfl⟩ := seen_in rfl h.1
      have ee0 := getD_of yy0
      exact tupon_value (v := .int .i64 (a.tmod 1048576)) (by simp [go_sem, ee0, yy0]) (Below.refl _ _) rfl
    · refine ob_plain [17] rfl rfl fun aa g h => ?_
      obtain ⟨_, yy0, rfl⟩ := seen_in rfl h.1
      have ee0 := getD_of yy0
      exact tupon_value (v := .int .i64 ((b.tmod d + d).tmod d)) (by simp [go_sem, ee0, yy0]) (Below.refl _ _) rfl
  rintro w9 hB9 _ rfl _ rfl _ rfl _ rfl _ rfl _ rfl _ rfl _ rfl _ rfl _ rfl _ rfl _ rfl _ rfl
  simp only [Act.put, List.setIfInBounds_toArray, List.set_cons_succ, List.set_cons_zero, List.filterMap_nil, finP]
  have hy := (hB9.block _ (Array.getElem?_eq_some_iff.1 HY.out).1).trans HY.out
  have y0 := heapN_cellj hy (k := 0) rfl
  have y1 := heapN_cellj hy (k := 1) rfl
  have z0 : w9.frozen? ⟨w.heap.size + 1, 0, none⟩ = false := by simp [World.frozen?, hy]
  have z1 : w9.frozen? ⟨w.heap.size + 1, 1, none⟩ = false := by simp [World.frozen?, hy]
  have HW := Lib.hid (below_then HB.out hB9)
  obtain ⟨x, hx⟩ : ∃ x, a.tmod 1048576 = x := ⟨_, rfl⟩
  obtain ⟨y, hyy⟩ : ∃ y, (b.tmod d + d).tmod d = y := ⟨_, rfl⟩
  rw [hx, hyy] at W2
  have HXX := Lib.hid hx
  have HYY := Lib.hid hyy
  clear fa fb hB9 W1
  rw [hx, hyy]
  clear hx hyy
  go_wp2_with (fail)
  have hs := cellsT_setN (o := 1) (u := .int .i64 (x + y)) (cellsT_setN (o := 0) (u := .int .i64 x) hy)
  have x0 := heapN_cellj hs (k := 0) (u := .int .i64 x) rfl
  have x1 := heapN_cellj hs (k := 1) (u := .int .i64 (x + y)) rfl
  exact bodyPost_ret (v := .agg #[.int .i64 x, .int .i64 (x + y)]) (by simp [results, Try.results59, go_sem, x0, x1]) rfl ⟨by rw [HXX.out, HYY.out], (HW.out.setCell (p := ⟨w.heap.size + 1, 0, none⟩) (by dsimp only; omega) _).setCell (p := ⟨w.heap.size + 1, 1, none⟩) (by dsimp only; omega) _⟩
/-- Boxes: the first n intervals, near the origin. -/
def boxI (l : List (Int × Int)) (n : Nat) (d : Int) : List (Int × Int) := (List.range n).map (fun i => nearI (l.getD i (0, 0)) d)
theorem boxI_snoc (l : List (Int × Int)) (n : Nat) (d : Int) : boxI l (n + 1) d = boxI l n d ++ [nearI (l.getD n (0, 0)) d] := by
  unfold boxI
  rw [List.range_succ, List.map_append]
  rfl
theorem boxI_len (l : List (Int × Int)) (n : Nat) (d : Int) : (boxI l n d).length = n := by simp [boxI]
theorem own_emptyB (W : World) : (W.alloc (.cells #[] 45)).ownsRow W.heap.size 45 2 (.slice (some ⟨W.heap.size, 0, none⟩) 0 0) 0 [] :=
  World.ownsRow_made W #[] 0 (Nat.le_refl _) (Nat.zero_le _) rfl
set_option maxHeartbeats 8000000 in
theorem boxes_ok (vl : Value) (l : List (Int × Int)) (n : Nat) (d : Int) (w : World) (hl : Vx w vl l) (hn : n ≤ 6) (h1 : 1 ≤ d) (h2 : d ≤ 16777216) : Calls Try.prog 35 #[vl, .int .i64 n, .int .i64 d] w fun e w' => ∃ p c, e = .returned (.slice p n c) ∧ w'.ownsRow w.heap.size 45 2 (.slice p n c) n (cr encB (boxI l n d)) ∧ Below w.heap.size w w' := by
  obtain ⟨i0, hi, hz0, hz1, hz2⟩ := info_parts info_ivB
  obtain ⟨pl, cl, rfl⟩ := hl.cut
  have hm := hl.1
  unfold maxLen at hm
  have HL := Lib.hid hl
  have H0 := Lib.hid (own_emptyB w)
  have B0 : Below w.heap.size w (w.alloc (.cells #[] 45)) := (Below.refl _ _).alloc (Nat.le_refl _) _
  have HB := Lib.hid B0
  clear hl B0
  go_enter Try.func35, Try.ntmps35
  go_wp2_with (fail)
  go_loopw [7, 8] (fun v i wr => ∃ k : Nat, i = .int .i64 k ∧ k ≤ n ∧ wr.ownsRow w.heap.size 45 2 v k (cr encB (boxI l k d)) ∧ Below w.heap.size w wr) (fun v i _ => n - (intOf i).toNat)
  case atStart => exact ⟨0, rfl, Nat.zero_le _, H0.out, HB.out⟩
  case round =>
    clear H0 HB
    obtain ⟨k, rfl, hk, hrow, hB⟩ := hrel
    obtain ⟨pv, cv, rfl⟩ := own_slice hrow
    have HR := Lib.hid hrow
    have HBr := Lib.hid hB
    have hsr := hB.size
    by_cases hlt : k < n
    · have i2 : (k : Int) < n := by omega
      obtain ⟨⟨p, q⟩, hpq⟩ : ∃ x, l.getD k (0, 0) = x := ⟨_, rfl⟩
      have hsn := boxI_snoc l k d
      rw [hpq] at hsn
      have KN := Lib.hid (fun w => r2near p q d w h1 h2)
      obtain ⟨⟨r1, r2⟩, hr⟩ : ∃ r, nearI (p, q) d = r := ⟨_, rfl⟩
      rw [hr] at hsn KN
      dsimp only at KN
      have HSN := Lib.hid hsn
      clear hsn hr hrow hB
      by_cases hll : k < l.length
      · have i3 : (k : Int) < l.length := by omega
        have hx : l[k]? = some (p, q) := by rw [List.getD_eq_getElem?_getD, List.getElem?_eq_getElem hll] at hpq; rw [List.getElem?_eq_getElem hll]; exact congrArg some hpq
        obtain ⟨bl, ol, rfl, hbl, rdl⟩ := vx_rd HL.out hx
        obtain ⟨f0, f1⟩ := rdl ⟨wr.alloc (.cells #[.int .i64 0, .int .i64 0] 45), HBr.out.alloc hsr _⟩
        dsimp only at f0 f1
        clear rdl hx hpq
        go_wp2_with (fail)
        refine (KN.out _).mono ?_
        rintro e w5 ⟨rfl, hB5⟩
        have hrow5 := own_keptN (HR.out.alloc (.cells #[.int .i64 p, .int .i64 q] 45)) hB5
        have hB6 := (HBr.out.alloc hsr (.cells #[.int .i64 p, .int .i64 q] 45)).trans (hB5.mono (by rw [alloc_sz]; omega))
        have hs5 := hB6.size
        have HR5 := Lib.hid hrow5
        have HB6 := Lib.hid hB6
        clear hB5 hrow5 hB6 KN
        go_wp2_with (at_builtin; refine wpList_append_own _ rfl (.tmp 25) (.tmp 29) 26 rfl w.heap.size 45 i0 (.agg #[.int .i64 0, .int .i64 0]) 2 16 Try.underlying26 hi hz0 hz1 hz2 rfl (by decide) (.slice pv k cv) k _ rfl (HR5.out.alloc _) ⟨w5.heap.size, 0, none⟩ 1 1 (encB (r1, r2)) rfl rfl (new_b _ (r1, r2)) (one_b _) (by unfold maxLen; omega) (by omega) (by rw [alloc_sz]; omega) ?_)
        intro v' w8 hown' hgrow _
        have hB8 : Below w.heap.size w w8 := Below.grown (HB6.out.alloc hs5 _) hgrow (by rw [alloc_sz]; omega) (fun i hi => (HR5.out.lt i hi).1)
        obtain ⟨p8, c8, rfl⟩ := own_slice hown'
        have HR8 := Lib.hid hown'
        have HB8 := Lib.hid hB8
        clear hown' hgrow hB8
        go_wp2_with (fail)
        go_roundw
        case rel =>
          refine ⟨k + 1, by go_num, by omega, ?_, HB8.out⟩
          rw [HSN.out, cr_snoc]
          exact HR8.out
        case measure => simp [intOf]; omega
      · have i3 : (l.length : Int) ≤ k := by omega
        have he : ((0 : Int), (0 : Int)) = (p, q) := by rw [← hpq, List.getD_eq_getElem?_getD, List.getElem?_eq_none (by omega)]; rfl
        obtain ⟨rfl, rfl⟩ := Prod.mk.inj he
        clear he hpq
        go_wp2_with (fail)
        refine (KN.out _).mono ?_
        rintro e w5 ⟨rfl, hB5⟩
        have hrow5 := own_keptN (HR.out.alloc (.cells #[.int .i64 0, .int .i64 0] 45)) hB5
        have hB6 := (HBr.out.alloc hsr (.cells #[.int .i64 0, .int .i64 0] 45)).trans (hB5.mono (by rw [alloc_sz]; omega))
        have hs5 := hB6.size
        have HR5 := Lib.hid hrow5
        have HB6 := Lib.hid hB6
        clear hB5 hrow5 hB6 KN
        go_wp2_with (at_builtin; refine wpList_append_own _ rfl (.tmp 25) (.tmp 29) 26 rfl w.heap.size 45 i0 (.agg #[.int .i64 0, .int .i64 0]) 2 16 Try.underlying26 hi hz0 hz1 hz2 rfl (by decide) (.slice pv k cv) k _ rfl (HR5.out.alloc _) ⟨w5.heap.size, 0, none⟩ 1 1 (encB (r1, r2)) rfl rfl (new_b _ (r1, r2)) (one_b _) (by unfold maxLen; omega) (by omega) (by rw [alloc_sz]; omega) ?_)
        intro v' w8 hown' hgrow _
        have hB8 : Below w.heap.size w w8 := Below.grown (HB6.out.alloc hs5 _) hgrow (by rw [alloc_sz]; omega) (fun i hi => (HR5.out.lt i hi).1)
        obtain ⟨p8, c8, rfl⟩ := own_slice hown'
        have HR8 := Lib.hid hown'
        have HB8 := Lib.hid hB8
        clear hown' hgrow hB8
        go_wp2_with (fail)
        go_roundw
        case rel =>
          refine ⟨k + 1, by go_num, by omega, ?_, HB8.out⟩
          rw [HSN.out, cr_snoc]
          exact HR8.out
        case measure => simp [intOf]; omega
    · obtain rfl : n = k := by omega
      have i2 : ¬ (n : Int) < n := by omega
      go_wp2_with (fail)
      go_ret
      exact ⟨_, _, rfl, hrow, hB⟩
end Go.Proofs.Ytecmgiihacigaaa

namespace Go.Proofs.Ytecmgiihacigaaa
open Go.ChangeShapes Go.WideShapes Go.ChangeAt Go.RowKit Go.Maps
set_option linter.unusedVariables false
set_option linter.unusedSimpArgs false
set_option maxRecDepth 100000
attribute [local irreducible] Calls
theorem keyZ {i : Int} (h : W64 i) : keyOf Try.prog 3 (.int .i64 i) = some (.int .i64 i) := keyOf_int_mk Try.underlying3 (wf64i h)
theorem lawZ : Keyed Try.prog 3 := int_keyed Try.underlying3
/-- What the map from indices to indices holds. -/
def MpK (M : Int → Option Nat) (D : DataW Unit) : Prop := IsMap D ∧ ∀ i : Int, W64 i → Maps.has D (.int .i64 i) = (M i).isSome ∧ ∀ a, M i = some a → ∀ z, D.atKey (.int .i64 i) z = dN a
def MpI (mb n : Nat) (M : Int → Option Nat) (W : World) : Prop := ∃ D, W.ownsMap Try.prog 3 elN mb n D ∧ MpK M D
def updM (M : Int → Option Nat) (i : Int) (a : Nat) : Int → Option Nat := fun j => if j = i then some a else M j
theorem mpK_start : MpK (fun _ => none) (.map []) := ⟨isMap_empty, fun x _ => ⟨by simp [Maps.has], fun a h => by cases h⟩⟩
theorem mpK_put {M : Int → Option Nat} {D : DataW Unit} (h : MpK M D) (i : Int) (a : Nat) : MpK (updM M i a) (D.put (.int .i64 i) (dN a)) := by
  have hk : WideAt.IsKeyLit (.int .i64 i) := trivial
  refine ⟨h.1.put _ _, fun j hj => ?_⟩
  by_cases q : j = i
  · subst q
    refine ⟨?_, fun b hb z => ?_⟩
    · rw [has_put_same h.1 hk]
      simp [updM]
    · rw [atKey_put_same h.1 hk]
      simp only [updM, if_pos, Option.some.injEq] at hb
      rw [hb]
  · have q' : (Lit.int .i64 j) ≠ .int .i64 i := fun e => q (by simpa using e)
    refine ⟨?_, fun b hb z => ?_⟩
    · rw [has_put_other q', (h.2 j hj).1]
      simp [updM, q]
    · simp only [updM, if_neg q] at hb
      rw [atKey_put_other q', (h.2 j hj).2 b hb]
section
variable {mb n : Nat} {M : Int → Option Nat} {W W' : World}
theorem MpI.kept {row : Option Nat} (h : MpI mb n M W) (hg : W.grownBy W' row) (hne : some mb ≠ row) : MpI mb n M W' := by
  obtain ⟨D, h1, h2⟩ := h
  exact ⟨D, h1.kept hg hne, h2⟩
theorem MpI.lt (h : MpI mb n M W) : mb < W.heap.size := by
  obtain ⟨D, h1, _⟩ := h
  exact h1.lt
theorem MpI.new (W : World) : MpI W.heap.size 0 (fun _ => none) (W.alloc (.map #[] 0)) := ⟨_, World.ownsMap_made (H := Unit) W Try.prog 3 elN, mpK_start⟩
end
end Go.Proofs.Ytecmgiihacigaaa

namespace Go.Proofs.Ytecmgiihacigaaa
open Go.ChangeShapes Go.WideShapes Go.ChangeAt Go.RowKit Go.Maps
set_option linter.unusedVariables false
set_option linter.unusedSimpArgs false
set_option maxRecDepth 100000
attribute [local irreducible] Calls
theorem pt_one (w : World) : Calls Try.prog 24 #[.int .i64 65536] w fun e w' => e = .returned (.agg #[.int .i64 65536, .int .i64 65536]) ∧ Below w.heap.size w w' := by
  have h := r2point 65536 w
  rwa [show mkLo 65536 65536 = 65536 by decide, show mkHi 65536 65536 = 65536 by decide] at h
end Go.Proofs.Ytecmgiihacigaaa
