/-
  The tape's reference: Arity, same, SameBoxes.
  The tape's reference: Same.
  The tape's reference: SameRows.
  The reference's Near and Boxes.
  Package tape: the map of Optimize.
  law08: one, num.
-/
import Derived.Test.YtajddejeglhbhaaU7
import Derived.Test.YtajddejeglhbhaaR2
namespace Go.Proofs.Ytajddejeglhbhaa
open Go.ChangeShapes Go.WideShapes Go.ChangeAt Go.RowKit
set_option linter.unusedVariables false
set_option linter.unusedSimpArgs false
set_option maxRecDepth 100000
attribute [local irreducible] Calls
def raI (op : Int) : Int := if 1 ≤ op ∧ op ≤ 3 then 0 else if 4 ≤ op ∧ op ≤ 6 then 1 else if 7 ≤ op ∧ op ≤ 10 then 2 else -1
theorem rarity_ok (op : Int) (w : World) : Calls Try.prog 30 #[.int .i64 op] w fun e w' => e = .returned (.int .i64 (raI op)) ∧ Below w.heap.size w w' := by
  by_cases h0 : op < 1
  · rw [show raI op = -1 by unfold raI; (repeat' split) <;> omega]
    skip
    have n1 : ¬ op ≥ 1 := (by omega); have n4 : ¬ op ≥ 4 := (by omega); have n7 : ¬ op ≥ 7 := (by omega)
    skip
    go_enter Try.func30, Try.ntmps30
    go_wp2_with (fail)
    go_ret
    exact ⟨rfl, Below.refl _ _⟩
  by_cases h1 : op ≤ 3
  · rw [show raI op = 0 by unfold raI; (repeat' split) <;> omega]
    have p1 : op ≥ 1 := (by omega)
    have n4 : ¬ op ≥ 4 := (by omega); have n7 : ¬ op ≥ 7 := (by omega)
    skip
    go_enter Try.func30, Try.ntmps30
    go_wp2_with (fail)
    go_ret
    exact ⟨rfl, Below.refl _ _⟩
  by_cases h2 : op ≤ 6
  · rw [show raI op = 1 by unfold raI; (repeat' split) <;> omega]
    have p1 : op ≥ 1 := (by omega); have p4 : op ≥ 4 := (by omega)
    have n7 : ¬ op ≥ 7 := (by omega)
    have m3 : ¬ op ≤ 3 := (by omega)
    go_enter Try.func30, Try.ntmps30
    go_wp2_with (fail)
    go_ret
    exact ⟨rfl, Below.refl _ _⟩
  by_cases h3 : op ≤ 10
  · rw [show raI op = 2 by unfold raI; (repeat' split) <;> omega]
    have p1 : op ≥ 1 := (by omega); have p4 : op ≥ 4 := (by omega); have p7 : op ≥ 7 := (by omega)
    skip
    have m3 : ¬ op ≤ 3 := (by omega); have m6 : ¬ op ≤ 6 := (by omega)
    go_enter Try.func30, Try.ntmps30
    go_wp2_with (fail)
    go_ret
    exact ⟨rfl, Below.refl _ _⟩
  rw [show raI op = -1 by unfold raI; (repeat' split) <;> omega]
  have p1 : op ≥ 1 := by omega
  have p4 : op ≥ 4 := by omega
  have p7 : op ≥ 7 := by omega
  have m3 : ¬ op ≤ 3 := by omega
  have m6 : ¬ op ≤ 6 := by omega
  have m10 : ¬ op ≤ 10 := by omega
  go_enter Try.func30, Try.ntmps30
  go_wp2_with (fail)
  go_ret
  exact ⟨rfl, Below.refl _ _⟩
theorem r2same (a b c d : Int) (w : World) : Calls Try.prog 29 #[.agg #[.int .i64 a, .int .i64 b], .agg #[.int .i64 c, .int .i64 d]] w fun e w' => e = .returned (.bool ((a == c) && (b == d))) ∧ Below w.heap.size w w' := by
  cases h1 : (a == c) with
  | false => exact r2same_2 a b c d w h1
  | true =>
    cases h2 : (b == d) with
    | false => exact r2same_1 a b c d w h1 h2
    | true => exact r2same_0 a b c d w h1 h2
set_option maxHeartbeats 4000000 in
theorem isame_ok (x y : Is) (w : World) : Calls Try.prog 51 #[valI' x, valI' y] w fun e w' => e = .returned (.bool ((x.op == y.op) && ((x.a == y.a) && ((x.b == y.b) && ((x.lo == y.lo) && (x.hi == y.hi)))))) ∧ Below w.heap.size w w' := by
  obtain ⟨op, a, b, lo, hi⟩ := x
  obtain ⟨op', a', b', lo', hi'⟩ := y
  unfold valI'
  dsimp only
  have b1 : Below w.heap.size w (w.alloc (.cells #[.int .i64 op, .int .i64 a, .int .i64 b, .int .i64 lo, .int .i64 hi] 59)) := (Below.refl _ _).alloc (Nat.le_refl _) _
  have bb : Below w.heap.size w ((w.alloc (.cells #[.int .i64 op, .int .i64 a, .int .i64 b, .int .i64 lo, .int .i64 hi] 59)).alloc (.cells #[.int .i64 op', .int .i64 a', .int .i64 b', .int .i64 lo', .int .i64 hi'] 59)) := b1.alloc b1.size _
  have KS := Lib.hid (r2same lo hi lo' hi')
  obtain ⟨R, hR⟩ : ∃ R, ((lo == lo') && (hi == hi')) = R := ⟨_, rfl⟩
  rw [hR] at KS ⊢
  clear hR
  cases q1 : (op == op') with
  | false =>
    rw [Bool.false_and]
    go_enter Try.func51, Try.ntmps51
    go_wp2_with (fail)
    go_ret
    exact ⟨rfl, bb⟩
  | true =>
  cases q2 : (a == a') with
  | false =>
    rw [Bool.true_and, Bool.false_and]
    go_enter Try.func51, Try.ntmps51
    go_wp2_with (fail)
    go_ret
    exact ⟨rfl, bb⟩
  | true =>
  cases q3 : (b == b') with
  | false =>
    rw [Bool.true_and, Bool.true_and, Bool.false_and]
    go_enter Try.func51, Try.ntmps51
    go_wp2_with (fail)
    go_ret
    exact ⟨rfl, bb⟩
  | true =>
    rw [Bool.true_and, Bool.true_and, Bool.true_and]
    go_enter Try.func51, Try.ntmps51
    go_wp2_with (fail)
    refine (KS.out _).mono ?_
    rintro e w1 ⟨rfl, hB⟩
    go_wp2_with (fail)
    go_ret
    exact ⟨rfl, below_then bb hB⟩
def sbGo : List (Int × Int) → List (Int × Int) → Bool
  | [], [] => true
  | p :: l, q :: m => ((p.1 == q.1) && (p.2 == q.2)) && sbGo l m
  | _, _ => false
theorem sbGo_self : ∀ l, sbGo l l = true
  | [] => rfl
  | p :: l => by simp [sbGo, sbGo_self l]
set_option maxHeartbeats 8000000 in
theorem sameboxes_ok (va vb : Value) (l m : List (Int × Int)) (N : Nat) (w : World) (ha : Vx w va l) (hb : Vx w vb m) (hl : l.length = N) (hm : m.length = N) : Calls Try.prog 15 #[va, vb] w fun e w' => e = .returned (.bool (sbGo l m)) ∧ Below w.heap.size w w' := by
  obtain ⟨pa, ca, rfl⟩ := ha.cut
  obtain ⟨pb, cb, rfl⟩ := hb.cut
  have hmx := ha.1
  unfold maxLen at hmx
  rw [hl] at ha hmx ⊢
  rw [hm] at hb ⊢
  obtain ⟨R, hR⟩ : ∃ R, sbGo l m = R := ⟨_, rfl⟩
  rw [hR]
  have HA := Lib.hid ha
  have HB := Lib.hid hb
  have HR := Lib.hid hR
  have NL := Lib.hid hl
  have NM := Lib.hid hm
  clear ha hb hR hl hm
  go_enter Try.func15, Try.ntmps15
  go_wp2_with (fail)
  go_loopw [5] (fun i wr => ∃ k : Nat, i = .int .i64 k ∧ k ≤ N ∧ Hid (sbGo (l.drop k) (m.drop k) = R) ∧ Below w.heap.size w wr) (fun i _ => N - (intOf i).toNat)
  case atStart => exact ⟨0, rfl, Nat.zero_le _, HR, Below.refl _ _⟩
  case round =>
    clear HR
    obtain ⟨k, rfl, hk, HR, hB⟩ := hrel
    have HBr := Lib.hid hB
    by_cases hlt : k < N
    · have i2 : (k : Int) < N := by omega
      obtain ⟨⟨p1, p2⟩, hx⟩ : ∃ x, l[k]? = some x := ⟨_, List.getElem?_eq_getElem (by rw [NL.out]; exact hlt)⟩
      obtain ⟨⟨q1, q2⟩, hy⟩ : ∃ x, m[k]? = some x := ⟨_, List.getElem?_eq_getElem (by rw [NM.out]; exact hlt)⟩
      have hd := HR.out
      rw [drop_consG hx, drop_consG hy] at hd
      unfold sbGo at hd
      dsimp only at hd
      obtain ⟨ba, oa, rfl, hba, rda⟩ := vx_rd HA.out hx
      obtain ⟨bb, ob, rfl, hbb, rdb⟩ := vx_rd HB.out hy
      have fa0 := fun g : Grown wr => (rda ⟨g.w, HBr.out.trans (g.h.mono HBr.out.size)⟩).1
      have fa1 := fun g : Grown wr => (rda ⟨g.w, HBr.out.trans (g.h.mono HBr.out.size)⟩).2
      have fb0 := fun g : Grown wr => (rdb ⟨g.w, HBr.out.trans (g.h.mono HBr.out.size)⟩).1
      have fb1 := fun g : Grown wr => (rdb ⟨g.w, HBr.out.trans (g.h.mono HBr.out.size)⟩).2
      dsimp only at fa0 fa1 fb0 fb1
      have KS := Lib.hid (r2same p1 p2 q1 q2)
      obtain ⟨T, hT⟩ : ∃ T, ((p1 == q1) && (p2 == q2)) = T := ⟨_, rfl⟩
      rw [hT] at KS hd
      have HD := Lib.hid hd
      clear hd hT rda rdb hx hy HR hB
      go_wp2_with (fail)
      refine region_pred (lk [(17, fun z_ _ => z_ = .slice (some ⟨ba, oa, none⟩) N ca), (18, fun z_ _ => z_ = .int .i64 (k : Int)), (19, fun z_ _ => z_ = .pointer (some ⟨ba, oa + k * 2, none⟩)), (20, fun z_ _ => z_ = .agg #[.int .i64 p1, .int .i64 p2]), (21, fun z_ _ => z_ = .slice (some ⟨bb, ob, none⟩) N cb), (22, fun z_ _ => z_ = .int .i64 (k : Int)), (23, fun z_ _ => z_ = .pointer (some ⟨bb, ob + k * 2, none⟩)), (24, fun z_ _ => z_ = .agg #[.int .i64 q1, .int .i64 q2]), (25, fun z_ _ => z_ = .bool T), (26, fun z_ _ => z_ = .bool (!T))]) (by kernel_rfl) (by kernel_rfl) (lk_steady _ ⟨steady_eq _, steady_eq _, steady_eq _, steady_eq _, steady_eq _, steady_eq _, steady_eq _, steady_eq _, steady_eq _, steady_eq _, trivial⟩) ?_ ?_
      · refine ⟨?_, ?_, ?_, ?_, ?_, ?_, ?_, ?_, ?_, ?_, trivial⟩
        · refine ob_plain [0] rfl rfl fun aa g h => ?_
          have yy0 := seen_out (v := .slice (some ⟨ba, oa, none⟩) N ca) rfl rfl h.1
          have ee0 := getD_of yy0
          exact tupon_value (v := .slice (some ⟨ba, oa, none⟩) N ca) (by simp [go_sem, ee0, yy0]) (Below.refl _ _) rfl
        · refine ob_plain [5] rfl rfl fun aa g h => ?_
          have yy0 := seen_out (v := .int .i64 (k : Int)) rfl rfl h.1
          have ee0 := getD_of yy0
          exact tupon_value (v := .int .i64 (k : Int)) (by simp [go_sem, ee0, yy0]) (Below.refl _ _) rfl
        · refine ob_plain [17, 18] rfl rfl fun aa g h => ?_
          obtain ⟨_, yy0, rfl⟩ := seen_in rfl h.1
          have ee0 := getD_of yy0
          obtain ⟨_, yy1, rfl⟩ := seen_in rfl h.2.1
          have ee1 := getD_of yy1
          exact tupon_value (v := .pointer (some ⟨ba, oa + k * 2, none⟩)) (by simp [go_sem, ee0, yy0, ee1, yy1, i2]) (Below.refl _ _) rfl
        · refine ob_plain [19] rfl rfl fun aa g h => ?_
          obtain ⟨_, yy0, rfl⟩ := seen_in rfl h.1
          have ee0 := getD_of yy0
          exact tupon_value (v := .agg #[.int .i64 p1, .int .i64 p2]) (by simp [go_sem, ee0, yy0, fa0 g, fa1 g]) (Below.refl _ _) rfl
        · refine ob_plain [1] rfl rfl fun aa g h => ?_
          have yy0 := seen_out (v := .slice (some ⟨bb, ob, none⟩) N cb) rfl rfl h.1
          have ee0 := getD_of yy0
          exact tupon_value (v := .slice (some ⟨bb, ob, none⟩) N cb) (by simp [go_sem, ee0, yy0]) (Below.refl _ _) rfl
        · refine ob_plain [5] rfl rfl fun aa g h => ?_
          have yy0 := seen_out (v := .int .i64 (k : Int)) rfl rfl h.1
          have ee0 := getD_of yy0
          exact tupon_value (v := .int .i64 (k : Int)) (by simp [go_sem, ee0, yy0]) (Below.refl _ _) rfl
        · refine ob_plain [21, 22] rfl rfl fun aa g h => ?_
          obtain ⟨_, yy0, rfl⟩ := seen_in rfl h.1
          have ee0 := getD_of yy0
          obtain ⟨_, yy1, rfl⟩ := seen_in rfl h.2.1
          have ee1 := getD_of yy1
          exact tupon_value (v := .pointer (some ⟨bb, ob + k * 2, none⟩)) (by simp [go_sem, ee0, yy0, ee1, yy1, i2]) (Below.refl _ _) rfl
        · refine ob_plain [23] rfl rfl fun aa g h => ?_
          obtain ⟨_, yy0, rfl⟩ := seen_in rfl h.1
          have ee0 := getD_of yy0
          exact tupon_value (v := .agg #[.int .i64 q1, .int .i64 q2]) (by simp [go_sem, ee0, yy0, fb0 g, fb1 g]) (Below.refl _ _) rfl
        · refine ob_plain [20, 24] rfl rfl fun aa g h => ?_
          obtain ⟨_, yy0, rfl⟩ := seen_in rfl h.1
          have ee0 := getD_of yy0
          obtain ⟨_, yy1, rfl⟩ := seen_in rfl h.2.1
          have ee1 := getD_of yy1
          refine tupon_enter (f := 29) (args := #[.agg #[.int .i64 p1, .int .i64 p2], .agg #[.int .i64 q1, .int .i64 q2]]) (by simp [go_sem, ee0, yy0, ee1, yy1]) rfl ?_
          exact (KS.out g.w).mono fun e w' ⟨he, hB⟩ => ⟨_, he, hB, rfl⟩
        · refine ob_plain [25] rfl rfl fun aa g h => ?_
          obtain ⟨_, yy0, rfl⟩ := seen_in rfl h.1
          have ee0 := getD_of yy0
          exact tupon_value (v := .bool (!T)) (by simp [go_sem, ee0, yy0]) (Below.refl _ _) rfl
      rintro w9 hB9 _ rfl _ rfl _ rfl _ rfl _ rfl _ rfl _ rfl _ rfl _ rfl _ rfl
      simp only [Act.put, List.setIfInBounds_toArray, List.set_cons_succ, List.set_cons_zero, List.filterMap_nil, finP]
      have hBn := HBr.out.trans (hB9.mono HBr.out.size)
      clear fa0 fa1 fb0 fb1 hB9
      cases T with
      | false =>
        have hd := HD.out
        rw [Bool.false_and] at hd
        subst hd
        go_wp2_with (fail)
        go_ret
        exact ⟨rfl, hBn⟩
      | true =>
        have hd := HD.out
        rw [Bool.true_and] at hd
        have HD2 := Lib.hid hd
        clear hd HD
        go_wp2_with (fail)
        exact ⟨⟨k + 1, by go_num, by omega, HD2, hBn⟩, by simp [intOf]; omega⟩
    · obtain rfl : k = N := by omega
      have i2 : ¬ (k : Int) < k := by omega
      have hd := HR.out
      rw [List.drop_eq_nil_of_le (by rw [NL.out]; exact Nat.le_refl _), List.drop_eq_nil_of_le (by rw [NM.out]; exact Nat.le_refl _)] at hd
      unfold sbGo at hd
      subst hd
      clear HR
      go_wp2_with (fail)
      go_ret
      exact ⟨rfl, hB⟩
end Go.Proofs.Ytajddejeglhbhaa

namespace Go.Proofs.Ytajddejeglhbhaa
open Go.ChangeShapes Go.WideShapes Go.ChangeAt Go.RowKit
set_option linter.unusedVariables false
set_option linter.unusedSimpArgs false
set_option maxRecDepth 100000
attribute [local irreducible] Calls
set_option maxHeartbeats 16000000 in
theorem tsame_ok (n : Int) (va oa' vb ob' : Value) (L : List Is) (out : List Int) (w : World) (ha : Ix w va L) (hoa : Px w oa' out) (hb : Ix w vb L) (hob : Px w ob' out) :
    Calls Try.prog 26 #[.agg #[.int .i64 n, va, oa'], .agg #[.int .i64 n, vb, ob']] w fun e w' => e = .returned (.bool true) ∧ Below w.heap.size w w' := by
  obtain ⟨pa, ca, rfl⟩ := ha.cut
  obtain ⟨pb, cb, rfl⟩ := hb.cut
  obtain ⟨qa, da, rfl⟩ := hoa.cut
  obtain ⟨qb, db, rfl⟩ := hob.cut
  have hm1 := ha.1
  have hm2 := hoa.1
  unfold maxLen at hm1 hm2
  obtain ⟨N, hN⟩ : ∃ N, L.length = N := ⟨_, rfl⟩
  obtain ⟨M, hM⟩ : ∃ M, out.length = M := ⟨_, rfl⟩
  rw [hN] at ha hb hm1 ⊢
  rw [hM] at hoa hob hm2 ⊢
  have hba : Below w.heap.size w ((w.alloc (.cells #[.int .i64 n, .slice pa N ca, .slice qa M da] 25)).alloc (.cells #[.int .i64 n, .slice pb N cb, .slice qb M db] 25)) := ((Below.refl _ _).alloc (Nat.le_refl _) _).alloc (by rw [alloc_sz]; omega) _
  have hX : ((w.alloc (.cells #[.int .i64 n, .slice pa N ca, .slice qa M da] 25)).alloc (.cells #[.int .i64 n, .slice pb N cb, .slice qb M db] 25)).heap[w.heap.size]? = some (.cells #[.int .i64 n, .slice pa N ca, .slice qa M da] 25 (0, 0)) := (((Below.refl _ (w.alloc (.cells #[.int .i64 n, .slice pa N ca, .slice qa M da] 25))).alloc (Nat.le_refl _) _).block _ (by rw [alloc_sz]; omega)).trans (World.alloc_heap_new w _)
  have hY : ((w.alloc (.cells #[.int .i64 n, .slice pa N ca, .slice qa M da] 25)).alloc (.cells #[.int .i64 n, .slice pb N cb, .slice qb M db] 25)).heap[w.heap.size + 1]? = some (.cells #[.int .i64 n, .slice pb N cb, .slice qb M db] 25 (0, 0)) := by
    have := World.alloc_heap_new (w.alloc (.cells #[.int .i64 n, .slice pa N ca, .slice qa M da] 25)) (.cells #[.int .i64 n, .slice pb N cb, .slice qb M db] 25)
    rwa [alloc_sz] at this
  have HLA := Lib.hid ha
  have HLB := Lib.hid hb
  have HOA := Lib.hid hoa
  have HOB := Lib.hid hob
  have HX := Lib.hid hX
  have HY := Lib.hid hY
  have HB := Lib.hid hba
  have NL := Lib.hid hN
  have NM := Lib.hid hM
  clear ha hb hoa hob hX hY hba hN hM
  go_enter Try.func26, Try.ntmps26
  go_wp2_with (fail)
  go_loopw [5] (fun i wr => ∃ k : Nat, i = .int .i64 k ∧ k ≤ N ∧ Below w.heap.size w wr ∧ Hid (wr.heap[w.heap.size]? = some (.cells #[.int .i64 n, .slice pa N ca, .slice qa M da] 25 (0, 0))) ∧ Hid (wr.heap[w.heap.size + 1]? = some (.cells #[.int .i64 n, .slice pb N cb, .slice qb M db] 25 (0, 0)))) (fun i _ => N - (intOf i).toNat)
  case atStart => exact ⟨0, rfl, Nat.zero_le _, HB.out, HX, HY⟩
  case round =>
    clear HX HY HB
    obtain ⟨k, rfl, hk, hB, HX, HY⟩ := hrel
    have HBr := Lib.hid hB
    have x1 := heapN_cellj HX.out (k := 1) rfl
    by_cases hlt : k < N
    · have i2 : (k : Int) < N := by omega
      obtain ⟨⟨op, a, b, lo, hi⟩, hx⟩ : ∃ x, L[k]? = some x := ⟨_, List.getElem?_eq_getElem (by rw [NL.out]; exact hlt)⟩
      obtain ⟨ba, oa, rfl, hba, rda⟩ := is_rd HLA.out hx
      obtain ⟨bb, ob, rfl, hbb, rdb⟩ := is_rd HLB.out hx
      have fa0 := fun g : Grown wr => (rda ⟨g.w, HBr.out.trans (g.h.mono HBr.out.size)⟩).1
      have fa1 := fun g : Grown wr => (rda ⟨g.w, HBr.out.trans (g.h.mono HBr.out.size)⟩).2.1
      have fa2 := fun g : Grown wr => (rda ⟨g.w, HBr.out.trans (g.h.mono HBr.out.size)⟩).2.2.1
      have fa3 := fun g : Grown wr => (rda ⟨g.w, HBr.out.trans (g.h.mono HBr.out.size)⟩).2.2.2.1
      have fa4 := fun g : Grown wr => (rda ⟨g.w, HBr.out.trans (g.h.mono HBr.out.size)⟩).2.2.2.2
      dsimp only at fa0 fa1 fa2 fa3 fa4
      have fb0 := fun g : Grown wr => (rdb ⟨g.w, HBr.out.trans (g.h.mono HBr.out.size)⟩).1
      have fb1 := fun g : Grown wr => (rdb ⟨g.w, HBr.out.trans (g.h.mono HBr.out.size)⟩).2.1
      have fb2 := fun g : Grown wr => (rdb ⟨g.w, HBr.out.trans (g.h.mono HBr.out.size)⟩).2.2.1
      have fb3 := fun g : Grown wr => (rdb ⟨g.w, HBr.out.trans (g.h.mono HBr.out.size)⟩).2.2.2.1
      have fb4 := fun g : Grown wr => (rdb ⟨g.w, HBr.out.trans (g.h.mono HBr.out.size)⟩).2.2.2.2
      dsimp only at fb0 fb1 fb2 fb3 fb4
      have ka := fun g : Grown wr => heapN_cellj ((g.h.block _ (Array.getElem?_eq_some_iff.1 HX.out).1).trans HX.out) (k := 1) rfl
      have kb := fun g : Grown wr => heapN_cellj ((g.h.block _ (Array.getElem?_eq_some_iff.1 HY.out).1).trans HY.out) (k := 1) rfl
      have KS := Lib.hid (fun w => isame_ok ⟨op, a, b, lo, hi⟩ ⟨op, a, b, lo, hi⟩ w)
      simp only [beq_self_eq_true, Bool.and_self, valI'] at KS
      have HXb := Lib.hid (fun (w9 : World) (h : Below wr.heap.size wr w9) => And.intro ((h.block _ (Array.getElem?_eq_some_iff.1 HX.out).1).trans HX.out) ((h.block _ (Array.getElem?_eq_some_iff.1 HY.out).1).trans HY.out))
      clear rda rdb hx hB HX HY
      go_wp2_with (fail)
      refine region_pred (lk [(37, fun z_ _ => z_ = .pointer (some ⟨w.heap.size, 1, none⟩)), (38, fun z_ _ => z_ = .slice (some ⟨ba, oa, none⟩) N ca), (39, fun z_ _ => z_ = .int .i64 (k : Int)), (40, fun z_ _ => z_ = .pointer (some ⟨ba, oa + k * 5, none⟩)), (41, fun z_ _ => z_ = .agg #[.int .i64 op, .int .i64 a, .int .i64 b, .int .i64 lo, .int .i64 hi]), (42, fun z_ _ => z_ = .pointer (some ⟨w.heap.size + 1, 1, none⟩)), (43, fun z_ _ => z_ = .slice (some ⟨bb, ob, none⟩) N cb), (44, fun z_ _ => z_ = .int .i64 (k : Int)), (45, fun z_ _ => z_ = .pointer (some ⟨bb, ob + k * 5, none⟩)), (46, fun z_ _ => z_ = .agg #[.int .i64 op, .int .i64 a, .int .i64 b, .int .i64 lo, .int .i64 hi]), (47, fun z_ _ => z_ = .bool true), (48, fun z_ _ => z_ = .bool false)]) (by kernel_rfl) (by kernel_rfl) (lk_steady _ ⟨steady_eq _, steady_eq _, steady_eq _, steady_eq _, steady_eq _, steady_eq _, steady_eq _, steady_eq _, steady_eq _, steady_eq _, steady_eq _, steady_eq _, trivial⟩) ?_ ?_
      · refine ⟨?_, ?_, ?_, ?_, ?_, ?_, ?_, ?_, ?_, ?_, ?_, ?_, trivial⟩
        · refine ob_plain [2] rfl rfl fun aa g h => ?_
          have yy0 := seen_out (v := .pointer (some ⟨w.heap.size, 0, none⟩)) rfl rfl h.1
          have ee0 := getD_of yy0
          exact tupon_value (v := .pointer (some ⟨w.heap.size, 1, none⟩)) (by simp [go_sem, ee0, yy0]) (Below.refl _ _) rfl
        · refine ob_plain [37] rfl rfl fun aa g h => ?_
          obtain ⟨_, yy0, rfl⟩ := seen_in rfl h.1
          have ee0 := getD_of yy0
          exact tupon_value (v := .slice (some ⟨ba, oa, none⟩) N ca) (by simp [go_sem, ee0, yy0, ka g]) (Below.refl _ _) rfl
        · refine ob_plain [5] rfl rfl fun aa g h => ?_
          have yy0 := seen_out (v := .int .i64 (k : Int)) rfl rfl h.1
          have ee0 := getD_of yy0
          exact tupon_value (v := .int .i64 (k : Int)) (by simp [go_sem, ee0, yy0]) (Below.refl _ _) rfl
        · refine ob_plain [38, 39] rfl rfl fun aa g h => ?_
          obtain ⟨_, yy0, rfl⟩ := seen_in rfl h.1
          have ee0 := getD_of yy0
          obtain ⟨_, yy1, rfl⟩ := seen_in rfl h.2.1
          have ee1 := getD_of yy1
          exact tupon_value (v := .pointer (some ⟨ba, oa + k * 5, none⟩)) (by simp [go_sem, ee0, yy0, ee1, yy1, i2]) (Below.refl _ _) rfl
        · refine ob_plain [40] rfl rfl fun aa g h => ?_
          obtain ⟨_, yy0, rfl⟩ := seen_in rfl h.1
          have ee0 := getD_of yy0
          exact tupon_value (v := .agg #[.int .i64 op, .int .i64 a, .int .i64 b, .int .i64 lo, .int .i64 hi]) (by simp [go_sem, ee0, yy0, fa0 g, fa1 g, fa2 g, fa3 g, fa4 g]) (Below.refl _ _) rfl
        · refine ob_plain [3] rfl rfl fun aa g h => ?_
          have yy0 := seen_out (v := .pointer (some ⟨w.heap.size + 1, 0, none⟩)) rfl rfl h.1
          have ee0 := getD_of yy0
          exact tupon_value (v := .pointer (some ⟨w.heap.size + 1, 1, none⟩)) (by simp [go_sem, ee0, yy0]) (Below.refl _ _) rfl
        · refine ob_plain [42] rfl rfl fun aa g h => ?_
          obtain ⟨_, yy0, rfl⟩ := seen_in rfl h.1
          have ee0 := getD_of yy0
          exact tupon_value (v := .slice (some ⟨bb, ob, none⟩) N cb) (by simp [go_sem, ee0, yy0, kb g]) (Below.refl _ _) rfl
        · refine ob_plain [5] rfl rfl fun aa g h => ?_
          have yy0 := seen_out (v := .int .i64 (k : Int)) rfl rfl h.1
          have ee0 := getD_of yy0
          exact tupon_value (v := .int .i64 (k : Int)) (by simp [go_sem, ee0, yy0]) (Below.refl _ _) rfl
        · refine ob_plain [43, 44] rfl rfl fun aa g h => ?_
          obtain ⟨_, yy0, rfl⟩ := seen_in rfl h.1
          have ee0 := getD_of yy0
          obtain ⟨_, yy1, rfl⟩ := seen_in rfl h.2.1
          have ee1 := getD_of yy1
          exact tupon_value (v := .pointer (some ⟨bb, ob + k * 5, none⟩)) (by simp [go_sem, ee0, yy0, ee1, yy1, i2]) (Below.refl _ _) rfl
        · refine ob_plain [45] rfl rfl fun aa g h => ?_
          obtain ⟨_, yy0, rfl⟩ := seen_in rfl h.1
          have ee0 := getD_of yy0
          exact tupon_value (v := .agg #[.int .i64 op, .int .i64 a, .int .i64 b, .int .i64 lo, .int .i64 hi]) (by simp [go_sem, ee0, yy0, fb0 g, fb1 g, fb2 g, fb3 g, fb4 g]) (Below.refl _ _) rfl
        · refine ob_plain [41, 46] rfl rfl fun aa g h => ?_
          obtain ⟨_, yy0, rfl⟩ := seen_in rfl h.1
          have ee0 := getD_of yy0
          obtain ⟨_, yy1, rfl⟩ := seen_in rfl h.2.1
          have ee1 := getD_of yy1
          refine tupon_enter (f := 51) (args := #[.agg #[.int .i64 op, .int .i64 a, .int .i64 b, .int .i64 lo, .int .i64 hi], .agg #[.int .i64 op, .int .i64 a, .int .i64 b, .int .i64 lo, .int .i64 hi]]) (by simp [go_sem, ee0, yy0, ee1, yy1]) rfl ?_
          exact (KS.out g.w).mono fun e w' ⟨he, hB⟩ => ⟨_, he, hB, rfl⟩
        · refine ob_plain [47] rfl rfl fun aa g h => ?_
          obtain ⟨_, yy0, rfl⟩ := seen_in rfl h.1
          have ee0 := getD_of yy0
          exact tupon_value (v := .bool false) (by simp [go_sem, ee0, yy0]) (Below.refl _ _) rfl
      rintro w9 hB9 _ rfl _ rfl _ rfl _ rfl _ rfl _ rfl _ rfl _ rfl _ rfl _ rfl _ rfl _ rfl
      simp only [Act.put, List.setIfInBounds_toArray, List.set_cons_succ, List.set_cons_zero, List.filterMap_nil, finP]
      have hBn := HBr.out.trans (hB9.mono HBr.out.size)
      obtain ⟨hX9, hY9⟩ := HXb.out w9 hB9
      have HX9 := Lib.hid hX9
      have HY9 := Lib.hid hY9
      clear fa0 fa1 fa2 fa3 fa4 fb0 fb1 fb2 fb3 fb4 ka kb hB9 hX9 hY9 x1
      go_wp2_with (fail)
      exact ⟨⟨k + 1, by go_num, by omega, hBn, HX9, HY9⟩, by simp [intOf]; omega⟩
    · obtain rfl : N = k := by omega
      have i2 : ¬ (N : Int) < N := by omega
      clear hB
      go_wp2_with (fail)
      clear x1
      go_loopw [6] (fun i wr => ∃ k : Nat, i = .int .i64 k ∧ k ≤ M ∧ Below w.heap.size w wr ∧ Hid (wr.heap[w.heap.size]? = some (.cells #[.int .i64 n, .slice pa N ca, .slice qa M da] 25 (0, 0))) ∧ Hid (wr.heap[w.heap.size + 1]? = some (.cells #[.int .i64 n, .slice pb N cb, .slice qb M db] 25 (0, 0)))) (fun i _ => M - (intOf i).toNat)
      case atStart => exact ⟨0, rfl, Nat.zero_le _, HBr.out, HX, HY⟩
      case round =>
        clear HX HY HBr
        obtain ⟨k, rfl, hk, hB, HX, HY⟩ := hrel
        have HBr := Lib.hid hB
        have x2 := heapN_cellj HX.out (k := 2) rfl
        by_cases hlt : k < M
        · have i2 : (k : Int) < M := by omega
          obtain ⟨y, hx⟩ : ∃ x, out[k]? = some x := ⟨_, List.getElem?_eq_getElem (by rw [NM.out]; exact hlt)⟩
          obtain ⟨ba, oa, rfl, hba, rda⟩ := px_rd HOA.out hx
          obtain ⟨bb, ob, rfl, hbb, rdb⟩ := px_rd HOB.out hx
          have fa0 := fun g : Grown wr => rda ⟨g.w, HBr.out.trans (g.h.mono HBr.out.size)⟩
          dsimp only at fa0
          have fb0 := fun g : Grown wr => rdb ⟨g.w, HBr.out.trans (g.h.mono HBr.out.size)⟩
          dsimp only at fb0
          have ka := fun g : Grown wr => heapN_cellj ((g.h.block _ (Array.getElem?_eq_some_iff.1 HX.out).1).trans HX.out) (k := 2) rfl
          have kb := fun g : Grown wr => heapN_cellj ((g.h.block _ (Array.getElem?_eq_some_iff.1 HY.out).1).trans HY.out) (k := 2) rfl
          have HXb := Lib.hid (fun (w9 : World) (h : Below wr.heap.size wr w9) => And.intro ((h.block _ (Array.getElem?_eq_some_iff.1 HX.out).1).trans HX.out) ((h.block _ (Array.getElem?_eq_some_iff.1 HY.out).1).trans HY.out))
          clear rda rdb hx hB HX HY
          go_wp2_with (fail)
          refine region_pred (lk [(56, fun z_ _ => z_ = .pointer (some ⟨w.heap.size, 2, none⟩)), (57, fun z_ _ => z_ = .slice (some ⟨ba, oa, none⟩) M da), (58, fun z_ _ => z_ = .int .i64 (k : Int)), (59, fun z_ _ => z_ = .pointer (some ⟨ba, oa + k, none⟩)), (60, fun z_ _ => z_ = .int .i64 y), (61, fun z_ _ => z_ = .pointer (some ⟨w.heap.size + 1, 2, none⟩)), (62, fun z_ _ => z_ = .slice (some ⟨bb, ob, none⟩) M db), (63, fun z_ _ => z_ = .int .i64 (k : Int)), (64, fun z_ _ => z_ = .pointer (some ⟨bb, ob + k, none⟩)), (65, fun z_ _ => z_ = .int .i64 y), (66, fun z_ _ => z_ = .bool false)]) (by kernel_rfl) (by kernel_rfl) (lk_steady _ ⟨steady_eq _, steady_eq _, steady_eq _, steady_eq _, steady_eq _, steady_eq _, steady_eq _, steady_eq _, steady_eq _, steady_eq _, steady_eq _, trivial⟩) ?_ ?_
          · refine ⟨?_, ?_, ?_, ?_, ?_, ?_, ?_, ?_, ?_, ?_, ?_, trivial⟩
            · refine ob_plain [2] rfl rfl fun aa g h => ?_
              have yy0 := seen_out (v := .pointer (some ⟨w.heap.size, 0, none⟩)) rfl rfl h.1
              have ee0 := getD_of yy0
              exact tupon_value (v := .pointer (some ⟨w.heap.size, 2, none⟩)) (by simp [go_sem, ee0, yy0]) (Below.refl _ _) rfl
            · refine ob_plain [56] rfl rfl fun aa g h => ?_
              obtain ⟨_, yy0, rfl⟩ := seen_in rfl h.1
              have ee0 := getD_of yy0
              exact tupon_value (v := .slice (some ⟨ba, oa, none⟩) M da) (by simp [go_sem, ee0, yy0, ka g]) (Below.refl _ _) rfl
            · refine ob_plain [6] rfl rfl fun aa g h => ?_
              have yy0 := seen_out (v := .int .i64 (k : Int)) rfl rfl h.1
              have ee0 := getD_of yy0
              exact tupon_value (v := .int .i64 (k : Int)) (by simp [go_sem, ee0, yy0]) (Below.refl _ _) rfl
            · refine ob_plain [57, 58] rfl rfl fun aa g h => ?_
              obtain ⟨_, yy0, rfl⟩ := seen_in rfl h.1
              have ee0 := getD_of yy0
              obtain ⟨_, yy1, rfl⟩ := seen_in rfl h.2.1
              have ee1 := getD_of yy1
              exact tupon_value (v := .pointer (some ⟨ba, oa + k, none⟩)) (by simp [go_sem, ee0, yy0, ee1, yy1, i2]) (Below.refl _ _) rfl
            · refine ob_plain [59] rfl rfl fun aa g h => ?_
              obtain ⟨_, yy0, rfl⟩ := seen_in rfl h.1
              have ee0 := getD_of yy0
              exact tupon_value (v := .int .i64 y) (by simp [go_sem, ee0, yy0, fa0 g]) (Below.refl _ _) rfl
            · refine ob_plain [3] rfl rfl fun aa g h => ?_
              have yy0 := seen_out (v := .pointer (some ⟨w.heap.size + 1, 0, none⟩)) rfl rfl h.1
              have ee0 := getD_of yy0
              exact tupon_value (v := .pointer (some ⟨w.heap.size + 1, 2, none⟩)) (by simp [go_sem, ee0, yy0]) (Below.refl _ _) rfl
            · refine ob_plain [61] rfl rfl fun aa g h => ?_
              obtain ⟨_, yy0, rfl⟩ := seen_in rfl h.1
              have ee0 := getD_of yy0
              exact tupon_value (v := .slice (some ⟨bb, ob, none⟩) M db) (by simp [go_sem, ee0, yy0, kb g]) (Below.refl _ _) rfl
            · refine ob_plain [6] rfl rfl fun aa g h => ?_
              have yy0 := seen_out (v := .int .i64 (k : Int)) rfl rfl h.1
              have ee0 := getD_of yy0
              exact tupon_value (v := .int .i64 (k : Int)) (by simp [go_sem, ee0, yy0]) (Below.refl _ _) rfl
            · refine ob_plain [62, 63] rfl rfl fun aa g h => ?_
              obtain ⟨_, yy0, rfl⟩ := seen_in rfl h.1
              have ee0 := getD_of yy0
              obtain ⟨_, yy1, rfl⟩ := seen_in rfl h.2.1
              have ee1 := getD_of yy1
              exact tupon_value (v := .pointer (some ⟨bb, ob + k, none⟩)) (by simp [go_sem, ee0, yy0, ee1, yy1, i2]) (Below.refl _ _) rfl
            · refine ob_plain [64] rfl rfl fun aa g h => ?_
              obtain ⟨_, yy0, rfl⟩ := seen_in rfl h.1
              have ee0 := getD_of yy0
              exact tupon_value (v := .int .i64 y) (by simp [go_sem, ee0, yy0, fb0 g]) (Below.refl _ _) rfl
            · refine ob_plain [60, 65] rfl rfl fun aa g h => ?_
              obtain ⟨_, yy0, rfl⟩ := seen_in rfl h.1
              have ee0 := getD_of yy0
              obtain ⟨_, yy1, rfl⟩ := seen_in rfl h.2.1
              have ee1 := getD_of yy1
              exact tupon_value (v := .bool false) (by simp [go_sem, ee0, yy0, ee1, yy1]) (Below.refl _ _) rfl
          rintro w9 hB9 _ rfl _ rfl _ rfl _ rfl _ rfl _ rfl _ rfl _ rfl _ rfl _ rfl _ rfl
          simp only [Act.put, List.setIfInBounds_toArray, List.set_cons_succ, List.set_cons_zero, List.filterMap_nil, finP]
          have hBn := HBr.out.trans (hB9.mono HBr.out.size)
          obtain ⟨hX9, hY9⟩ := HXb.out w9 hB9
          have HX9 := Lib.hid hX9
          have HY9 := Lib.hid hY9
          clear fa0 fb0 ka kb hB9 hX9 hY9 x2
          go_wp2_with (fail)
          exact ⟨⟨k + 1, by go_num, by omega, hBn, HX9, HY9⟩, by simp [intOf]; omega⟩
        · obtain rfl : k = M := by omega
          have i2 : ¬ (k : Int) < k := by omega
          go_wp2_with (fail)
          go_ret
          exact ⟨rfl, hB⟩
end Go.Proofs.Ytajddejeglhbhaa

namespace Go.Proofs.Ytajddejeglhbhaa
open Go.ChangeShapes Go.WideShapes Go.ChangeAt Go.RowKit
set_option linter.unusedVariables false
set_option linter.unusedSimpArgs false
set_option maxRecDepth 100000
attribute [local irreducible] Calls
set_option maxHeartbeats 32000000 in
theorem samerows_ok (va vb : Value) (rows : List (List Nd)) (w : World) (ha : Lx NxO w va rows) (hb : Lx NxO w vb rows) :
    Calls Try.prog 25 #[va, vb] w fun e w' => e = .returned (.bool true) ∧ Below w.heap.size w w' := by
  obtain ⟨pa, ca, rfl⟩ := ha.cut
  obtain ⟨pb, cb, rfl⟩ := hb.cut
  have hm := ha.1
  unfold maxLen at hm
  obtain ⟨N, hN⟩ : ∃ N, rows.length = N := ⟨_, rfl⟩
  rw [hN] at ha hb hm ⊢
  have HA := Lib.hid ha
  have HB := Lib.hid hb
  have NR := Lib.hid hN
  clear ha hb hN
  go_enter Try.func25, Try.ntmps25
  go_wp2_with (fail)
  go_loopw [5] (fun i wr => ∃ k : Nat, i = .int .i64 k ∧ k ≤ N ∧ Below w.heap.size w wr) (fun i _ => N - (intOf i).toNat)
  case atStart => exact ⟨0, rfl, Nat.zero_le _, Below.refl _ _⟩
  case round =>
    obtain ⟨k, rfl, hk, hB⟩ := hrel
    have HBr := Lib.hid hB
    by_cases hlt : k < N
    · have i2 : (k : Int) < N := by omega
      obtain ⟨r, hr⟩ : ∃ r, rows[k]? = some r := ⟨_, List.getElem?_eq_getElem (by rw [NR.out]; exact hlt)⟩
      obtain ⟨ba, oa, xu, rfl, hba, rda⟩ := HA.out.rd grows_nxo hr
      obtain ⟨bb, ob, xv, rfl, hbb, rdb⟩ := HB.out.rd grows_nxo hr
      obtain ⟨_, _, hu⟩ := rda ⟨w, Below.refl _ _⟩
      obtain ⟨_, _, hv⟩ := rdb ⟨w, Below.refl _ _⟩
      obtain ⟨pu, cu, rfl, _, _⟩ := hu.1.2
      obtain ⟨pv, cv, rfl, _, _⟩ := hv.1.2
      have hrm := hu.1.1.1
      unfold maxLen at hrm
      have NU := Lib.hid hu.1.1
      have NV := Lib.hid hv.1.1
      have UA := Lib.hid (fun (W : World) (h : Below w.heap.size w W) => (rda ⟨W, h⟩).2.1)
      have UB := Lib.hid (fun (W : World) (h : Below w.heap.size w W) => (rdb ⟨W, h⟩).2.1)
      dsimp only at UA UB
      have ua := fun g : Grown wr => UA.out g.w (HBr.out.trans (g.h.mono HBr.out.size))
      have ub := fun g : Grown wr => UB.out g.w (HBr.out.trans (g.h.mono HBr.out.size))
      clear rda rdb hr hB hu hv
      go_wp2_with (fail)
      refine region_pred (lk [(18, fun z_ _ => z_ = .slice (some ⟨ba, oa, none⟩) N ca), (19, fun z_ _ => z_ = .int .i64 (k : Int)), (20, fun z_ _ => z_ = .pointer (some ⟨ba, oa + k, none⟩)), (21, fun z_ _ => z_ = .slice pu r.length cu), (22, fun z_ _ => z_ = .int .i64 (r.length : Int)), (23, fun z_ _ => z_ = .slice (some ⟨bb, ob, none⟩) N cb), (24, fun z_ _ => z_ = .int .i64 (k : Int)), (25, fun z_ _ => z_ = .pointer (some ⟨bb, ob + k, none⟩)), (26, fun z_ _ => z_ = .slice pv r.length cv), (27, fun z_ _ => z_ = .int .i64 (r.length : Int)), (28, fun z_ _ => z_ = .bool false)]) (by kernel_rfl) (by kernel_rfl) (lk_steady _ ⟨steady_eq _, steady_eq _, steady_eq _, steady_eq _, steady_eq _, steady_eq _, steady_eq _, steady_eq _, steady_eq _, steady_eq _, steady_eq _, trivial⟩) ?_ ?_
      · refine ⟨?_, ?_, ?_, ?_, ?_, ?_, ?_, ?_, ?_, ?_, ?_, trivial⟩
        · refine ob_plain [0] rfl rfl fun aa g h => ?_
          have yy0 := seen_out (v := .slice (some ⟨ba, oa, none⟩) N ca) rfl rfl h.1
          have ee0 := getD_of yy0
          exact tupon_value (v := .slice (some ⟨ba, oa, none⟩) N ca) (by simp [go_sem, ee0, yy0]) (Below.refl _ _) rfl
        · refine ob_plain [5] rfl rfl fun aa g h => ?_
          have yy0 := seen_out (v := .int .i64 (k : Int)) rfl rfl h.1
          have ee0 := getD_of yy0
          exact tupon_value (v := .int .i64 (k : Int)) (by simp [go_sem, ee0, yy0]) (Below.refl _ _) rfl
        · refine ob_plain [18, 19] rfl rfl fun aa g h => ?_
          obtain ⟨_, yy0, rfl⟩ := seen_in rfl h.1
          have ee0 := getD_of yy0
          obtain ⟨_, yy1, rfl⟩ := seen_in rfl h.2.1
          have ee1 := getD_of yy1
          exact tupon_value (v := .pointer (some ⟨ba, oa + k, none⟩)) (by simp [go_sem, ee0, yy0, ee1, yy1, i2]) (Below.refl _ _) rfl
        · refine ob_plain [20] rfl rfl fun aa g h => ?_
          obtain ⟨_, yy0, rfl⟩ := seen_in rfl h.1
          have ee0 := getD_of yy0
          exact tupon_value (v := .slice pu r.length cu) (by simp [go_sem, ee0, yy0, ua g]) (Below.refl _ _) rfl
        · refine ob_plain [21] rfl rfl fun aa g h => ?_
          obtain ⟨_, yy0, rfl⟩ := seen_in rfl h.1
          have ee0 := getD_of yy0
          exact tupon_value (v := .int .i64 (r.length : Int)) (by simp [go_sem, ee0, yy0]) (Below.refl _ _) rfl
        · refine ob_plain [1] rfl rfl fun aa g h => ?_
          have yy0 := seen_out (v := .slice (some ⟨bb, ob, none⟩) N cb) rfl rfl h.1
          have ee0 := getD_of yy0
          exact tupon_value (v := .slice (some ⟨bb, ob, none⟩) N cb) (by simp [go_sem, ee0, yy0]) (Below.refl _ _) rfl
        · refine ob_plain [5] rfl rfl fun aa g h => ?_
          have yy0 := seen_out (v := .int .i64 (k : Int)) rfl rfl h.1
          have ee0 := getD_of yy0
          exact tupon_value (v := .int .i64 (k : Int)) (by simp [go_sem, ee0, yy0]) (Below.refl _ _) rfl
        · refine ob_plain [23, 24] rfl rfl fun aa g h => ?_
          obtain ⟨_, yy0, rfl⟩ := seen_in rfl h.1
          have ee0 := getD_of yy0
          obtain ⟨_, yy1, rfl⟩ := seen_in rfl h.2.1
          have ee1 := getD_of yy1
          exact tupon_value (v := .pointer (some ⟨bb, ob + k, none⟩)) (by simp [go_sem, ee0, yy0, ee1, yy1, i2]) (Below.refl _ _) rfl
        · refine ob_plain [25] rfl rfl fun aa g h => ?_
          obtain ⟨_, yy0, rfl⟩ := seen_in rfl h.1
          have ee0 := getD_of yy0
          exact tupon_value (v := .slice pv r.length cv) (by simp [go_sem, ee0, yy0, ub g]) (Below.refl _ _) rfl
        · refine ob_plain [26] rfl rfl fun aa g h => ?_
          obtain ⟨_, yy0, rfl⟩ := seen_in rfl h.1
          have ee0 := getD_of yy0
          exact tupon_value (v := .int .i64 (r.length : Int)) (by simp [go_sem, ee0, yy0]) (Below.refl _ _) rfl
        · refine ob_plain [22, 27] rfl rfl fun aa g h => ?_
          obtain ⟨_, yy0, rfl⟩ := seen_in rfl h.1
          have ee0 := getD_of yy0
          obtain ⟨_, yy1, rfl⟩ := seen_in rfl h.2.1
          have ee1 := getD_of yy1
          exact tupon_value (v := .bool false) (by simp [go_sem, ee0, yy0, ee1, yy1]) (Below.refl _ _) rfl
      rintro w9 hB9 _ rfl _ rfl _ rfl _ rfl _ rfl _ rfl _ rfl _ rfl _ rfl _ rfl _ rfl
      simp only [Act.put, List.setIfInBounds_toArray, List.set_cons_succ, List.set_cons_zero, List.filterMap_nil, finP]
      have HBn := Lib.hid (HBr.out.trans (hB9.mono HBr.out.size))
      clear ua ub hB9
      go_wp2_with (fail)
      go_loopw [6] (fun i wr => ∃ j : Nat, i = .int .i64 j ∧ j ≤ r.length ∧ Below w.heap.size w wr) (fun i _ => r.length - (intOf i).toNat)
      case atStart => exact ⟨0, rfl, Nat.zero_le _, HBn.out⟩
      case round =>
        clear HBr HBn
        obtain ⟨j, rfl, hj, hB⟩ := hrel
        have HBr := Lib.hid hB
        have u0 := UA.out wr hB
        have ua := fun g : Grown wr => UA.out g.w (HBr.out.trans (g.h.mono HBr.out.size))
        have ub := fun g : Grown wr => UB.out g.w (HBr.out.trans (g.h.mono HBr.out.size))
        by_cases hjr : j < r.length
        · have i3 : (j : Int) < r.length := by omega
          obtain ⟨⟨op, n, lo, hi⟩, hx⟩ : ∃ x, r[j]? = some x := ⟨_, List.getElem?_eq_getElem hjr⟩
          obtain ⟨bu, ou, rfl, hbu, rdu⟩ := nd_rd NU.out hx
          obtain ⟨bv, ov, rfl, hbv, rdv⟩ := nd_rd NV.out hx
          have fa0 := fun g : Grown wr => (rdu ⟨g.w, HBr.out.trans (g.h.mono HBr.out.size)⟩).1
          have fa1 := fun g : Grown wr => (rdu ⟨g.w, HBr.out.trans (g.h.mono HBr.out.size)⟩).2.1
          have fa2 := fun g : Grown wr => (rdu ⟨g.w, HBr.out.trans (g.h.mono HBr.out.size)⟩).2.2.1
          have fa3 := fun g : Grown wr => (rdu ⟨g.w, HBr.out.trans (g.h.mono HBr.out.size)⟩).2.2.2
          dsimp only at fa0 fa1 fa2 fa3
          have fb0 := fun g : Grown wr => (rdv ⟨g.w, HBr.out.trans (g.h.mono HBr.out.size)⟩).1
          have fb1 := fun g : Grown wr => (rdv ⟨g.w, HBr.out.trans (g.h.mono HBr.out.size)⟩).2.1
          have fb2 := fun g : Grown wr => (rdv ⟨g.w, HBr.out.trans (g.h.mono HBr.out.size)⟩).2.2.1
          have fb3 := fun g : Grown wr => (rdv ⟨g.w, HBr.out.trans (g.h.mono HBr.out.size)⟩).2.2.2
          dsimp only at fb0 fb1 fb2 fb3
          have KS := Lib.hid (fun w => r2same lo hi lo hi w)
          simp only [beq_self_eq_true, Bool.and_self] at KS
          clear rdu rdv hx hB
          go_wp2_with (fail)
          refine region_pred (lk [(38, fun z_ _ => z_ = .slice (some ⟨ba, oa, none⟩) N ca), (39, fun z_ _ => z_ = .int .i64 (k : Int)), (40, fun z_ _ => z_ = .pointer (some ⟨ba, oa + k, none⟩)), (41, fun z_ _ => z_ = .slice (some ⟨bu, ou, none⟩) r.length cu), (42, fun z_ _ => z_ = .int .i64 (j : Int)), (43, fun z_ _ => z_ = .pointer (some ⟨bu, ou + j * 4, none⟩)), (44, fun z_ _ => z_ = .pointer (some ⟨bu, ou + j * 4, none⟩)), (45, fun z_ _ => z_ = .int .i64 op), (46, fun z_ _ => z_ = .slice (some ⟨bb, ob, none⟩) N cb), (47, fun z_ _ => z_ = .int .i64 (k : Int)), (48, fun z_ _ => z_ = .pointer (some ⟨bb, ob + k, none⟩)), (49, fun z_ _ => z_ = .slice (some ⟨bv, ov, none⟩) r.length cv), (50, fun z_ _ => z_ = .int .i64 (j : Int)), (51, fun z_ _ => z_ = .pointer (some ⟨bv, ov + j * 4, none⟩)), (52, fun z_ _ => z_ = .pointer (some ⟨bv, ov + j * 4, none⟩)), (53, fun z_ _ => z_ = .int .i64 op), (54, fun z_ _ => z_ = .bool false), (55, fun z_ _ => z_ = .bool false), (56, fun z_ _ => z_ = .slice (some ⟨ba, oa, none⟩) N ca), (57, fun z_ _ => z_ = .int .i64 (k : Int)), (58, fun z_ _ => z_ = .pointer (some ⟨ba, oa + k, none⟩)), (59, fun z_ _ => z_ = .slice (some ⟨bu, ou, none⟩) r.length cu), (60, fun z_ _ => z_ = .int .i64 (j : Int)), (61, fun z_ _ => z_ = .pointer (some ⟨bu, ou + j * 4, none⟩)), (62, fun z_ _ => z_ = .pointer (some ⟨bu, ou + j * 4 + 1, none⟩)), (63, fun z_ _ => z_ = .int .i64 n), (64, fun z_ _ => z_ = .slice (some ⟨bb, ob, none⟩) N cb), (65, fun z_ _ => z_ = .int .i64 (k : Int)), (66, fun z_ _ => z_ = .pointer (some ⟨bb, ob + k, none⟩)), (67, fun z_ _ => z_ = .slice (some ⟨bv, ov, none⟩) r.length cv), (68, fun z_ _ => z_ = .int .i64 (j : Int)), (69, fun z_ _ => z_ = .pointer (some ⟨bv, ov + j * 4, none⟩)), (70, fun z_ _ => z_ = .pointer (some ⟨bv, ov + j * 4 + 1, none⟩)), (71, fun z_ _ => z_ = .int .i64 n), (72, fun z_ _ => z_ = .bool false), (73, fun z_ _ => z_ = .bool false), (74, fun z_ _ => z_ = .bool false), (75, fun z_ _ => z_ = .slice (some ⟨ba, oa, none⟩) N ca), (76, fun z_ _ => z_ = .int .i64 (k : Int)), (77, fun z_ _ => z_ = .pointer (some ⟨ba, oa + k, none⟩)), (78, fun z_ _ => z_ = .slice (some ⟨bu, ou, none⟩) r.length cu), (79, fun z_ _ => z_ = .int .i64 (j : Int)), (80, fun z_ _ => z_ = .pointer (some ⟨bu, ou + j * 4, none⟩)), (81, fun z_ _ => z_ = .pointer (some ⟨bu, ou + j * 4 + 2, none⟩)), (82, fun z_ _ => z_ = .agg #[.int .i64 lo, .int .i64 hi]), (83, fun z_ _ => z_ = .slice (some ⟨bb, ob, none⟩) N cb), (84, fun z_ _ => z_ = .int .i64 (k : Int)), (85, fun z_ _ => z_ = .pointer (some ⟨bb, ob + k, none⟩)), (86, fun z_ _ => z_ = .slice (some ⟨bv, ov, none⟩) r.length cv), (87, fun z_ _ => z_ = .int .i64 (j : Int)), (88, fun z_ _ => z_ = .pointer (some ⟨bv, ov + j * 4, none⟩)), (89, fun z_ _ => z_ = .pointer (some ⟨bv, ov + j * 4 + 2, none⟩)), (90, fun z_ _ => z_ = .agg #[.int .i64 lo, .int .i64 hi]), (91, fun z_ _ => z_ = .bool true), (92, fun z_ _ => z_ = .bool false), (93, fun z_ _ => z_ = .bool false)]) (by kernel_rfl) (by kernel_rfl) (lk_steady _ ⟨steady_eq _, steady_eq _, steady_eq _, steady_eq _, steady_eq _, steady_eq _, steady_eq _, steady_eq _, steady_eq _, steady_eq _, steady_eq _, steady_eq _, steady_eq _, steady_eq _, steady_eq _, steady_eq _, steady_eq _, steady_eq _, steady_eq _, steady_eq _, steady_eq _, steady_eq _, steady_eq _, steady_eq _, steady_eq _, steady_eq _, steady_eq _, steady_eq _, steady_eq _, steady_eq _, steady_eq _, steady_eq _, steady_eq _, steady_eq _, steady_eq _, steady_eq _, steady_eq _, steady_eq _, steady_eq _, steady_eq _, steady_eq _, steady_eq _, steady_eq _, steady_eq _, steady_eq _, steady_eq _, steady_eq _, steady_eq _, steady_eq _, steady_eq _, steady_eq _, steady_eq _, steady_eq _, steady_eq _, steady_eq _, steady_eq _, trivial⟩) ?_ ?_
          · refine ⟨?_, ?_, ?_, ?_, ?_, ?_, ?_, ?_, ?_, ?_, ?_, ?_, ?_, ?_, ?_, ?_, ?_, ?_, ?_, ?_, ?_, ?_, ?_, ?_, ?_, ?_, ?_, ?_, ?_, ?_, ?_, ?_, ?_, ?_, ?_, ?_, ?_, ?_, ?_, ?_, ?_, ?_, ?_, ?_, ?_, ?_, ?_, ?_, ?_, ?_, ?_, ?_, ?_, ?_, ?_, ?_, trivial⟩
            · refine ob_plain [0] rfl rfl fun aa g h => ?_
              have yy0 := seen_out (v := .slice (some ⟨ba, oa, none⟩) N ca) rfl rfl h.1
              have ee0 := getD_of yy0
              exact tupon_value (v := .slice (some ⟨ba, oa, none⟩) N ca) (by simp [go_sem, ee0, yy0]) (Below.refl _ _) rfl
            · refine ob_plain [5] rfl rfl fun aa g h => ?_
              have yy0 := seen_out (v := .int .i64 (k : Int)) rfl rfl h.1
              have ee0 := getD_of yy0
              exact tupon_value (v := .int .i64 (k : Int)) (by simp [go_sem, ee0, yy0]) (Below.refl _ _) rfl
            · refine ob_plain [38, 39] rfl rfl fun aa g h => ?_
              obtain ⟨_, yy0, rfl⟩ := seen_in rfl h.1
              have ee0 := getD_of yy0
              obtain ⟨_, yy1, rfl⟩ := seen_in rfl h.2.1
              have ee1 := getD_of yy1
              exact tupon_value (v := .pointer (some ⟨ba, oa + k, none⟩)) (by simp [go_sem, ee0, yy0, ee1, yy1, i2]) (Below.refl _ _) rfl
            · refine ob_plain [40] rfl rfl fun aa g h => ?_
              obtain ⟨_, yy0, rfl⟩ := seen_in rfl h.1
              have ee0 := getD_of yy0
              exact tupon_value (v := .slice (some ⟨bu, ou, none⟩) r.length cu) (by simp [go_sem, ee0, yy0, ua g]) (Below.refl _ _) rfl
            · refine ob_plain [6] rfl rfl fun aa g h => ?_
              have yy0 := seen_out (v := .int .i64 (j : Int)) rfl rfl h.1
              have ee0 := getD_of yy0
              exact tupon_value (v := .int .i64 (j : Int)) (by simp [go_sem, ee0, yy0]) (Below.refl _ _) rfl
            · refine ob_plain [41, 42] rfl rfl fun aa g h => ?_
              obtain ⟨_, yy0, rfl⟩ := seen_in rfl h.1
              have ee0 := getD_of yy0
              obtain ⟨_, yy1, rfl⟩ := seen_in rfl h.2.1
              have ee1 := getD_of yy1
              exact tupon_value (v := .pointer (some ⟨bu, ou + j * 4, none⟩)) (by simp [go_sem, ee0, yy0, ee1, yy1, i3]) (Below.refl _ _) rfl
            · refine ob_plain [43] rfl rfl fun aa g h => ?_
              obtain ⟨_, yy0, rfl⟩ := seen_in rfl h.1
              have ee0 := getD_of yy0
              exact tupon_value (v := .pointer (some ⟨bu, ou + j * 4, none⟩)) (by simp [go_sem, ee0, yy0]) (Below.refl _ _) rfl
            · refine ob_plain [44] rfl rfl fun aa g h => ?_
              obtain ⟨_, yy0, rfl⟩ := seen_in rfl h.1
              have ee0 := getD_of yy0
              exact tupon_value (v := .int .i64 op) (by simp [go_sem, ee0, yy0, fa0 g]) (Below.refl _ _) rfl
            · refine ob_plain [1] rfl rfl fun aa g h => ?_
              have yy0 := seen_out (v := .slice (some ⟨bb, ob, none⟩) N cb) rfl rfl h.1
              have ee0 := getD_of yy0
              exact tupon_value (v := .slice (some ⟨bb, ob, none⟩) N cb) (by simp [go_sem, ee0, yy0]) (Below.refl _ _) rfl
            · refine ob_plain [5] rfl rfl fun aa g h => ?_
              have yy0 := seen_out (v := .int .i64 (k : Int)) rfl rfl h.1
              have ee0 := getD_of yy0
              exact tupon_value (v := .int .i64 (k : Int)) (by simp [go_sem, ee0, yy0]) (Below.refl _ _) rfl
            · refine ob_plain [46, 47] rfl rfl fun aa g h => ?_
              obtain ⟨_, yy0, rfl⟩ := seen_in rfl h.1
              have ee0 := getD_of yy0
              obtain ⟨_, yy1, rfl⟩ := seen_in rfl h.2.1
              have ee1 := getD_of yy1
              exact tupon_value (v := .pointer (some ⟨bb, ob + k, none⟩)) (by simp [go_sem, ee0, yy0, ee1, yy1, i2]) (Below.refl _ _) rfl
            · refine ob_plain [48] rfl rfl fun aa g h => ?_
              obtain ⟨_, yy0, rfl⟩ := seen_in rfl h.1
              have ee0 := getD_of yy0
              exact tupon_value (v := .slice (some ⟨bv, ov, none⟩) r.length cv) (by simp [go_sem, ee0, yy0, ub g]) (Below.refl _ _) rfl
            · refine ob_plain [6] rfl rfl fun aa g h => ?_
              have yy0 := seen_out (v := .int .i64 (j : Int)) rfl rfl h.1
              have ee0 := getD_of yy0
              exact tupon_value (v := .int .i64 (j : Int)) (by simp [go_sem, ee0, yy0]) (Below.refl _ _) rfl
            · refine ob_plain [49, 50] rfl rfl fun aa g h => ?_
              obtain ⟨_, yy0, rfl⟩ := seen_in rfl h.1
              have ee0 := getD_of yy0
              obtain ⟨_, yy1, rfl⟩ := seen_in rfl h.2.1
              have ee1 := getD_of yy1
              exact tupon_value (v := .pointer (some ⟨bv, ov + j * 4, none⟩)) (by simp [go_sem, ee0, yy0, ee1, yy1, i3]) (Below.refl _ _) rfl
            · refine ob_plain [51] rfl rfl fun aa g h => ?_
              obtain ⟨_, yy0, rfl⟩ := seen_in rfl h.1
              have ee0 := getD_of yy0
              exact tupon_value (v := .pointer (some ⟨bv, ov + j * 4, none⟩)) (by simp [go_sem, ee0, yy0]) (Below.refl _ _) rfl
            · refine ob_plain [52] rfl rfl fun aa g h => ?_
              obtain ⟨_, yy0, rfl⟩ := seen_in rfl h.1
              have ee0 := getD_of yy0
              exact tupon_value (v := .int .i64 op) (by simp [go_sem, ee0, yy0, fb0 g]) (Below.refl _ _) rfl
            · refine ob_plain [45, 53] rfl rfl fun aa g h => ?_
              obtain ⟨_, yy0, rfl⟩ := seen_in rfl h.1
              have ee0 := getD_of yy0
              obtain ⟨_, yy1, rfl⟩ := seen_in rfl h.2.1
              have ee1 := getD_of yy1
              exact tupon_value (v := .bool false) (by simp [go_sem, ee0, yy0, ee1, yy1]) (Below.refl _ _) rfl
            · refine ob_plain [54] rfl rfl fun aa g h => ?_
              obtain ⟨_, yy0, rfl⟩ := seen_in rfl h.1
              have ee0 := getD_of yy0
              exact tupon_value (v := .bool false) (by simp [go_sem, ee0, yy0]) (Below.refl _ _) rfl
            · refine ob_gtrue [0] _ false 55 rfl rfl rfl rfl (fun v w h => h) fun aa g h => ?_
              have yy0 := seen_out (v := .slice (some ⟨ba, oa, none⟩) N ca) rfl rfl h.1
              have ee0 := getD_of yy0
              exact tupon_value (v := .slice (some ⟨ba, oa, none⟩) N ca) (by simp [go_sem, ee0, yy0]) (Below.refl _ _) rfl
            · refine ob_gtrue [5] _ false 55 rfl rfl rfl rfl (fun v w h => h) fun aa g h => ?_
              have yy0 := seen_out (v := .int .i64 (k : Int)) rfl rfl h.1
              have ee0 := getD_of yy0
              exact tupon_value (v := .int .i64 (k : Int)) (by simp [go_sem, ee0, yy0]) (Below.refl _ _) rfl
            · refine ob_gtrue [56, 57] _ false 55 rfl rfl rfl rfl (fun v w h => h) fun aa g h => ?_
              obtain ⟨_, yy0, rfl⟩ := seen_in rfl h.1
              have ee0 := getD_of yy0
              obtain ⟨_, yy1, rfl⟩ := seen_in rfl h.2.1
              have ee1 := getD_of yy1
              exact tupon_value (v := .pointer (some ⟨ba, oa + k, none⟩)) (by simp [go_sem, ee0, yy0, ee1, yy1, i2]) (Below.refl _ _) rfl
            · refine ob_gtrue [58] _ false 55 rfl rfl rfl rfl (fun v w h => h) fun aa g h => ?_
              obtain ⟨_, yy0, rfl⟩ := seen_in rfl h.1
              have ee0 := getD_of yy0
              exact tupon_value (v := .slice (some ⟨bu, ou, none⟩) r.length cu) (by simp [go_sem, ee0, yy0, ua g]) (Below.refl _ _) rfl
            · refine ob_gtrue [6] _ false 55 rfl rfl rfl rfl (fun v w h => h) fun aa g h => ?_
              have yy0 := seen_out (v := .int .i64 (j : Int)) rfl rfl h.1
              have ee0 := getD_of yy0
              exact tupon_value (v := .int .i64 (j : Int)) (by simp [go_sem, ee0, yy0]) (Below.refl _ _) rfl
            · refine ob_gtrue [59, 60] _ false 55 rfl rfl rfl rfl (fun v w h => h) fun aa g h => ?_
              obtain ⟨_, yy0, rfl⟩ := seen_in rfl h.1
              have ee0 := getD_of yy0
              obtain ⟨_, yy1, rfl⟩ := seen_in rfl h.2.1
              have ee1 := getD_of yy1
              exact tupon_value (v := .pointer (some ⟨bu, ou + j * 4, none⟩)) (by simp [go_sem, ee0, yy0, ee1, yy1, i3]) (Below.refl _ _) rfl
            · refine ob_gtrue [61] _ false 55 rfl rfl rfl rfl (fun v w h => h) fun aa g h => ?_
              obtain ⟨_, yy0, rfl⟩ := seen_in rfl h.1
              have ee0 := getD_of yy0
              exact tupon_value (v := .pointer (some ⟨bu, ou + j * 4 + 1, none⟩)) (by simp [go_sem, ee0, yy0]) (Below.refl _ _) rfl
            · refine ob_gtrue [62] _ false 55 rfl rfl rfl rfl (fun v w h => h) fun aa g h => ?_
              obtain ⟨_, yy0, rfl⟩ := seen_in rfl h.1
              have ee0 := getD_of yy0
              exact tupon_value (v := .int .i64 n) (by simp [go_sem, ee0, yy0, fa1 g]) (Below.refl _ _) rfl
            · refine ob_gtrue [1] _ false 55 rfl rfl rfl rfl (fun v w h => h) fun aa g h => ?_
              have yy0 := seen_out (v := .slice (some ⟨bb, ob, none⟩) N cb) rfl rfl h.1
              have ee0 := getD_of yy0
              exact tupon_value (v := .slice (some ⟨bb, ob, none⟩) N cb) (by simp [go_sem, ee0, yy0]) (Below.refl _ _) rfl
            · refine ob_gtrue [5] _ false 55 rfl rfl rfl rfl (fun v w h => h) fun aa g h => ?_
              have yy0 := seen_out (v := .int .i64 (k : Int)) rfl rfl h.1
              have ee0 := getD_of yy0
              exact tupon_value (v := .int .i64 (k : Int)) (by simp [go_sem, ee0, yy0]) (Below.refl _ _) rfl
            · refine ob_gtrue [64, 65] _ false 55 rfl rfl rfl rfl (fun v w h => h) fun aa g h => ?_
              obtain ⟨_, yy0, rfl⟩ := seen_in rfl h.1
              have ee0 := getD_of yy0
              obtain ⟨_, yy1, rfl⟩ := seen_in rfl h.2.1
              have ee1 := getD_of yy1
              exact tupon_value (v := .pointer (some ⟨bb, ob + k, none⟩)) (by simp [go_sem, ee0, yy0, ee1, yy1, i2]) (Below.refl _ _) rfl
            · refine ob_gtrue [66] _ false 55 rfl rfl rfl rfl (fun v w h => h) fun aa g h => ?_
              obtain ⟨_, yy0, rfl⟩ := seen_in rfl h.1
              have ee0 := getD_of yy0
              exact tupon_value (v := .slice (some ⟨bv, ov, none⟩) r.length cv) (by simp [go_sem, ee0, yy0, ub g]) (Below.refl _ _) rfl
            · refine ob_gtrue [6] _ false 55 rfl rfl rfl rfl (fun v w h => h) fun aa g h => ?_
              have yy0 := seen_out (v := .int .i64 (j : Int)) rfl rfl h.1
              have ee0 := getD_of yy0
              exact tupon_value (v := .int .i64 (j : Int)) (by simp [go_sem, ee0, yy0]) (Below.refl _ _) rfl
            · refine ob_gtrue [67, 68] _ false 55 rfl rfl rfl rfl (fun v w h => h) fun aa g h => ?_
              obtain ⟨_, yy0, rfl⟩ := seen_in rfl h.1
              have ee0 := getD_of yy0
              obtain ⟨_, yy1, rfl⟩ := seen_in rfl h.2.1
              have ee1 := getD_of yy1
              exact tupon_value (v := .pointer (some ⟨bv, ov + j * 4, none⟩)) (by simp [go_sem, ee0, yy0, ee1, yy1, i3]) (Below.refl _ _) rfl
            · refine ob_gtrue [69] _ false 55 rfl rfl rfl rfl (fun v w h => h) fun aa g h => ?_
              obtain ⟨_, yy0, rfl⟩ := seen_in rfl h.1
              have ee0 := getD_of yy0
              exact tupon_value (v := .pointer (some ⟨bv, ov + j * 4 + 1, none⟩)) (by simp [go_sem, ee0, yy0]) (Below.refl _ _) rfl
            · refine ob_gtrue [70] _ false 55 rfl rfl rfl rfl (fun v w h => h) fun aa g h => ?_
              obtain ⟨_, yy0, rfl⟩ := seen_in rfl h.1
              have ee0 := getD_of yy0
              exact tupon_value (v := .int .i64 n) (by simp [go_sem, ee0, yy0, fb1 g]) (Below.refl _ _) rfl
            · refine ob_gtrue [63, 71] _ false 55 rfl rfl rfl rfl (fun v w h => h) fun aa g h => ?_
              obtain ⟨_, yy0, rfl⟩ := seen_in rfl h.1
              have ee0 := getD_of yy0
              obtain ⟨_, yy1, rfl⟩ := seen_in rfl h.2.1
              have ee1 := getD_of yy1
              exact tupon_value (v := .bool false) (by simp [go_sem, ee0, yy0, ee1, yy1]) (Below.refl _ _) rfl
            · refine ob_plain [55, 72] rfl rfl fun aa g h => ?_
              obtain ⟨_, yy0, rfl⟩ := seen_in rfl h.1
              have ee0 := getD_of yy0
              obtain ⟨_, yy1, rfl⟩ := seen_in rfl h.2.1
              have ee1 := getD_of yy1
              exact tupon_value (v := .bool false) (by simp [go_sem, ee0, yy0, ee1, yy1]) (Below.refl _ _) rfl
            · refine ob_plain [73] rfl rfl fun aa g h => ?_
              obtain ⟨_, yy0, rfl⟩ := seen_in rfl h.1
              have ee0 := getD_of yy0
              exact tupon_value (v := .bool false) (by simp [go_sem, ee0, yy0]) (Below.refl _ _) rfl
            · refine ob_gtrue [0] _ false 74 rfl rfl rfl rfl (fun v w h => h) fun aa g h => ?_
              have yy0 := seen_out (v := .slice (some ⟨ba, oa, none⟩) N ca) rfl rfl h.1
              have ee0 := getD_of yy0
              exact tupon_value (v := .slice (some ⟨ba, oa, none⟩) N ca) (by simp [go_sem, ee0, yy0]) (Below.refl _ _) rfl
            · refine ob_gtrue [5] _ false 74 rfl rfl rfl rfl (fun v w h => h) fun aa g h => ?_
              have yy0 := seen_out (v := .int .i64 (k : Int)) rfl rfl h.1
              have ee0 := getD_of yy0
              exact tupon_value (v := .int .i64 (k : Int)) (by simp [go_sem, ee0, yy0]) (Below.refl _ _) rfl
            · refine ob_gtrue [75, 76] _ false 74 rfl rfl rfl rfl (fun v w h => h) fun aa g h => ?_
              obtain ⟨_, yy0, rfl⟩ := seen_in rfl h.1
              have ee0 := getD_of yy0
              obtain ⟨_, yy1, rfl⟩ := seen_in rfl h.2.1
              have ee1 := getD_of yy1
              exact tupon_value (v := .pointer (some ⟨ba, oa + k, none⟩)) (by simp [go_sem, ee0, yy0, ee1, yy1, i2]) (Below.refl _ _) rfl
            · refine ob_gtrue [77] _ false 74 rfl rfl rfl rfl (fun v w h => h) fun aa g h => ?_
              obtain ⟨_, yy0, rfl⟩ := seen_in rfl h.1
              have ee0 := getD_of yy0
              exact tupon_value (v := .slice (some ⟨bu, ou, none⟩) r.length cu) (by simp [go_sem, ee0, yy0, ua g]) (Below.refl _ _) rfl
            · refine ob_gtrue [6] _ false 74 rfl rfl rfl rfl (fun v w h => h) fun aa g h => ?_
              have yy0 := seen_out (v := .int .i64 (j : Int)) rfl rfl h.1
              have ee0 := getD_of yy0
              exact tupon_value (v := .int .i64 (j : Int)) (by simp [go_sem, ee0, yy0]) (Below.refl _ _) rfl
            · refine ob_gtrue [78, 79] _ false 74 rfl rfl rfl rfl (fun v w h => h) fun aa g h => ?_
              obtain ⟨_, yy0, rfl⟩ := seen_in rfl h.1
              have ee0 := getD_of yy0
              obtain ⟨_, yy1, rfl⟩ := seen_in rfl h.2.1
              have ee1 := getD_of yy1
              exact tupon_value (v := .pointer (some ⟨bu, ou + j * 4, none⟩)) (by simp [go_sem, ee0, yy0, ee1, yy1, i3]) (Below.refl _ _) rfl
            · refine ob_gtrue [80] _ false 74 rfl rfl rfl rfl (fun v w h => h) fun aa g h => ?_
              obtain ⟨_, yy0, rfl⟩ := seen_in rfl h.1
              have ee0 := getD_of yy0
              exact tupon_value (v := .pointer (some ⟨bu, ou + j * 4 + 2, none⟩)) (by simp [go_sem, ee0, yy0]) (Below.refl _ _) rfl
            · refine ob_gtrue [81] _ false 74 rfl rfl rfl rfl (fun v w h => h) fun aa g h => ?_
              obtain ⟨_, yy0, rfl⟩ := seen_in rfl h.1
              have ee0 := getD_of yy0
              exact tupon_value (v := .agg #[.int .i64 lo, .int .i64 hi]) (by simp [go_sem, ee0, yy0, fa2 g, fa3 g]) (Below.refl _ _) rfl
            · refine ob_gtrue [1] _ false 74 rfl rfl rfl rfl (fun v w h => h) fun aa g h => ?_
              have yy0 := seen_out (v := .slice (some ⟨bb, ob, none⟩) N cb) rfl rfl h.1
              have ee0 := getD_of yy0
              exact tupon_value (v := .slice (some ⟨bb, ob, none⟩) N cb) (by simp [go_sem, ee0, yy0]) (Below.refl _ _) rfl
            · refine ob_gtrue [5] _ false 74 rfl rfl rfl rfl (fun v w h => h) fun aa g h => ?_
              have yy0 := seen_out (v := .int .i64 (k : Int)) rfl rfl h.1
              have ee0 := getD_of yy0
              exact tupon_value (v := .int .i64 (k : Int)) (by simp [go_sem, ee0, yy0]) (Below.refl _ _) rfl
            · refine ob_gtrue [83, 84] _ false 74 rfl rfl rfl rfl (fun v w h => h) fun aa g h => ?_
              obtain ⟨_, yy0, rfl⟩ := seen_in rfl h.1
              have ee0 := getD_of yy0
              obtain ⟨_, yy1, rfl⟩ := seen_in rfl h.2.1
              have ee1 := getD_of yy1
              exact tupon_value (v := .pointer (some ⟨bb, ob + k, none⟩)) (by simp [go_sem, ee0, yy0, ee1, yy1, i2]) (Below.refl _ _) rfl
            · refine ob_gtrue [85] _ false 74 rfl rfl rfl rfl (fun v w h => h) fun aa g h => ?_
              obtain ⟨_, yy0, rfl⟩ := seen_in rfl h.1
              have ee0 := getD_of yy0
              exact tupon_value (v := .slice (some ⟨bv, ov, none⟩) r.length cv) (by simp [go_sem, ee0, yy0, ub g]) (Below.refl _ _) rfl
            · refine ob_gtrue [6] _ false 74 rfl rfl rfl rfl (fun v w h => h) fun aa g h => ?_
              have yy0 := seen_out (v := .int .i64 (j : Int)) rfl rfl h.1
              have ee0 := getD_of yy0
              exact tupon_value (v := .int .i64 (j : Int)) (by simp [go_sem, ee0, yy0]) (Below.refl _ _) rfl
            · refine ob_gtrue [86, 87] _ false 74 rfl rfl rfl rfl (fun v w h => h) fun aa g h => ?_
              obtain ⟨_, yy0, rfl⟩ := seen_in rfl h.1
              have ee0 := getD_of yy0
              obtain ⟨_, yy1, rfl⟩ := seen_in rfl h.2.1
              have ee1 := getD_of yy1
              exact tupon_value (v := .pointer (some ⟨bv, ov + j * 4, none⟩)) (by simp [go_sem, ee0, yy0, ee1, yy1, i3]) (Below.refl _ _) rfl
            · refine ob_gtrue [88] _ false 74 rfl rfl rfl rfl (fun v w h => h) fun aa g h => ?_
              obtain ⟨_, yy0, rfl⟩ := seen_in rfl h.1
              have ee0 := getD_of yy0
              exact tupon_value (v := .pointer (some ⟨bv, ov + j * 4 + 2, none⟩)) (by simp [go_sem, ee0, yy0]) (Below.refl _ _) rfl
            · refine ob_gtrue [89] _ false 74 rfl rfl rfl rfl (fun v w h => h) fun aa g h => ?_
              obtain ⟨_, yy0, rfl⟩ := seen_in rfl h.1
              have ee0 := getD_of yy0
              exact tupon_value (v := .agg #[.int .i64 lo, .int .i64 hi]) (by simp [go_sem, ee0, yy0, fb2 g, fb3 g]) (Below.refl _ _) rfl
            · refine ob_gtrue [82, 90] _ false 74 rfl rfl rfl rfl (fun v w h => h) fun aa g h => ?_
              obtain ⟨_, yy0, rfl⟩ := seen_in rfl h.1
              have ee0 := getD_of yy0
              obtain ⟨_, yy1, rfl⟩ := seen_in rfl h.2.1
              have ee1 := getD_of yy1
              refine tupon_enter (f := 29) (args := #[.agg #[.int .i64 lo, .int .i64 hi], .agg #[.int .i64 lo, .int .i64 hi]]) (by simp [go_sem, ee0, yy0, ee1, yy1]) rfl ?_
              exact (KS.out g.w).mono fun e w' ⟨he, hB⟩ => ⟨_, he, hB, rfl⟩
            · refine ob_gtrue [91] _ false 74 rfl rfl rfl rfl (fun v w h => h) fun aa g h => ?_
              obtain ⟨_, yy0, rfl⟩ := seen_in rfl h.1
              have ee0 := getD_of yy0
              exact tupon_value (v := .bool false) (by simp [go_sem, ee0, yy0]) (Below.refl _ _) rfl
            · refine ob_plain [74, 92] rfl rfl fun aa g h => ?_
              obtain ⟨_, yy0, rfl⟩ := seen_in rfl h.1
              have ee0 := getD_of yy0
              obtain ⟨_, yy1, rfl⟩ := seen_in rfl h.2.1
              have ee1 := getD_of yy1
              exact tupon_value (v := .bool false) (by simp [go_sem, ee0, yy0, ee1, yy1]) (Below.refl _ _) rfl
          rintro w9 hB9 _ rfl _ rfl _ rfl _ rfl _ rfl _ rfl _ rfl _ rfl _ rfl _ rfl _ rfl _ rfl _ rfl _ rfl _ rfl _ rfl _ rfl _ rfl _ rfl _ rfl _ rfl _ rfl _ rfl _ rfl _ rfl _ rfl _ rfl _ rfl _ rfl _ rfl _ rfl _ rfl _ rfl _ rfl _ rfl _ rfl _ rfl _ rfl _ rfl _ rfl _ rfl _ rfl _ rfl _ rfl _ rfl _ rfl _ rfl _ rfl _ rfl _ rfl _ rfl _ rfl _ rfl _ rfl _ rfl _ rfl
          simp only [Act.put, List.setIfInBounds_toArray, List.set_cons_succ, List.set_cons_zero, List.filterMap_nil, finP]
          have hBn := HBr.out.trans (hB9.mono HBr.out.size)
          clear fa0 fa1 fa2 fa3 fb0 fb1 fb2 fb3 ua ub u0 hB9
          go_wp2_with (fail)
          go_roundw
          case rel => exact ⟨j + 1, by go_num, by omega, hBn⟩
          case measure => simp [intOf]; omega
        · obtain rfl : j = r.length := by omega
          have i3 : ¬ (r.length : Int) < r.length := by omega
          clear ua ub
          go_wp2_with (fail)
          exact ⟨⟨k + 1, by go_num, by omega, hB⟩, by simp [intOf]; omega⟩
    · obtain rfl : N = k := by omega
      have i2 : ¬ (N : Int) < N := by omega
      go_wp2_with (fail)
      go_ret
      exact ⟨rfl, hB⟩
end Go.Proofs.Ytajddejeglhbhaa

namespace Go.Proofs.Ytajddejeglhbhaa
open Go.ChangeShapes Go.WideShapes Go.ChangeAt Go.RowKit
set_option linter.unusedVariables false
set_option linter.unusedSimpArgs false
set_option maxRecDepth 100000
attribute [local irreducible] Calls
/-- An interval near the origin, of a width below d. -/
def nearI (p : Int × Int) (d : Int) : Int × Int := (p.1.tmod 1048576, p.1.tmod 1048576 + (p.2.tmod d + d).tmod d)
theorem near_bd (p : Int × Int) {d : Int} (h1 : 1 ≤ d) : -1048576 < (nearI p d).1 ∧ (nearI p d).1 < 1048576 ∧ (nearI p d).1 ≤ (nearI p d).2 ∧ (nearI p d).2 < (nearI p d).1 + d := by
  have a1 := Int.lt_tmod_of_pos p.1 (show (0 : Int) < 1048576 by decide)
  have a2 := Int.tmod_lt_of_pos p.1 (show (0 : Int) < 1048576 by decide)
  have b1 := Int.lt_tmod_of_pos p.2 (show (0 : Int) < d by omega)
  have c1 := Int.tmod_nonneg d (show 0 ≤ p.2.tmod d + d by omega)
  have c2 := Int.tmod_lt_of_pos (p.2.tmod d + d) (show (0 : Int) < d by omega)
  unfold nearI
  dsimp only
  omega
set_option maxHeartbeats 4000000 in
theorem r2near (a b d : Int) (w : World) (h1 : 1 ≤ d) (h2 : d ≤ 16777216) : Calls Try.prog 35 #[.agg #[.int .i64 a, .int .i64 b], .int .i64 d] w fun e w' => e = .returned (.agg #[.int .i64 (nearI (a, b) d).1, .int .i64 (nearI (a, b) d).2]) ∧ Below w.heap.size w w' := by
  have hbd := near_bd (a, b) h1
  have b1 := Int.lt_tmod_of_pos b (show (0 : Int) < d by omega)
  have b2 := Int.tmod_lt_of_pos b (show (0 : Int) < d by omega)
  unfold nearI at hbd ⊢
  dsimp only at hbd ⊢
  have W1 : IntKind.i64.wrap (b.tmod d + d) = b.tmod d + d := wrapN _ (by omega) (by omega)
  have W2 : IntKind.i64.wrap (a.tmod 1048576 + (b.tmod d + d).tmod d) = a.tmod 1048576 + (b.tmod d + d).tmod d := wrapN _ (by omega) (by omega)
  have hd0 : ¬ d = 0 := by omega
  have hba : Below w.heap.size w ((w.alloc (.cells #[.int .i64 a, .int .i64 b] 28)).alloc (.cells #[.int .i64 0, .int .i64 0] 28)) := ((Below.refl _ _).alloc (Nat.le_refl _) _).alloc (by rw [alloc_sz]; omega) _
  have hX : ((w.alloc (.cells #[.int .i64 a, .int .i64 b] 28)).alloc (.cells #[.int .i64 0, .int .i64 0] 28)).heap[w.heap.size]? = some (.cells #[.int .i64 a, .int .i64 b] 28 (0, 0)) := (((Below.refl _ (w.alloc (.cells #[.int .i64 a, .int .i64 b] 28))).alloc (Nat.le_refl _) _).block _ (by rw [alloc_sz]; omega)).trans (World.alloc_heap_new w _)
  have hY : ((w.alloc (.cells #[.int .i64 a, .int .i64 b] 28)).alloc (.cells #[.int .i64 0, .int .i64 0] 28)).heap[w.heap.size + 1]? = some (.cells #[.int .i64 0, .int .i64 0] 28 (0, 0)) := by
    have := World.alloc_heap_new (w.alloc (.cells #[.int .i64 a, .int .i64 b] 28)) (.cells #[.int .i64 0, .int .i64 0] 28)
    rwa [alloc_sz] at this
  have fa := fun g : Grown ((w.alloc (.cells #[.int .i64 a, .int .i64 b] 28)).alloc (.cells #[.int .i64 0, .int .i64 0] 28)) => heapN_cellj ((g.h.block _ (Array.getElem?_eq_some_iff.1 hX).1).trans hX) (k := 0) (u := .int .i64 a) rfl
  have fb := fun g : Grown ((w.alloc (.cells #[.int .i64 a, .int .i64 b] 28)).alloc (.cells #[.int .i64 0, .int .i64 0] 28)) => heapN_cellj ((g.h.block _ (Array.getElem?_eq_some_iff.1 hX).1).trans hX) (k := 1) (u := .int .i64 b) rfl
  have HY := Lib.hid hY
  have HB := Lib.hid hba
  clear hX hY hba hbd b1 b2
  go_enter Try.func35, Try.ntmps35
  go_wp2_with (fail)
  refine region_pred (lk [(7, fun z_ _ => z_ = .pointer (some ⟨w.heap.size, 0, none⟩)), (8, fun z_ _ => z_ = .int .i64 a), (9, fun z_ _ => z_ = .int .i64 (a.tmod 1048576)), (10, fun z_ _ => z_ = .pointer (some ⟨w.heap.size, 1, none⟩)), (11, fun z_ _ => z_ = .int .i64 b), (12, fun z_ _ => z_ = .int .i64 d), (13, fun z_ _ => z_ = .int .i64 (b.tmod d)), (14, fun z_ _ => z_ = .int .i64 d), (15, fun z_ _ => z_ = .int .i64 (b.tmod d + d)), (16, fun z_ _ => z_ = .int .i64 d), (17, fun z_ _ => z_ = .int .i64 ((b.tmod d + d).tmod d)), (5, fun z_ _ => z_ = .int .i64 (a.tmod 1048576)), (6, fun z_ _ => z_ = .int .i64 ((b.tmod d + d).tmod d))]) (by kernel_rfl) (by kernel_rfl) (lk_steady _ ⟨steady_eq _, steady_eq _, steady_eq _, steady_eq _, steady_eq _, steady_eq _, steady_eq _, steady_eq _, steady_eq _, steady_eq _, steady_eq _, steady_eq _, steady_eq _, trivial⟩) ?_ ?_
  · refine ⟨?_, ?_, ?_, ?_, ?_, ?_, ?_, ?_, ?_, ?_, ?_, ?_, ?_, trivial⟩
    · refine ob_plain [2] rfl rfl fun aa g h => ?_
      have yy0 := seen_out (v := .pointer (some ⟨w.heap.size, 0, none⟩)) rfl rfl h.1
      have ee0 := getD_of yy0
      exact tupon_value (v := .pointer (some ⟨w.heap.size, 0, none⟩)) (by simp [go_sem, ee0, yy0]) (Below.refl _ _) rfl
    · refine ob_plain [7] rfl rfl fun aa g h => ?_
      obtain ⟨_, yy0, rfl⟩ := seen_in rfl h.1
      have ee0 := getD_of yy0
      exact tupon_value (v := .int .i64 a) (by simp [go_sem, ee0, yy0, fa g]) (Below.refl _ _) rfl
    · refine ob_plain [8] rfl rfl fun aa g h => ?_
      obtain ⟨_, yy0, rfl⟩ := seen_in rfl h.1
      have ee0 := getD_of yy0
      exact tupon_value (v := .int .i64 (a.tmod 1048576)) (by simp [go_sem, ee0, yy0]) (Below.refl _ _) rfl
    · refine ob_plain [2] rfl rfl fun aa g h => ?_
      have yy0 := seen_out (v := .pointer (some ⟨w.heap.size, 0, none⟩)) rfl rfl h.1
      have ee0 := getD_of yy0
      exact tupon_value (v := .pointer (some ⟨w.heap.size, 1, none⟩)) (by simp [go_sem, ee0, yy0]) (Below.refl _ _) rfl
    · refine ob_plain [10] rfl rfl fun aa g h => ?_
      obtain ⟨_, yy0, rfl⟩ := seen_in rfl h.1
      have ee0 := getD_of yy0
      exact tupon_value (v := .int .i64 b) (by simp [go_sem, ee0, yy0, fb g]) (Below.refl _ _) rfl
    · refine ob_plain [1] rfl rfl fun aa g h => ?_
      have yy0 := seen_out (v := .int .i64 d) rfl rfl h.1
      have ee0 := getD_of yy0
      exact tupon_value (v := .int .i64 d) (by simp [go_sem, ee0, yy0]) (Below.refl _ _) rfl
    · refine ob_plain [11, 12] rfl rfl fun aa g h => ?_
      obtain ⟨_, yy0, rfl⟩ := seen_in rfl h.1
      have ee0 := getD_of yy0
      obtain ⟨_, yy1, rfl⟩ := seen_in rfl h.2.1
      have ee1 := getD_of yy1
      exact tupon_value (v := .int .i64 (b.tmod d)) (by simp [go_sem, ee0, yy0, ee1, yy1, hd0]) (Below.refl _ _) rfl
    · refine ob_plain [1] rfl rfl fun aa g h => ?_
      have yy0 := seen_out (v := .int .i64 d) rfl rfl h.1
      have ee0 := getD_of yy0
      exact tupon_value (v := .int .i64 d) (by simp [go_sem, ee0, yy0]) (Below.refl _ _) rfl
    · refine ob_plain [13, 14] rfl rfl fun aa g h => ?_
      obtain ⟨_, yy0, rfl⟩ := seen_in rfl h.1
      have ee0 := getD_of yy0
      obtain ⟨_, yy1, rfl⟩ := seen_in rfl h.2.1
      have ee1 := getD_of yy1
      exact tupon_value (v := .int .i64 (b.tmod d + d)) (by simp [go_sem, ee0, yy0, ee1, yy1, W1]) (Below.refl _ _) rfl
    · refine ob_plain [1] rfl rfl fun aa g h => ?_
      have yy0 := seen_out (v := .int .i64 d) rfl rfl h.1
      have ee0 := getD_of yy0
      exact tupon_value (v := .int .i64 d) (by simp [go_sem, ee0, yy0]) (Below.refl _ _) rfl
    · refine ob_plain [15, 16] rfl rfl fun aa g h => ?_
      obtain ⟨_, yy0, rfl⟩ := seen_in rfl h.1
      have ee0 := getD_of yy0
      obtain ⟨_, yy1, rfl⟩ := seen_in rfl h.2.1
      have ee1 := getD_of yy1
      exact tupon_value (v := .int .i64 ((b.tmod d + d).tmod d)) (by simp [go_sem, ee0, yy0, ee1, yy1, hd0]) (Below.refl _ _) rfl
    · refine ob_plain [9] rfl rfl fun aa g h => ?_
      obtain ⟨_, yy0, rfl⟩ := seen_in rfl h.1
      have ee0 := getD_of yy0
      exact tupon_value (v := .int .i64 (a.tmod 1048576)) (by simp [go_sem, ee0, yy0]) (Below.refl _ _) rfl
    · refine ob_plain [17] rfl rfl fun aa g h => ?_
      obtain ⟨_, yy0, rfl⟩ := seen_in rfl h.1
      have ee0 := getD_of yy0
      exact tupon_value (v := .int .i64 ((b.tmod d + d).tmod d)) (by simp [go_sem, ee0, yy0]) (Below.refl _ _) rfl
  rintro w9 hB9 _ rfl _ rfl _ rfl _ rfl _ rfl _ rfl _ rfl _ rfl _ rfl _ rfl _ rfl _ rfl _ rfl
  simp only [Act.put, List.setIfInBounds_toArray, List.set_cons_succ, List.set_cons_zero, List.filterMap_nil, finP]
  have hy := (hB9.block _ (Array.getElem?_eq_some_iff.1 HY.out).1).trans HY.out
  have y0 := heapN_cellj hy (k := 0) rfl
  have y1 := heapN_cellj hy (k := 1) rfl
  have z0 : w9.frozen? ⟨w.heap.size + 1, 0, none⟩ = false := by simp [World.frozen?, hy]
  have z1 : w9.frozen? ⟨w.heap.size + 1, 1, none⟩ = false := by simp [World.frozen?, hy]
  have HW := Lib.hid (below_then HB.out hB9)
  obtain ⟨x, hx⟩ : ∃ x, a.tmod 1048576 = x := ⟨_, rfl⟩
  obtain ⟨y, hyy⟩ : ∃ y, (b.tmod d + d).tmod d = y := ⟨_, rfl⟩
  rw [hx, hyy] at W2
  have HXX := Lib.hid hx
  have HYY := Lib.hid hyy
  clear fa fb hB9 W1
  rw [hx, hyy]
  clear hx hyy
  go_wp2_with (fail)
  have hs := cellsT_setN (o := 1) (u := .int .i64 (x + y)) (cellsT_setN (o := 0) (u := .int .i64 x) hy)
  have x0 := heapN_cellj hs (k := 0) (u := .int .i64 x) rfl
  have x1 := heapN_cellj hs (k := 1) (u := .int .i64 (x + y)) rfl
  exact bodyPost_ret (v := .agg #[.int .i64 x, .int .i64 (x + y)]) (by simp [results, Try.results35, go_sem, x0, x1]) rfl ⟨by rw [HXX.out, HYY.out], (HW.out.setCell (p := ⟨w.heap.size + 1, 0, none⟩) (by dsimp only; omega) _).setCell (p := ⟨w.heap.size + 1, 1, none⟩) (by dsimp only; omega) _⟩
/-- Boxes: the first n intervals, near the origin. -/
def boxI (l : List (Int × Int)) (n : Nat) (d : Int) : List (Int × Int) := (List.range n).map (fun i => nearI (l.getD i (0, 0)) d)
theorem boxI_snoc (l : List (Int × Int)) (n : Nat) (d : Int) : boxI l (n + 1) d = boxI l n d ++ [nearI (l.getD n (0, 0)) d] := by
  unfold boxI
  rw [List.range_succ, List.map_append]
  rfl
theorem boxI_len (l : List (Int × Int)) (n : Nat) (d : Int) : (boxI l n d).length = n := by simp [boxI]
theorem own_emptyB (W : World) : (W.alloc (.cells #[] 28)).ownsRow W.heap.size 28 2 (.slice (some ⟨W.heap.size, 0, none⟩) 0 0) 0 [] :=
  World.ownsRow_made W #[] 0 (Nat.le_refl _) (Nat.zero_le _) rfl
set_option maxHeartbeats 8000000 in
theorem boxes_ok (vl : Value) (l : List (Int × Int)) (n : Nat) (d : Int) (w : World) (hl : Vx w vl l) (hn : n ≤ 6) (h1 : 1 ≤ d) (h2 : d ≤ 16777216) : Calls Try.prog 12 #[vl, .int .i64 n, .int .i64 d] w fun e w' => ∃ p c, e = .returned (.slice p n c) ∧ w'.ownsRow w.heap.size 28 2 (.slice p n c) n (cr encB (boxI l n d)) ∧ Below w.heap.size w w' := by
  obtain ⟨i0, hi, hz0, hz1, hz2⟩ := info_parts info_ivB
  obtain ⟨pl, cl, rfl⟩ := hl.cut
  have hm := hl.1
  unfold maxLen at hm
  have HL := Lib.hid hl
  have H0 := Lib.hid (own_emptyB w)
  have B0 : Below w.heap.size w (w.alloc (.cells #[] 28)) := (Below.refl _ _).alloc (Nat.le_refl _) _
  have HB := Lib.hid B0
  clear hl B0
  go_enter Try.func12, Try.ntmps12
  go_wp2_with (fail)
  go_loopw [7, 8] (fun v i wr => ∃ k : Nat, i = .int .i64 k ∧ k ≤ n ∧ wr.ownsRow w.heap.size 28 2 v k (cr encB (boxI l k d)) ∧ Below w.heap.size w wr) (fun v i _ => n - (intOf i).toNat)
  case atStart => exact ⟨0, rfl, Nat.zero_le _, H0.out, HB.out⟩
  case round =>
    clear H0 HB
    obtain ⟨k, rfl, hk, hrow, hB⟩ := hrel
    obtain ⟨pv, cv, rfl⟩ := own_slice hrow
    have HR := Lib.hid hrow
    have HBr := Lib.hid hB
    have hsr := hB.size
    by_cases hlt : k < n
    · have i2 : (k : Int) < n := by omega
      obtain ⟨⟨p, q⟩, hpq⟩ : ∃ x, l.getD k (0, 0) = x := ⟨_, rfl⟩
      have hsn := boxI_snoc l k d
      rw [hpq] at hsn
      have KN := Lib.hid (fun w => r2near p q d w h1 h2)
      obtain ⟨⟨r1, r2⟩, hr⟩ : ∃ r, nearI (p, q) d = r := ⟨_, rfl⟩
      rw [hr] at hsn KN
      dsimp only at KN
      have HSN := Lib.hid hsn
      clear hsn hr hrow hB
      by_cases hll : k < l.length
      · have i3 : (k : Int) < l.length := by omega
        have hx : l[k]? = some (p, q) := by rw [List.getD_eq_getElem?_getD, List.getElem?_eq_getElem hll] at hpq; rw [List.getElem?_eq_getElem hll]; exact congrArg some hpq
        obtain ⟨bl, ol, rfl, hbl, rdl⟩ := vx_rd HL.out hx
        obtain ⟨f0, f1⟩ := rdl ⟨wr.alloc (.cells #[.int .i64 0, .int .i64 0] 28), HBr.out.alloc hsr _⟩
        dsimp only at f0 f1
        clear rdl hx hpq
        go_wp2_with (fail)
        refine (KN.out _).mono ?_
        rintro e w5 ⟨rfl, hB5⟩
        have hrow5 := own_keptN (HR.out.alloc (.cells #[.int .i64 p, .int .i64 q] 28)) hB5
        have hB6 := (HBr.out.alloc hsr (.cells #[.int .i64 p, .int .i64 q] 28)).trans (hB5.mono (by rw [alloc_sz]; omega))
        have hs5 := hB6.size
        have HR5 := Lib.hid hrow5
        have HB6 := Lib.hid hB6
        clear hB5 hrow5 hB6 KN
        go_wp2_with (at_builtin; refine wpList_append_own _ rfl (.tmp 25) (.tmp 29) 26 rfl w.heap.size 28 i0 (.agg #[.int .i64 0, .int .i64 0]) 2 16 Try.underlying26 hi hz0 hz1 hz2 rfl (by decide) (.slice pv k cv) k _ rfl (HR5.out.alloc _) ⟨w5.heap.size, 0, none⟩ 1 1 (encB (r1, r2)) rfl rfl (new_b _ (r1, r2)) (one_b _) (by unfold maxLen; omega) (by omega) (by rw [alloc_sz]; omega) ?_)
        intro v' w8 hown' hgrow _
        have hB8 : Below w.heap.size w w8 := Below.grown (HB6.out.alloc hs5 _) hgrow (by rw [alloc_sz]; omega) (fun i hi => (HR5.out.lt i hi).1)
        obtain ⟨p8, c8, rfl⟩ := own_slice hown'
        have HR8 := Lib.hid hown'
        have HB8 := Lib.hid hB8
        clear hown' hgrow hB8
        go_wp2_with (fail)
        go_roundw
        case rel =>
          refine ⟨k + 1, by go_num, by omega, ?_, HB8.out⟩
          rw [HSN.out, cr_snoc]
          exact HR8.out
        case measure => simp [intOf]; omega
      · have i3 : (l.length : Int) ≤ k := by omega
        have he : ((0 : Int), (0 : Int)) = (p, q) := by rw [← hpq, List.getD_eq_getElem?_getD, List.getElem?_eq_none (by omega)]; rfl
        obtain ⟨rfl, rfl⟩ := Prod.mk.inj he
        clear he hpq
        go_wp2_with (fail)
        refine (KN.out _).mono ?_
        rintro e w5 ⟨rfl, hB5⟩
        have hrow5 := own_keptN (HR.out.alloc (.cells #[.int .i64 0, .int .i64 0] 28)) hB5
        have hB6 := (HBr.out.alloc hsr (.cells #[.int .i64 0, .int .i64 0] 28)).trans (hB5.mono (by rw [alloc_sz]; omega))
        have hs5 := hB6.size
        have HR5 := Lib.hid hrow5
        have HB6 := Lib.hid hB6
        clear hB5 hrow5 hB6 KN
        go_wp2_with (at_builtin; refine wpList_append_own _ rfl (.tmp 25) (.tmp 29) 26 rfl w.heap.size 28 i0 (.agg #[.int .i64 0, .int .i64 0]) 2 16 Try.underlying26 hi hz0 hz1 hz2 rfl (by decide) (.slice pv k cv) k _ rfl (HR5.out.alloc _) ⟨w5.heap.size, 0, none⟩ 1 1 (encB (r1, r2)) rfl rfl (new_b _ (r1, r2)) (one_b _) (by unfold maxLen; omega) (by omega) (by rw [alloc_sz]; omega) ?_)
        intro v' w8 hown' hgrow _
        have hB8 : Below w.heap.size w w8 := Below.grown (HB6.out.alloc hs5 _) hgrow (by rw [alloc_sz]; omega) (fun i hi => (HR5.out.lt i hi).1)
        obtain ⟨p8, c8, rfl⟩ := own_slice hown'
        have HR8 := Lib.hid hown'
        have HB8 := Lib.hid hB8
        clear hown' hgrow hB8
        go_wp2_with (fail)
        go_roundw
        case rel =>
          refine ⟨k + 1, by go_num, by omega, ?_, HB8.out⟩
          rw [HSN.out, cr_snoc]
          exact HR8.out
        case measure => simp [intOf]; omega
    · obtain rfl : n = k := by omega
      have i2 : ¬ (n : Int) < n := by omega
      go_wp2_with (fail)
      go_ret
      exact ⟨_, _, rfl, hrow, hB⟩
end Go.Proofs.Ytajddejeglhbhaa

namespace Go.Proofs.Ytajddejeglhbhaa
open Go.ChangeShapes Go.WideShapes Go.ChangeAt Go.RowKit Go.Maps
set_option linter.unusedVariables false
set_option linter.unusedSimpArgs false
set_option maxRecDepth 100000
attribute [local irreducible] Calls
theorem keyZ {i : Int} (h : W64 i) : keyOf Try.prog 3 (.int .i64 i) = some (.int .i64 i) := keyOf_int_mk Try.underlying3 (wf64i h)
theorem lawZ : Keyed Try.prog 3 := int_keyed Try.underlying3
/-- What the map from indices to indices holds. -/
def MpK (M : Int → Option Nat) (D : DataW Unit) : Prop := IsMap D ∧ ∀ i : Int, W64 i → Maps.has D (.int .i64 i) = (M i).isSome ∧ ∀ a, M i = some a → ∀ z, D.atKey (.int .i64 i) z = dN a
def MpI (mb n : Nat) (M : Int → Option Nat) (W : World) : Prop := ∃ D, W.ownsMap Try.prog 3 elN mb n D ∧ MpK M D
def updM (M : Int → Option Nat) (i : Int) (a : Nat) : Int → Option Nat := fun j => if j = i then some a else M j
theorem mpK_start : MpK (fun _ => none) (.map []) := ⟨isMap_empty, fun x _ => ⟨by simp [Maps.has], fun a h => by cases h⟩⟩
theorem mpK_put {M : Int → Option Nat} {D : DataW Unit} (h : MpK M D) (i : Int) (a : Nat) : MpK (updM M i a) (D.put (.int .i64 i) (dN a)) := by
  have hk : WideAt.IsKeyLit (.int .i64 i) := trivial
  refine ⟨h.1.put _ _, fun j hj => ?_⟩
  by_cases q : j = i
  · subst q
    refine ⟨?_, fun b hb z => ?_⟩
    · rw [has_put_same h.1 hk]
      simp [updM]
    · rw [atKey_put_same h.1 hk]
      simp only [updM, if_pos, Option.some.injEq] at hb
      rw [hb]
  · have q' : (Lit.int .i64 j) ≠ .int .i64 i := fun e => q (by simpa using e)
    refine ⟨?_, fun b hb z => ?_⟩
    · rw [has_put_other q', (h.2 j hj).1]
      simp [updM, q]
    · simp only [updM, if_neg q] at hb
      rw [atKey_put_other q', (h.2 j hj).2 b hb]
section
variable {mb n : Nat} {M : Int → Option Nat} {W W' : World}
theorem MpI.look (h : MpI mb n M W) {i : Int} (hi : W64 i) : ∃ a, (Instr.lookup 81 (.map (some mb)) (.int .i64 i) true).run Try.prog W = .ok (.tuple #[.int .i64 a, .bool (M i).isSome]) W ∧ ∀ b, M i = some b → a = b := by
  obtain ⟨D, h1, h2⟩ := h
  obtain ⟨v, ps, hrun, hv⟩ := h1.look_ok lawZ Try.underlying81 (z := .int .i64 0) (by kernel_rfl) (zd := dN 0) (zp := []) rfl (keyZ hi)
  obtain ⟨a, rfl, hd⟩ := elN_inv hv
  have k := h2.2 i hi
  rw [k.1] at hrun
  refine ⟨a, hrun, fun b hb => ?_⟩
  rw [k.2 b hb] at hd
  simp [dN] at hd
  omega
theorem MpI.get (h : MpI mb n M W) {i : Int} (hi : W64 i) {b : Nat} (hb : M i = some b) : (Instr.lookup 81 (.map (some mb)) (.int .i64 i) false).run Try.prog W = .ok (.int .i64 b) W := by
  obtain ⟨D, h1, h2⟩ := h
  obtain ⟨v, ps, hrun, hv⟩ := h1.lookup lawZ Try.underlying81 (z := .int .i64 0) (by kernel_rfl) (zd := dN 0) (zp := []) rfl (keyZ hi)
  obtain ⟨a, rfl, hd⟩ := elN_inv hv
  rw [(h2.2 i hi).2 b hb] at hd
  simp [dN] at hd
  rw [hrun, ← hd]
theorem MpI.put (h : MpI mb n M W) {i : Int} (hi : W64 i) (a : Nat) (hn : n < maxLen) : ∃ w8, (Instr.mapUpdate 81 (.map (some mb)) (.int .i64 i) (.int .i64 a)).run Try.prog W = .ok () w8 ∧ MpI mb (n + 1) (updM M i a) w8 ∧ W.grownBy w8 (some mb) := by
  obtain ⟨D, h1, h2⟩ := h
  obtain ⟨w8, hrun, m8, g8⟩ := h1.update (val := .int .i64 a) lawZ Try.underlying81 hn (keyZ hi) (d := dN a) (ps := []) rfl
  exact ⟨w8, hrun, ⟨_, m8, mpK_put h2 i a⟩, g8⟩
theorem MpI.kept {row : Option Nat} (h : MpI mb n M W) (hg : W.grownBy W' row) (hne : some mb ≠ row) : MpI mb n M W' := by
  obtain ⟨D, h1, h2⟩ := h
  exact ⟨D, h1.kept hg hne, h2⟩
theorem MpI.lt (h : MpI mb n M W) : mb < W.heap.size := by
  obtain ⟨D, h1, _⟩ := h
  exact h1.lt
theorem MpI.new (W : World) : MpI W.heap.size 0 (fun _ => none) (W.alloc (.map #[] 0)) := ⟨_, World.ownsMap_made (H := Unit) W Try.prog 3 elN, mpK_start⟩
end
end Go.Proofs.Ytajddejeglhbhaa

namespace Go.Proofs.Ytajddejeglhbhaa
open Go.ChangeShapes Go.WideShapes Go.ChangeAt Go.RowKit Go.Maps
set_option linter.unusedVariables false
set_option linter.unusedSimpArgs false
set_option maxRecDepth 100000
attribute [local irreducible] Calls
theorem pt_one (w : World) : Calls Try.prog 31 #[.int .i64 65536] w fun e w' => e = .returned (.agg #[.int .i64 65536, .int .i64 65536]) ∧ Below w.heap.size w w' := by
  have h := r2point 65536 w
  rwa [show mkLo 65536 65536 = 65536 by decide, show mkHi 65536 65536 = 65536 by decide] at h
theorem one_ok (w : World) : Calls Try.prog 33 #[] w fun e w' => e = .returned (.agg #[.int .i64 1, .int .i64 0, .int .i64 0, .int .i64 65536, .int .i64 65536]) ∧ Below w.heap.size w w' := by
  have hX := World.alloc_heap_new w (.cells #[.int .i64 0, .int .i64 0, .int .i64 0, .int .i64 0, .int .i64 0] 59)
  have hb : Below w.heap.size w (w.alloc (.cells #[.int .i64 0, .int .i64 0, .int .i64 0, .int .i64 0, .int .i64 0] 59)) := (Below.refl _ _).alloc (Nat.le_refl _) _
  have HX := Lib.hid hX
  have HB := Lib.hid hb
  clear hX hb
  go_enter Try.func33, Try.ntmps33
  go_wp2_with (fail)
  refine (pt_one _).mono ?_
  rintro e w1 ⟨rfl, hB⟩
  have hy := (hB.block _ (Array.getElem?_eq_some_iff.1 HX.out).1).trans HX.out
  have y0 := heapN_cellj hy (k := 0) rfl
  have y1 := heapN_cellj hy (k := 1) rfl
  have y2 := heapN_cellj hy (k := 2) rfl
  have y3 := heapN_cellj hy (k := 3) rfl
  have y4 := heapN_cellj hy (k := 4) rfl
  have z0 : w1.frozen? ⟨w.heap.size, 0, none⟩ = false := by simp [World.frozen?, hy]
  have z1 : w1.frozen? ⟨w.heap.size, 1, none⟩ = false := by simp [World.frozen?, hy]
  have z2 : w1.frozen? ⟨w.heap.size, 2, none⟩ = false := by simp [World.frozen?, hy]
  have z3 : w1.frozen? ⟨w.heap.size, 3, none⟩ = false := by simp [World.frozen?, hy]
  have z4 : w1.frozen? ⟨w.heap.size, 4, none⟩ = false := by simp [World.frozen?, hy]
  have HW := Lib.hid (below_then HB.out hB)
  clear hB
  go_wp2_with (fail)
  have hs := (cellsT_setN (o := 4) (u := .int .i64 65536) (cellsT_setN (o := 3) (u := .int .i64 65536) (cellsT_setN (o := 2) (u := .int .i64 0) (cellsT_setN (o := 1) (u := .int .i64 0) (cellsT_setN (o := 0) (u := .int .i64 1) hy)))))
  have x0 := heapN_cellj hs (k := 0) (u := .int .i64 1) rfl
  have x1 := heapN_cellj hs (k := 1) (u := .int .i64 0) rfl
  have x2 := heapN_cellj hs (k := 2) (u := .int .i64 0) rfl
  have x3 := heapN_cellj hs (k := 3) (u := .int .i64 65536) rfl
  have x4 := heapN_cellj hs (k := 4) (u := .int .i64 65536) rfl
  exact bodyPost_ret (v := .agg #[.int .i64 1, .int .i64 0, .int .i64 0, .int .i64 65536, .int .i64 65536]) (by simp [results, Try.results33, go_sem, x0, x1, x2, x3, x4]) rfl ⟨rfl, (((((HW.out.setCell (p := ⟨w.heap.size, 0, none⟩) (Nat.le_refl _) _).setCell (p := ⟨w.heap.size, 1, none⟩) (Nat.le_refl _) _).setCell (p := ⟨w.heap.size, 2, none⟩) (Nat.le_refl _) _).setCell (p := ⟨w.heap.size, 3, none⟩) (Nat.le_refl _) _).setCell (p := ⟨w.heap.size, 4, none⟩) (Nat.le_refl _) _)⟩
theorem num_ok (w : World) : Calls Try.prog 34 #[.int .i64 1] w fun e w' => e = .returned (.agg #[.int .i64 1, .int .i64 0, .int .i64 65536, .int .i64 65536]) ∧ Below w.heap.size w w' := by
  have hX := World.alloc_heap_new w (.cells #[.int .i64 0, .int .i64 0, .int .i64 0, .int .i64 0] 62)
  have hb : Below w.heap.size w (w.alloc (.cells #[.int .i64 0, .int .i64 0, .int .i64 0, .int .i64 0] 62)) := (Below.refl _ _).alloc (Nat.le_refl _) _
  have HX := Lib.hid hX
  have HB := Lib.hid hb
  clear hX hb
  go_enter Try.func34, Try.ntmps34
  go_wp2_with (fail)
  refine (pt_one _).mono ?_
  rintro e w1 ⟨rfl, hB⟩
  have hy := (hB.block _ (Array.getElem?_eq_some_iff.1 HX.out).1).trans HX.out
  have y0 := heapN_cellj hy (k := 0) rfl
  have y1 := heapN_cellj hy (k := 1) rfl
  have y2 := heapN_cellj hy (k := 2) rfl
  have y3 := heapN_cellj hy (k := 3) rfl
  have z0 : w1.frozen? ⟨w.heap.size, 0, none⟩ = false := by simp [World.frozen?, hy]
  have z1 : w1.frozen? ⟨w.heap.size, 1, none⟩ = false := by simp [World.frozen?, hy]
  have z2 : w1.frozen? ⟨w.heap.size, 2, none⟩ = false := by simp [World.frozen?, hy]
  have z3 : w1.frozen? ⟨w.heap.size, 3, none⟩ = false := by simp [World.frozen?, hy]
  have HW := Lib.hid (below_then HB.out hB)
  clear hB
  go_wp2_with (fail)
  have hs := (cellsT_setN (o := 3) (u := .int .i64 65536) (cellsT_setN (o := 2) (u := .int .i64 65536) (cellsT_setN (o := 1) (u := .int .i64 0) (cellsT_setN (o := 0) (u := .int .i64 1) hy))))
  have x0 := heapN_cellj hs (k := 0) (u := .int .i64 1) rfl
  have x1 := heapN_cellj hs (k := 1) (u := .int .i64 0) rfl
  have x2 := heapN_cellj hs (k := 2) (u := .int .i64 65536) rfl
  have x3 := heapN_cellj hs (k := 3) (u := .int .i64 65536) rfl
  exact bodyPost_ret (v := .agg #[.int .i64 1, .int .i64 0, .int .i64 65536, .int .i64 65536]) (by simp [results, Try.results34, go_sem, x0, x1, x2, x3]) rfl ⟨rfl, ((((HW.out.setCell (p := ⟨w.heap.size, 0, none⟩) (Nat.le_refl _) _).setCell (p := ⟨w.heap.size, 1, none⟩) (Nat.le_refl _) _).setCell (p := ⟨w.heap.size, 2, none⟩) (Nat.le_refl _) _).setCell (p := ⟨w.heap.size, 3, none⟩) (Nat.le_refl _) _)⟩
end Go.Proofs.Ytajddejeglhbhaa
