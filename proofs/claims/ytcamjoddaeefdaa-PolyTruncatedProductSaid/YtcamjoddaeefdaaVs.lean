/-
  law05's two polynomials.
-/
import Derived.Test.YtcamjoddaeefdaaMd
namespace Go.Proofs.Ytcamjoddaeefdaa
open Go.ChangeShapes Go.WideShapes Go.ChangeAt Go.RowKit
set_option linter.unusedVariables false
set_option linter.unusedSimpArgs false
set_option maxRecDepth 100000

attribute [local irreducible] Calls
def SGood (most : Int) (u : Value) (W : World) : Prop := ∃ m, Tx W u m ∧ SomeS u ∧ Good5 most m
theorem steady_good (most : Int) : Steady (SGood most) := fun v w1 w2 hb ⟨m, h1, h2, h3⟩ => ⟨m, h1.grow hb, h2, h3⟩
theorem SomeS.cap {v : Value} (h : SomeS v) : CapOk v := by
  obtain ⟨b, o, n, c, rfl, h1⟩ := h
  exact ⟨_, _, _, rfl, h1, fun h => by cases h⟩
set_option maxHeartbeats 4000000 in
theorem law5valid (vA vB : Value) (la lb : List Tm) (c n : Int) (w : World) (hA : Tx w vA la) (hB : Tx w vB lb) (ta : ∀ t ∈ la, TV t) (tb : ∀ t ∈ lb, TV t) :
    Calls Try.prog 11 #[.agg #[vA, vB, .int .i64 c, .int .i8 n]] w fun e w' => ∃ u v, e = .returned (.tuple #[u, v]) ∧ SGood 9 u w' ∧ SGood 9 v w' ∧ Below w.heap.size w w' := by
  have HA := Lib.hid hA
  have HB := Lib.hid hB
  have TA := Lib.hid ta
  have TB := Lib.hid tb
  clear hA hB ta tb
  go_enter Try.func11, Try.ntmps11
  go_wp2_with (fail)
  generalize hW0 : World.alloc w _ = W0
  have hBW : Below w.heap.size w W0 := by subst hW0; exact ((Below.refl w.heap.size w).alloc (by go_size) _)
  have Y0 : w.heap.size < W0.heap.size := by subst hW0; simp <;> omega
  have F0_0 : ∀ g : Grown W0, g.w.cell? ⟨w.heap.size, 0, none⟩ = some vA := fun g => (g.cell Y0).trans (by subst hW0; simp [go_sem])
  have F0_1 : ∀ g : Grown W0, g.w.cell? ⟨w.heap.size, 1, none⟩ = some vB := fun g => (g.cell Y0).trans (by subst hW0; simp [go_sem])
  clear hW0
  refine region_pred (lk [(4, fun u _ => u = .pointer (some ⟨w.heap.size, 0, none⟩)), (5, fun u _ => u = vA), (6, SGood 9), (7, fun u _ => u = .pointer (some ⟨w.heap.size, 1, none⟩)), (8, fun u _ => u = vB), (9, SGood 9), (2, SGood 9), (3, SGood 9)])
    (by kernel_rfl) (by kernel_rfl) (lk_steady _ ⟨steady_eq _, steady_eq _, steady_good 9, steady_eq _, steady_eq _, steady_good 9, steady_good 9, steady_good 9, trivial⟩) ?_ ?_
  · have HA := HA
    have HB := HB
    have TA := TA
    have TB := TB
    have hBW := hBW
    refine ⟨?_, ?_, ?_, ?_, ?_, ?_, ?_, ?_, trivial⟩
    · refine ob_plain [1] rfl rfl fun aa g h => ?_
      have e5 := getD_of (seen_out (v := .pointer (some ⟨w.heap.size, 0, none⟩)) rfl rfl h.1)
      exact upon_value (v := .pointer (some ⟨w.heap.size, 0, none⟩)) (by simp [go_sem, e5]) (Below.refl _ _) rfl
    · refine ob_plain [4] rfl rfl fun aa g h => ?_
      obtain ⟨_, r5, rfl⟩ := seen_in rfl h.1
      have e5 := getD_of r5
      have hc := F0_0 g
      exact upon_value (v := vA) (by simp [go_sem, e5, r5, hc]) (Below.refl _ _) rfl
    · refine ob_plain [5] rfl rfl fun aa g h => ?_
      obtain ⟨v5, r5, p5⟩ := seen_in rfl h.1
      have p6 : v5 = vA := p5
      rw [p6] at r5
      have e5 := getD_of r5
      refine upon_enter (f := 31) (args := #[vA, .int .i64 9, .int .i64 2147483648]) (by simp [go_sem, e5, r5]) rfl ?_
      exact (made5 vA _ 9 2147483648 g.w ((HA.out.grow hBW).grow g.h) TA.out (by decide) (by decide)).mono fun e w' ⟨u, m, he, h1, h2, h3, h4⟩ => ⟨u, he, h4, m, h1, h2, h3⟩
    · refine ob_plain [1] rfl rfl fun aa g h => ?_
      have e5 := getD_of (seen_out (v := .pointer (some ⟨w.heap.size, 0, none⟩)) rfl rfl h.1)
      exact upon_value (v := .pointer (some ⟨w.heap.size, 1, none⟩)) (by simp [go_sem, e5]) (Below.refl _ _) rfl
    · refine ob_plain [7] rfl rfl fun aa g h => ?_
      obtain ⟨_, r5, rfl⟩ := seen_in rfl h.1
      have e5 := getD_of r5
      have hc := F0_1 g
      exact upon_value (v := vB) (by simp [go_sem, e5, r5, hc]) (Below.refl _ _) rfl
    · refine ob_plain [8] rfl rfl fun aa g h => ?_
      obtain ⟨v5, r5, p5⟩ := seen_in rfl h.1
      have p6 : v5 = vB := p5
      rw [p6] at r5
      have e5 := getD_of r5
      refine upon_enter (f := 31) (args := #[vB, .int .i64 9, .int .i64 2147483648]) (by simp [go_sem, e5, r5]) rfl ?_
      exact (made5 vB _ 9 2147483648 g.w ((HB.out.grow hBW).grow g.h) TB.out (by decide) (by decide)).mono fun e w' ⟨u, m, he, h1, h2, h3, h4⟩ => ⟨u, he, h4, m, h1, h2, h3⟩
    · refine ob_plain [6] rfl rfl fun aa g h => ?_
      obtain ⟨u5, r5, p5⟩ := seen_in rfl h.1
      have e5 := getD_of r5
      exact upon_value (v := u5) (by simp [go_sem, e5, r5]) (Below.refl _ _) p5
    · refine ob_plain [9] rfl rfl fun aa g h => ?_
      obtain ⟨u5, r5, p5⟩ := seen_in rfl h.1
      have e5 := getD_of r5
      exact upon_value (v := u5) (by simp [go_sem, e5, r5]) (Below.refl _ _) p5
  · rename_i K hK
    rintro w1 hB1 _ rfl _ rfl v6 h6 _ rfl _ rfl v9 h9 u hu v hv
    exact hK _ _ (wp_ret (bodyPost_ret (v := .tuple #[u, v]) (by simp [results, Try.results11, go_sem]) rfl ⟨u, v, rfl, hu, hv, below_then hBW hB1⟩))
set_option maxHeartbeats 4000000 in
theorem law5small (vA vB : Value) (la lb : List Tm) (c n : Int) (w : World) (hA : Tx w vA la) (hB : Tx w vB lb) (ta : ∀ t ∈ la, TV t) (tb : ∀ t ∈ lb, TV t) :
    Calls Try.prog 18 #[.agg #[vA, vB, .int .i64 c, .int .i8 n]] w fun e w' => ∃ u v, e = .returned (.tuple #[u, v]) ∧ SGood 6 u w' ∧ SGood 6 v w' ∧ Below w.heap.size w w' := by
  have HA := Lib.hid hA
  have HB := Lib.hid hB
  have TA := Lib.hid ta
  have TB := Lib.hid tb
  clear hA hB ta tb
  go_enter Try.func18, Try.ntmps18
  go_wp2_with (fail)
  generalize hW0 : World.alloc w _ = W0
  have hBW : Below w.heap.size w W0 := by subst hW0; exact ((Below.refl w.heap.size w).alloc (by go_size) _)
  have Y0 : w.heap.size < W0.heap.size := by subst hW0; simp <;> omega
  have F0_0 : ∀ g : Grown W0, g.w.cell? ⟨w.heap.size, 0, none⟩ = some vA := fun g => (g.cell Y0).trans (by subst hW0; simp [go_sem])
  have F0_1 : ∀ g : Grown W0, g.w.cell? ⟨w.heap.size, 1, none⟩ = some vB := fun g => (g.cell Y0).trans (by subst hW0; simp [go_sem])
  clear hW0
  refine region_pred (lk [(4, fun u _ => u = .pointer (some ⟨w.heap.size, 0, none⟩)), (5, fun u _ => u = vA), (6, SGood 6), (7, fun u _ => u = .pointer (some ⟨w.heap.size, 1, none⟩)), (8, fun u _ => u = vB), (9, SGood 6), (2, SGood 6), (3, SGood 6)])
    (by kernel_rfl) (by kernel_rfl) (lk_steady _ ⟨steady_eq _, steady_eq _, steady_good 6, steady_eq _, steady_eq _, steady_good 6, steady_good 6, steady_good 6, trivial⟩) ?_ ?_
  · have HA := HA
    have HB := HB
    have TA := TA
    have TB := TB
    have hBW := hBW
    refine ⟨?_, ?_, ?_, ?_, ?_, ?_, ?_, ?_, trivial⟩
    · refine ob_plain [1] rfl rfl fun aa g h => ?_
      have e5 := getD_of (seen_out (v := .pointer (some ⟨w.heap.size, 0, none⟩)) rfl rfl h.1)
      exact upon_value (v := .pointer (some ⟨w.heap.size, 0, none⟩)) (by simp [go_sem, e5]) (Below.refl _ _) rfl
    · refine ob_plain [4] rfl rfl fun aa g h => ?_
      obtain ⟨_, r5, rfl⟩ := seen_in rfl h.1
      have e5 := getD_of r5
      have hc := F0_0 g
      exact upon_value (v := vA) (by simp [go_sem, e5, r5, hc]) (Below.refl _ _) rfl
    · refine ob_plain [5] rfl rfl fun aa g h => ?_
      obtain ⟨v5, r5, p5⟩ := seen_in rfl h.1
      have p6 : v5 = vA := p5
      rw [p6] at r5
      have e5 := getD_of r5
      refine upon_enter (f := 31) (args := #[vA, .int .i64 6, .int .i64 1048576]) (by simp [go_sem, e5, r5]) rfl ?_
      exact (made5 vA _ 6 1048576 g.w ((HA.out.grow hBW).grow g.h) TA.out (by decide) (by decide)).mono fun e w' ⟨u, m, he, h1, h2, h3, h4⟩ => ⟨u, he, h4, m, h1, h2, h3⟩
    · refine ob_plain [1] rfl rfl fun aa g h => ?_
      have e5 := getD_of (seen_out (v := .pointer (some ⟨w.heap.size, 0, none⟩)) rfl rfl h.1)
      exact upon_value (v := .pointer (some ⟨w.heap.size, 1, none⟩)) (by simp [go_sem, e5]) (Below.refl _ _) rfl
    · refine ob_plain [7] rfl rfl fun aa g h => ?_
      obtain ⟨_, r5, rfl⟩ := seen_in rfl h.1
      have e5 := getD_of r5
      have hc := F0_1 g
      exact upon_value (v := vB) (by simp [go_sem, e5, r5, hc]) (Below.refl _ _) rfl
    · refine ob_plain [8] rfl rfl fun aa g h => ?_
      obtain ⟨v5, r5, p5⟩ := seen_in rfl h.1
      have p6 : v5 = vB := p5
      rw [p6] at r5
      have e5 := getD_of r5
      refine upon_enter (f := 31) (args := #[vB, .int .i64 6, .int .i64 1048576]) (by simp [go_sem, e5, r5]) rfl ?_
      exact (made5 vB _ 6 1048576 g.w ((HB.out.grow hBW).grow g.h) TB.out (by decide) (by decide)).mono fun e w' ⟨u, m, he, h1, h2, h3, h4⟩ => ⟨u, he, h4, m, h1, h2, h3⟩
    · refine ob_plain [6] rfl rfl fun aa g h => ?_
      obtain ⟨u5, r5, p5⟩ := seen_in rfl h.1
      have e5 := getD_of r5
      exact upon_value (v := u5) (by simp [go_sem, e5, r5]) (Below.refl _ _) p5
    · refine ob_plain [9] rfl rfl fun aa g h => ?_
      obtain ⟨u5, r5, p5⟩ := seen_in rfl h.1
      have e5 := getD_of r5
      exact upon_value (v := u5) (by simp [go_sem, e5, r5]) (Below.refl _ _) p5
  · rename_i K hK
    rintro w1 hB1 _ rfl _ rfl v6 h6 _ rfl _ rfl v9 h9 u hu v hv
    exact hK _ _ (wp_ret (bodyPost_ret (v := .tuple #[u, v]) (by simp [results, Try.results18, go_sem]) rfl ⟨u, v, rfl, hu, hv, below_then hBW hB1⟩))
end Go.Proofs.Ytcamjoddaeefdaa
