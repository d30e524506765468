/-
  law03's boxes.
  Lists of intervals: hulls and subsets.
-/
import Derived.Test.YtpepgheocemjdaaPredK
import Derived.Test.YtpepgheocemjdaaMade
namespace Go.Proofs.Ytpepgheocemjdaa
open Go.ChangeShapes Go.WideShapes Go.ChangeAt Go.RowKit
set_option linter.unusedVariables false
set_option linter.unusedSimpArgs false
set_option maxRecDepth 100000

theorem steady_made (k : Nat) : Steady (fun u w' => ∃ m : List (Int × Int), m.length = k ∧ (∀ p ∈ m, VB p) ∧ Bx w' u m) := fun v w1 w2 hb ⟨m, h1, h2, h3⟩ => ⟨m, h1, h2, h3.grow hb⟩
def I64 (l : List (Int × Int)) : Prop := ∀ p ∈ l, (-9223372036854775808 ≤ p.1 ∧ p.1 ≤ 9223372036854775807) ∧ -9223372036854775808 ≤ p.2 ∧ p.2 ≤ 9223372036854775807

set_option maxHeartbeats 4000000 in
theorem law_boxes (vA vB vC p0 p1 : Value) (la lb : List (Int × Int)) (n : Int) (k : Nat) (w : World) (hA : Bx w vA la) (hB : Bx w vB lb) (ba : I64 la) (bb : I64 lb) (hn0 : 0 ≤ n) (hn1 : n < 256) (hk : 1 + n % 6 = (k : Int)) (hk6 : k ≤ 6) :
    Calls Try.prog 23 #[.agg #[vA, vB, vC, .int .u8 n, p0, p1]] w fun e w' => ∃ u v a b, e = .returned (.tuple #[u, v]) ∧ a.length = k ∧ b.length = k ∧ (∀ p ∈ a, VB p) ∧ (∀ p ∈ b, VB p) ∧ Bx w' u a ∧ Bx w' v b ∧ Below w.heap.size w w' := by
  have HA := Lib.hid hA
  have HB := Lib.hid hB
  have BA := Lib.hid ba
  have BB := Lib.hid bb
  have hm0 : 0 ≤ n % 6 := Int.emod_nonneg _ (by decide)
  have hm1 : n % 6 < 6 := Int.emod_lt_of_pos _ (by decide)
  clear hA hB ba bb
  go_enter Try.func23, Try.ntmps23
  go_wp2_with (fail)
  generalize hW0 : World.alloc w _ = W0
  have hBW : Below w.heap.size w W0 := by subst hW0; exact ((Below.refl w.heap.size w).alloc (by go_size) _)
  have Y0 : w.heap.size < W0.heap.size := by subst hW0; simp <;> omega
  have F0_0 : ∀ g : Grown W0, g.w.cell? ⟨w.heap.size, 0, none⟩ = some vA := fun g => (g.cell Y0).trans (by subst hW0; simp [go_sem])
  have F0_1 : ∀ g : Grown W0, g.w.cell? ⟨w.heap.size, 1, none⟩ = some vB := fun g => (g.cell Y0).trans (by subst hW0; simp [go_sem])
  clear hW0
  refine region_pred (lk [(10, fun u _ => u = .pointer (some ⟨w.heap.size, 0, none⟩)), (11, fun u _ => u = vA), (12, fun u _ => u = .int .i64 k), (13, fun u w' => ∃ m : List (Int × Int), m.length = k ∧ (∀ p ∈ m, VB p) ∧ Bx w' u m), (14, fun u _ => u = .pointer (some ⟨w.heap.size, 1, none⟩)), (15, fun u _ => u = vB), (16, fun u _ => u = .int .i64 k), (17, fun u w' => ∃ m : List (Int × Int), m.length = k ∧ (∀ p ∈ m, VB p) ∧ Bx w' u m), (2, fun u w' => ∃ m : List (Int × Int), m.length = k ∧ (∀ p ∈ m, VB p) ∧ Bx w' u m), (3, fun u w' => ∃ m : List (Int × Int), m.length = k ∧ (∀ p ∈ m, VB p) ∧ Bx w' u m)])
    (by kernel_rfl) (by kernel_rfl) (lk_steady _ ⟨steady_eq _, steady_eq _, steady_eq _, steady_made k, steady_eq _, steady_eq _, steady_eq _, steady_made k, steady_made k, steady_made k, trivial⟩) ?_ ?_
  · have hA := HA.out
    have hB := HB.out
    have ba := BA.out
    have bb := BB.out
    have hBW := hBW
    refine ⟨?_, ?_, ?_, ?_, ?_, ?_, ?_, ?_, ?_, ?_, trivial⟩
    · refine ob_plain [1] rfl rfl fun aa g h => ?_
      have e5 := getD_of (seen_out (v := .pointer (some ⟨w.heap.size, 0, none⟩)) rfl rfl h.1)
      exact upon_value (v := .pointer (some ⟨w.heap.size, 0, none⟩)) (by simp [go_sem, e5]) (Below.refl _ _) rfl
    · refine ob_plain [10] rfl rfl fun aa g h => ?_
      obtain ⟨_, r5, rfl⟩ := seen_in rfl h.1
      have e5 := getD_of r5
      have hc := F0_0 g
      exact upon_value (v := vA) (by simp [go_sem, e5, r5, hc]) (Below.refl _ _) rfl
    · refine ob_plain [4] rfl rfl fun aa g h => ?_
      have e5 := getD_of (seen_out (v := .int .i64 k) rfl rfl h.1)
      exact upon_value (v := .int .i64 k) (by simp [go_sem, e5]) (Below.refl _ _) rfl
    · refine ob_plain [11, 12] rfl rfl fun aa g h => ?_
      obtain ⟨v5, r5, p5⟩ := seen_in rfl h.1
      have p6 : v5 = vA := p5
      rw [p6] at r5
      have e5 := getD_of r5
      obtain ⟨_, r6, rfl⟩ := seen_in rfl h.2.1
      have e6 := getD_of r6
      refine upon_enter (f := 54) (args := #[vA, .int .i64 k]) (by simp [go_sem, e5, r5, e6, r6]) rfl ?_
      exact (r3made vA _ k g.w ((hA.grow hBW).grow g.h) hk6 ba).mono fun e w' ⟨u, m, he, h1, h2, h3, h4⟩ => ⟨u, he, h4, m, h1, h2, h3⟩
    · refine ob_plain [1] rfl rfl fun aa g h => ?_
      have e5 := getD_of (seen_out (v := .pointer (some ⟨w.heap.size, 0, none⟩)) rfl rfl h.1)
      exact upon_value (v := .pointer (some ⟨w.heap.size, 1, none⟩)) (by simp [go_sem, e5]) (Below.refl _ _) rfl
    · refine ob_plain [14] rfl rfl fun aa g h => ?_
      obtain ⟨_, r5, rfl⟩ := seen_in rfl h.1
      have e5 := getD_of r5
      have hc := F0_1 g
      exact upon_value (v := vB) (by simp [go_sem, e5, r5, hc]) (Below.refl _ _) rfl
    · refine ob_plain [4] rfl rfl fun aa g h => ?_
      have e5 := getD_of (seen_out (v := .int .i64 k) rfl rfl h.1)
      exact upon_value (v := .int .i64 k) (by simp [go_sem, e5]) (Below.refl _ _) rfl
    · refine ob_plain [15, 16] rfl rfl fun aa g h => ?_
      obtain ⟨v5, r5, p5⟩ := seen_in rfl h.1
      have p6 : v5 = vB := p5
      rw [p6] at r5
      have e5 := getD_of r5
      obtain ⟨_, r6, rfl⟩ := seen_in rfl h.2.1
      have e6 := getD_of r6
      refine upon_enter (f := 54) (args := #[vB, .int .i64 k]) (by simp [go_sem, e5, r5, e6, r6]) rfl ?_
      exact (r3made vB _ k g.w ((hB.grow hBW).grow g.h) hk6 bb).mono fun e w' ⟨u, m, he, h1, h2, h3, h4⟩ => ⟨u, he, h4, m, h1, h2, h3⟩
    · refine ob_plain [13] rfl rfl fun aa g h => ?_
      obtain ⟨u5, r5, p5⟩ := seen_in rfl h.1
      have e5 := getD_of r5
      exact upon_value (v := u5) (by simp [go_sem, e5, r5]) (Below.refl _ _) p5
    · refine ob_plain [17] rfl rfl fun aa g h => ?_
      obtain ⟨u5, r5, p5⟩ := seen_in rfl h.1
      have e5 := getD_of r5
      exact upon_value (v := u5) (by simp [go_sem, e5, r5]) (Below.refl _ _) p5
  · rintro w1 hB1 _ rfl v11 h11 _ rfl v13 h13 _ rfl v15 h15 _ rfl v17 h17 u ⟨a, a1, a2, a3⟩ v ⟨b, b1, b2, b3⟩
    rename_i K hK
    exact hK _ _ (wp_ret (bodyPost_ret (v := .tuple #[u, v]) (by simp [results, Try.results23, go_sem]) rfl ⟨u, v, a, b, rfl, a1, b1, a2, b2, a3, b3, below_then hBW hB1⟩))
end Go.Proofs.Ytpepgheocemjdaa

namespace Go.Proofs.Ytpepgheocemjdaa
open Go.ChangeShapes Go.WideShapes Go.ChangeAt Go.RowKit
set_option linter.unusedVariables false
set_option linter.unusedSimpArgs false
set_option maxRecDepth 100000

theorem vi_hull {a b c d : Int} (h : VI a b) (g : VI c d) : VI (min a c) (max b d) := by
  unfold VI Ent Num at *
  omega
theorem hull_len (a b : List (Int × Int)) (h : b.length = a.length) : ((a.zip b).map hullI).length = a.length := by simp [h]
theorem hull_vb : ∀ (a b : List (Int × Int)), (∀ p ∈ a, VB p) → (∀ p ∈ b, VB p) → ∀ p ∈ (a.zip b).map hullI, VB p
  | [], _, _, _, p, hp => by simp at hp
  | _ :: _, [], _, _, p, hp => by simp at hp
  | x :: a, y :: b, ha, hb, p, hp => by
    rw [List.zip_cons_cons, List.map_cons] at hp
    rcases List.mem_cons.1 hp with rfl | hp
    · exact vi_hull (ha x (by simp)) (hb y (by simp))
    · exact hull_vb a b (fun q hq => ha q (by simp [hq])) (fun q hq => hb q (by simp [hq])) p hp
theorem sub_refl : ∀ (a : List (Int × Int)), (a.zip a).all sub1 = true
  | [] => rfl
  | x :: a => by
    rw [List.zip_cons_cons, List.all_cons, sub_refl a]
    simp [sub1]
theorem hull_left : ∀ (a b : List (Int × Int)), b.length = a.length → (a.zip ((a.zip b).map hullI)).all sub1 = true
  | [], _, _ => rfl
  | _ :: _, [], h => by simp at h
  | x :: a, y :: b, h => by
    rw [List.zip_cons_cons, List.map_cons, List.zip_cons_cons, List.all_cons, hull_left a b (by simpa using h)]
    have e1 : min x.1 y.1 ≤ x.1 ∧ min x.1 y.1 ≤ y.1 ∧ x.2 ≤ max x.2 y.2 ∧ y.2 ≤ max x.2 y.2 := by omega
    simp [sub1, hullI, e1]
theorem hull_right : ∀ (a b : List (Int × Int)), b.length = a.length → (b.zip ((a.zip b).map hullI)).all sub1 = true
  | [], [], _ => rfl
  | [], _ :: _, h => by simp at h
  | _ :: _, [], h => by simp at h
  | x :: a, y :: b, h => by
    rw [List.zip_cons_cons, List.map_cons, List.zip_cons_cons, List.all_cons, hull_right a b (by simpa using h)]
    have e1 : min x.1 y.1 ≤ x.1 ∧ min x.1 y.1 ≤ y.1 ∧ x.2 ≤ max x.2 y.2 ∧ y.2 ≤ max x.2 y.2 := by omega
    simp [sub1, hullI, e1]
theorem hull_comm : ∀ (a b : List (Int × Int)), (b.zip a).map hullI = (a.zip b).map hullI
  | [], [] => rfl
  | [], _ :: _ => rfl
  | _ :: _, [] => rfl
  | x :: a, y :: b => by
    rw [List.zip_cons_cons, List.zip_cons_cons, List.map_cons, List.map_cons, hull_comm a b]
    simp only [hullI, List.cons.injEq, and_true, Prod.mk.injEq]
    omega
theorem hull_lub : ∀ (a b c : List (Int × Int)), (a.zip c).all sub1 = true → (b.zip c).all sub1 = true → (((a.zip b).map hullI).zip c).all sub1 = true
  | [], _, _, _, _ => by simp
  | _ :: _, [], _, _, _ => by simp
  | _ :: _, _ :: _, [], _, _ => by simp
  | x :: a, y :: b, z :: c, h, g => by
    rw [List.zip_cons_cons, List.all_cons, Bool.and_eq_true] at h g
    rw [List.zip_cons_cons, List.map_cons, List.zip_cons_cons, List.all_cons, hull_lub a b c h.2 g.2]
    have h1 := h.1
    have g1 := g.1
    simp only [sub1, Bool.and_true, Bool.and_eq_true, decide_eq_true_eq] at h1 g1
    have e1 : z.1 ≤ min x.1 y.1 ∧ max x.2 y.2 ≤ z.2 := by omega
    simp only [sub1, hullI, e1.1, e1.2, decide_true, Bool.and_self]
theorem hull_abs : ∀ (a b : List (Int × Int)), b.length = a.length → (a.zip b).all sub1 = true → (a.zip b).map hullI = b
  | [], [], _, _ => rfl
  | [], _ :: _, h, _ => by simp at h
  | _ :: _, [], h, _ => by simp at h
  | x :: a, y :: b, h, g => by
    rw [List.zip_cons_cons, List.all_cons, Bool.and_eq_true] at g
    rw [List.zip_cons_cons, List.map_cons, hull_abs a b (by simpa using h) g.2]
    have g1 := g.1
    obtain ⟨y1, y2⟩ := y
    simp only [sub1, hullI, Bool.and_eq_true, decide_eq_true_eq] at g1
    simp only [hullI, List.cons.injEq, and_true, Prod.mk.injEq]
    omega
theorem hull_idem : ∀ (a b : List (Int × Int)), (((a.zip b).map hullI).zip a).map hullI = (a.zip b).map hullI
  | [], _ => rfl
  | _ :: _, [] => rfl
  | x :: a, y :: b => by
    rw [List.zip_cons_cons, List.map_cons, List.zip_cons_cons, List.map_cons, hull_idem a b]
    simp only [hullI, List.cons.injEq, and_true, Prod.mk.injEq]
    omega
theorem vb_zip (a b : List (Int × Int)) (ha : ∀ p ∈ a, VB p) (hb : ∀ p ∈ b, VB p) : ∀ z ∈ a.zip b, VB z.1 ∧ VB z.2 := fun z hz => ⟨ha _ (List.of_mem_zip (a := z.1) (b := z.2) hz).1, hb _ (List.of_mem_zip (a := z.1) (b := z.2) hz).2⟩
theorem all_valid (a : List (Int × Int)) (k : Nat) (ha : ∀ p ∈ a, VB p) (hl : a.length = k) (h1 : 1 ≤ k) (h6 : k ≤ 6) : (a.all (fun p => decide (VI p.1 p.2)) && (decide (1 ≤ a.length) && decide (a.length ≤ 6))) = true := by
  have : a.all (fun p => decide (VI p.1 p.2)) = true := List.all_eq_true.2 fun p hp => decide_eq_true (ha p hp)
  rw [this, hl]
  simp [h1, h6]
end Go.Proofs.Ytpepgheocemjdaa
