/-
  Lists of intervals: hulls and subsets.
-/
import Derived.Test.YtdnndmpdlelliaaBoxes
namespace Go.Proofs.Ytdnndmpdlelliaa
open Go.ChangeShapes Go.WideShapes Go.ChangeAt Go.RowKit
set_option linter.unusedVariables false
set_option linter.unusedSimpArgs false
set_option maxRecDepth 100000

theorem vi_hull {a b c d : Int} (h : VI a b) (g : VI c d) : VI (min a c) (max b d) := by
  unfold VI Ent Num at *
  omega
theorem hull_len (a b : List (Int × Int)) (h : b.length = a.length) : ((a.zip b).map hullI).length = a.length := by simp [h]
theorem hull_vb : ∀ (a b : List (Int × Int)), (∀ p ∈ a, VB p) → (∀ p ∈ b, VB p) → ∀ p ∈ (a.zip b).map hullI, VB p
  | [], _, _, _, p, hp => by simp at hp
  | _ :: _, [], _, _, p, hp => by simp at hp
  | x :: a, y :: b, ha, hb, p, hp => by
    rw [List.zip_cons_cons, List.map_cons] at hp
    rcases List.mem_cons.1 hp with rfl | hp
    · exact vi_hull (ha x (by simp)) (hb y (by simp))
    · exact hull_vb a b (fun q hq => ha q (by simp [hq])) (fun q hq => hb q (by simp [hq])) p hp
theorem sub_refl : ∀ (a : List (Int × Int)), (a.zip a).all sub1 = true
  | [] => rfl
  | x :: a => by
    rw [List.zip_cons_cons, List.all_cons, sub_refl a]
    simp [sub1]
theorem hull_left : ∀ (a b : List (Int × Int)), b.length = a.length → (a.zip ((a.zip b).map hullI)).all sub1 = true
  | [], _, _ => rfl
  | _ :: _, [], h => by simp at h
  | x :: a, y :: b, h => by
    rw [List.zip_cons_cons, List.map_cons, List.zip_cons_cons, List.all_cons, hull_left a b (by simpa using h)]
    have e1 : min x.1 y.1 ≤ x.1 ∧ min x.1 y.1 ≤ y.1 ∧ x.2 ≤ max x.2 y.2 ∧ y.2 ≤ max x.2 y.2 := by omega
    simp [sub1, hullI, e1]
theorem hull_right : ∀ (a b : List (Int × Int)), b.length = a.length → (b.zip ((a.zip b).map hullI)).all sub1 = true
  | [], [], _ => rfl
  | [], _ :: _, h => by simp at h
  | _ :: _, [], h => by simp at h
  | x :: a, y :: b, h => by
    rw [List.zip_cons_cons, List.map_cons, List.zip_cons_cons, List.all_cons, hull_right a b (by simpa using h)]
    have e1 : min x.1 y.1 ≤ x.1 ∧ min x.1 y.1 ≤ y.1 ∧ x.2 ≤ max x.2 y.2 ∧ y.2 ≤ max x.2 y.2 := by omega
    simp [sub1, hullI, e1]
theorem hull_comm : ∀ (a b : List (Int × Int)), (b.zip a).map hullI = (a.zip b).map hullI
  | [], [] => rfl
  | [], _ :: _ => rfl
  | _ :: _, [] => rfl
  | x :: a, y :: b => by
    rw [List.zip_cons_cons, List.zip_cons_cons, List.map_cons, List.map_cons, hull_comm a b]
    simp only [hullI, List.cons.injEq, and_true, Prod.mk.injEq]
    omega
theorem hull_lub : ∀ (a b c : List (Int × Int)), (a.zip c).all sub1 = true → (b.zip c).all sub1 = true → (((a.zip b).map hullI).zip c).all sub1 = true
  | [], _, _, _, _ => by simp
  | _ :: _, [], _, _, _ => by simp
  | _ :: _, _ :: _, [], _, _ => by simp
  | x :: a, y :: b, z :: c, h, g => by
    rw [List.zip_cons_cons, List.all_cons, Bool.and_eq_true] at h g
    rw [List.zip_cons_cons, List.map_cons, List.zip_cons_cons, List.all_cons, hull_lub a b c h.2 g.2]
    have h1 := h.1
    have g1 := g.1
    simp only [sub1, Bool.and_true, Bool.and_eq_true, decide_eq_true_eq] at h1 g1
    have e1 : z.1 ≤ min x.1 y.1 ∧ max x.2 y.2 ≤ z.2 := by omega
    simp only [sub1, hullI, e1.1, e1.2, decide_true, Bool.and_self]
theorem hull_abs : ∀ (a b : List (Int × Int)), b.length = a.length → (a.zip b).all sub1 = true → (a.zip b).map hullI = b
  | [], [], _, _ => rfl
  | [], _ :: _, h, _ => by simp at h
  | _ :: _, [], h, _ => by simp at h
  | x :: a, y :: b, h, g => by
    rw [List.zip_cons_cons, List.all_cons, Bool.and_eq_true] at g
    rw [List.zip_cons_cons, List.map_cons, hull_abs a b (by simpa using h) g.2]
    have g1 := g.1
    obtain ⟨y1, y2⟩ := y
    simp only [sub1, hullI, Bool.and_eq_true, decide_eq_true_eq] at g1
    simp only [hullI, List.cons.injEq, and_true, Prod.mk.injEq]
    omega
theorem hull_idem : ∀ (a b : List (Int × Int)), (((a.zip b).map hullI).zip a).map hullI = (a.zip b).map hullI
  | [], _ => rfl
  | _ :: _, [] => rfl
  | x :: a, y :: b => by
    rw [List.zip_cons_cons, List.map_cons, List.zip_cons_cons, List.map_cons, hull_idem a b]
    simp only [hullI, List.cons.injEq, and_true, Prod.mk.injEq]
    omega
theorem vb_zip (a b : List (Int × Int)) (ha : ∀ p ∈ a, VB p) (hb : ∀ p ∈ b, VB p) : ∀ z ∈ a.zip b, VB z.1 ∧ VB z.2 := fun z hz => ⟨ha _ (List.of_mem_zip (a := z.1) (b := z.2) hz).1, hb _ (List.of_mem_zip (a := z.1) (b := z.2) hz).2⟩
theorem all_valid (a : List (Int × Int)) (k : Nat) (ha : ∀ p ∈ a, VB p) (hl : a.length = k) (h1 : 1 ≤ k) (h6 : k ≤ 6) : (a.all (fun p => decide (VI p.1 p.2)) && (decide (1 ≤ a.length) && decide (a.length ≤ 6))) = true := by
  have : a.all (fun p => decide (VI p.1 p.2)) = true := List.all_eq_true.2 fun p hp => decide_eq_true (ha p hp)
  rw [this, hl]
  simp [h1, h6]
end Go.Proofs.Ytdnndmpdlelliaa
