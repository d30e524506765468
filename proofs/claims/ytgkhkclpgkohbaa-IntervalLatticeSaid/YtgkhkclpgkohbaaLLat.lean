/-
  The law of the lattice.
-/
import Derived.Test.YtgkhkclpgkohbaaLLat1
import Derived.Test.YtgkhkclpgkohbaaIw6
import Derived.Test.YtgkhkclpgkohbaaIw10
import Derived.Test.YtgkhkclpgkohbaaOpnd
namespace Go.Proofs.Ytgkhkclpgkohbaa
open Go.ChangeShapes Go.WideShapes Go.ChangeAt Go.RowKit
set_option linter.unusedVariables false
set_option linter.unusedSimpArgs false
theorem hull_vi {a b c d : Int} (h : VI a b) (k : VI c d) : VI (min a c) (max b d) := by
  unfold VI Ent Num at *; omega
theorem meet_vi {a b c d : Int} (h : VI a b) (k : VI c d) (hm : max a c ≤ min b d) : VI (max a c) (min b d) := by
  unfold VI Ent Num at *; omega
def inB (a b q : Int) : Bool := decide (Ent a b) || (decide (a ≤ q) && decide (q ≤ b))
theorem inB_iff (a b q : Int) : inB a b q = true ↔ Ent a b ∨ (a ≤ q ∧ q ≤ b) := by
  unfold inB; simp
theorem in_meet {a b c d q : Int} (h : VI a b) (k : VI c d) (hm : max a c ≤ min b d) : inB (max a c) (min b d) q = (inB a b q && inB c d q) := by
  rw [Bool.eq_iff_iff, Bool.and_eq_true, inB_iff, inB_iff, inB_iff]
  unfold VI Ent Num at *
  omega
theorem in_apart {a b c d q : Int} (h : VI a b) (k : VI c d) (hm : ¬ max a c ≤ min b d) : (inB a b q && inB c d q) = false := by
  rw [Bool.eq_false_iff, ne_eq, Bool.and_eq_true, inB_iff, inB_iff]
  unfold VI Ent Num at *
  omega
def subB (a b c d : Int) : Bool := decide (c ≤ a) && decide (b ≤ d)
theorem subB_iff (a b c d : Int) : subB a b c d = true ↔ c ≤ a ∧ b ≤ d := by unfold subB; simp

theorem lat (x0 x1 x2 x3 x4 x5 : Int) (h : ∀ p ∈ [(IntKind.i64, x0), (IntKind.i64, x1), (IntKind.i64, x2), (IntKind.i64, x3), (IntKind.i32, x4), (IntKind.u16, x5)], p.1.has p.2) (y0 y1 : Int) (hy : ∀ x ∈ [y0, y1], IntKind.has .i64 x) (at_ : Int) (hat : (Lit.int .i64 at_).wf = true) (w : World) :
    Calls Try.prog 9 #[.agg #[.int .i64 x0, .int .i64 x1, .int .i64 x2, .int .i64 x3, .int .i32 x4, .int .u16 x5], .agg #[.int .i64 y0, .int .i64 y1], .int .i64 at_] w fun e w' => e = .returned (.bool true) ∧ Below w.heap.size w w' := by
  obtain ⟨⟨a, b, hv, u1⟩, ⟨c, d, hw, u2⟩, -⟩ := operands h
  have hy0 := has_i64 (hy y0 (by simp))
  have hy1 := has_i64 (hy y1 (by simp))
  obtain ⟨i, j, hz, u3⟩ := r2made y0 y1 hy0.1 hy0.2 hy1.1 hy1.2
  have hab := hv.bd.2.2.2.2
  have hcd := hw.bd.2.2.2.2
  have t1 := fun w => iv_subset a b (min a c) (max b d) true w (by rw [← subB, subB_iff]; omega)
  have t2 := fun w => iv_subset c d (min a c) (max b d) true w (by rw [← subB, subB_iff]; omega)
  have t3 := fun w => iv_subset a b i j (subB a b i j) w rfl
  have t4 := fun w => iv_subset c d i j (subB c d i j) w rfl
  have t5 : subB a b i j = true → subB c d i j = true → ∀ w, _ := fun h1 h2 w => iv_subset (min a c) (max b d) i j true w (by rw [subB_iff] at h1 h2; rw [← subB, subB_iff]; omega)
  have t6 := fun w => is2 (iv_hull c d a b w hw hv) (show min c a = min a c by omega) (show max d b = max b d by omega)
  have t7 := fun w => is2 (iv_hull a b a b w hv hv) (show min a a = a by omega) (show max b b = b by omega)
  have t8 := fun w => iv_valid (min a c) (max b d) true w (by simp [hull_vi hv hw])
  have k1 := fun w => iv_contains a b (at_.tmod 4294967296) (inB a b (at_.tmod 4294967296)) w rfl
  have k2 := fun w => iv_contains c d (at_.tmod 4294967296) (inB c d (at_.tmod 4294967296)) w rfl
  have n2 := fun w => is3 (iv_meet_yes a b a b w hv hv (by omega)) (show max a a = a by omega) (show min b b = b by omega)
  have n3 := fun w => iv_subset a b c d (subB a b c d) w rfl
  by_cases hm : max a c ≤ min b d
  · have k3 := fun w => iv_contains (max a c) (min b d) (at_.tmod 4294967296) (inB (max a c) (min b d) (at_.tmod 4294967296)) w rfl
    exact lat_walk x0 x1 x2 x3 x4 x5 y0 y1 a b c d i j (min a c) (max b d) (max a c) (min b d) at_ true _ _ _ _ _ _ w (fun _ => in_meet hv hw hm) (fun hh => by cases hh) (fun hr => by rw [subB_iff] at hr; exact ⟨rfl, by omega, by omega⟩)
      u1 u2 u3 (fun w => iv_hull a b c d w hv hw) (fun w => iv_meet_yes a b c d w hv hw hm) t1 t2 t3 t4 t6 t7 t8 k1 k2 k3
      (fun w => is3 (iv_meet_yes c d a b w hw hv (by omega)) (show max c a = max a c by omega) (show min d b = min b d by omega)) n2 n3 t5
      (fun _ w => iv_subset _ _ _ _ true w (by rw [← subB, subB_iff]; omega)) (fun _ w => iv_subset _ _ _ _ true w (by rw [← subB, subB_iff]; omega)) (fun _ w => iv_valid _ _ true w (by simp [meet_vi hv hw hm]))
  · have k3 := fun w => iv_contains 0 0 (at_.tmod 4294967296) (inB 0 0 (at_.tmod 4294967296)) w rfl
    exact lat_walk x0 x1 x2 x3 x4 x5 y0 y1 a b c d i j (min a c) (max b d) 0 0 at_ false _ _ _ _ _ _ w (fun hh => by cases hh) (fun _ => in_apart hv hw hm) (fun hr => by rw [subB_iff] at hr; omega)
      u1 u2 u3 (fun w => iv_hull a b c d w hv hw) (fun w => iv_meet_no a b c d w (by omega)) t1 t2 t3 t4 t6 t7 t8 k1 k2 k3
      (fun w => iv_meet_no c d a b w (by omega)) n2 n3 t5 (fun hh => by cases hh) (fun hh => by cases hh) (fun hh => by cases hh)
end Go.Proofs.Ytgkhkclpgkohbaa
