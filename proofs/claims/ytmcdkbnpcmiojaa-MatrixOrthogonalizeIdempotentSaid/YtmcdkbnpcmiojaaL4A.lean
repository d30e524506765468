/-
  The reference's Made and Small for matrices.
  law04's made and small; the reference's Dim and SmallBox.
-/
import Derived.Test.YtmcdkbnpcmiojaaInv
import Derived.Test.YtmcdkbnpcmiojaaR1
import Derived.Test.YtmcdkbnpcmiojaaMade
import Derived.Test.YtmcdkbnpcmiojaaPredL
import Derived.Test.YtmcdkbnpcmiojaaPredK
namespace Go.Proofs.Ytmcdkbnpcmiojaa
open Go.ChangeShapes Go.WideShapes Go.ChangeAt Go.RowKit
set_option linter.unusedVariables false
set_option linter.unusedSimpArgs false
set_option maxRecDepth 100000

attribute [local irreducible] Calls
theorem wrap_fit (n : Int) (h1 : -9223372036854775808 ≤ n) (h2 : n ≤ 9223372036854775807) : IntKind.i64.wrap n = n := by
  simp [IntKind.wrap, IntKind.bits, IntKind.signed]; omega
/-- A square of pairs of one kind. -/
def QM (Pr : Int × Int → Prop) (n : Nat) (M : List (List (Int × Int))) : Prop := M.length = n ∧ ∀ r ∈ M, r.length = n ∧ ∀ p ∈ r, Pr p
def Sm (p : Int × Int) : Prop := -16777216 < p.1 ∧ p.1 ≤ p.2 ∧ p.2 < 16777216
theorem vb_one : VB (65536, 65536) := .inr ⟨⟨by decide, by decide⟩, ⟨by decide, by decide⟩, by decide⟩
theorem sm_one : Sm (65536, 65536) := ⟨by decide, by decide, by decide⟩
theorem sm_zero : Sm (0, 0) := ⟨by decide, by decide, by decide⟩
theorem qm_set {Pr : Int × Int → Prop} {n i d : Nat} {M : List (List (Int × Int))} {r : List (Int × Int)} {x : Int × Int} (h : QM Pr n M) (hr : M[i]? = some r) (hx : Pr x) : QM Pr n (M.set i (r.set d x)) := by
  refine ⟨by rw [List.length_set]; exact h.1, fun s hs => ?_⟩
  have h0 := h.2 r (List.mem_of_getElem? hr)
  rcases List.mem_or_eq_of_mem_set hs with e | e
  · exact h.2 s e
  · subst e
    refine ⟨by rw [List.length_set]; exact h0.1, fun p hp => ?_⟩
    rcases List.mem_or_eq_of_mem_set hp with e | e
    · exact h0.2 p e
    · rw [e]
      exact hx
theorem qm_ident {Pr : Int × Int → Prop} (n : Nat) (h1 : Pr (65536, 65536)) (h0 : Pr (0, 0)) : QM Pr n (matOf idF n) := by
  refine ⟨by simp [matOf], fun r hr => ?_⟩
  simp only [matOf, List.mem_map] at hr
  obtain ⟨i, _, rfl⟩ := hr
  refine ⟨by simp [rowOf], fun p hp => ?_⟩
  simp only [rowOf, List.mem_map] at hp
  obtain ⟨j, _, rfl⟩ := hp
  unfold idF
  split
  · exact h1
  · exact h0
section
variable (O R ba oa c' c2 ca n k d q : Nat) (l : List (Int × Int)) (x y p1 p2 : Int)
def phi_r4made : Tmp → Value → World → Prop := lk [(30, fun u _ => u = .slice (some ⟨O, 0, none⟩) n c'), (31, fun u _ => u = .int .i64 (k : Int)), (32, fun u _ => u = .pointer (some ⟨O, k, none⟩)), (33, fun u _ => u = .slice (some ⟨R, 0, none⟩) n c2), (34, fun u _ => u = .int .i64 (d : Int)), (35, fun u _ => u = .slice (some ⟨ba, oa, none⟩) l.length ca), (36, fun u _ => u = .int .i64 (k : Int)), (37, fun u _ => u = .int .i64 (n : Int)), (38, fun u _ => u = .int .i64 (q : Int)), (39, fun u _ => u = .int .i64 (d : Int)), (40, fun u _ => u = .int .i64 ((q : Int) + (d : Int))), (41, fun u _ => u = .pointer (some ⟨ba, oa + (q + d) * 2, none⟩)), (42, fun u _ => u = .agg #[.int .i64 x, .int .i64 y]), (43, fun u _ => u = .agg #[.int .i64 p1, .int .i64 p2]), (44, fun u _ => u = .pointer (some ⟨R, d * 2, none⟩))]
theorem phi_r4made_steady : ∀ t v w1 w2, Below w1.heap.size w1 w2 → phi_r4made O R ba oa c' c2 ca n k d q l x y p1 p2 t v w1 → phi_r4made O R ba oa c' c2 ca n k d q l x y p1 p2 t v w2 := lk_steady _ ⟨steady_eq _, steady_eq _, steady_eq _, steady_eq _, steady_eq _, steady_eq _, steady_eq _, steady_eq _, steady_eq _, steady_eq _, steady_eq _, steady_eq _, steady_eq _, steady_eq _, steady_eq _, trivial⟩
end
theorem small_sm (a b : Int) : Sm (min (a.tmod 16777216) (b.tmod 16777216), max (a.tmod 16777216) (b.tmod 16777216)) := by
  have h1 : -16777216 < a.tmod 16777216 ∧ a.tmod 16777216 < 16777216 := by
    rcases Int.le_total 0 a with h | h
    · rw [Int.tmod_eq_emod_of_nonneg h]; omega
    · rw [show a = -(-a) by omega, Int.neg_tmod, Int.tmod_eq_emod_of_nonneg (by omega)]; omega
  have h2 : -16777216 < b.tmod 16777216 ∧ b.tmod 16777216 < 16777216 := by
    rcases Int.le_total 0 b with h | h
    · rw [Int.tmod_eq_emod_of_nonneg h]; omega
    · rw [show b = -(-b) by omega, Int.neg_tmod, Int.tmod_eq_emod_of_nonneg (by omega)]; omega
  generalize a.tmod 16777216 = u at *
  generalize b.tmod 16777216 = v at *
  exact ⟨by dsimp only; omega, by dsimp only; omega, by dsimp only; omega⟩
section
variable (O R ba oa c' c2 ca n k d q : Nat) (l : List (Int × Int)) (x y p1 p2 : Int)
def phi_r4small : Tmp → Value → World → Prop := lk [(30, fun u _ => u = .slice (some ⟨O, 0, none⟩) n c'), (31, fun u _ => u = .int .i64 (k : Int)), (32, fun u _ => u = .pointer (some ⟨O, k, none⟩)), (33, fun u _ => u = .slice (some ⟨R, 0, none⟩) n c2), (34, fun u _ => u = .int .i64 (d : Int)), (35, fun u _ => u = .slice (some ⟨ba, oa, none⟩) l.length ca), (36, fun u _ => u = .int .i64 (k : Int)), (37, fun u _ => u = .int .i64 (n : Int)), (38, fun u _ => u = .int .i64 (q : Int)), (39, fun u _ => u = .int .i64 (d : Int)), (40, fun u _ => u = .int .i64 ((q : Int) + (d : Int))), (41, fun u _ => u = .pointer (some ⟨ba, oa + (q + d) * 2, none⟩)), (42, fun u _ => u = .agg #[.int .i64 x, .int .i64 y]), (43, fun u _ => u = .agg #[.int .i64 p1, .int .i64 p2]), (44, fun u _ => u = .pointer (some ⟨R, d * 2, none⟩))]
theorem phi_r4small_steady : ∀ t v w1 w2, Below w1.heap.size w1 w2 → phi_r4small O R ba oa c' c2 ca n k d q l x y p1 p2 t v w1 → phi_r4small O R ba oa c' c2 ca n k d q l x y p1 p2 t v w2 := lk_steady _ ⟨steady_eq _, steady_eq _, steady_eq _, steady_eq _, steady_eq _, steady_eq _, steady_eq _, steady_eq _, steady_eq _, steady_eq _, steady_eq _, steady_eq _, steady_eq _, steady_eq _, steady_eq _, trivial⟩
end
end Go.Proofs.Ytmcdkbnpcmiojaa

namespace Go.Proofs.Ytmcdkbnpcmiojaa
open Go.ChangeShapes Go.WideShapes Go.ChangeAt Go.RowKit
set_option linter.unusedVariables false
set_option linter.unusedSimpArgs false
set_option maxRecDepth 100000

attribute [local irreducible] Calls
theorem r4dim (n : Int) (w : World) (h0 : 0 ≤ n) (h1 : n < 256) :
    Calls Try.prog 6 #[.int .u8 n] w fun e w' => e = .returned (.int .i64 (1 + n % 4)) ∧ w' = w := by
  have hm0 : 0 ≤ n % 4 := Int.emod_nonneg _ (by decide)
  have hm1 : n % 4 < 4 := Int.emod_lt_of_pos _ (by decide)
  go_enter Try.func6, Try.ntmps6
  go_wp2_with (fail)
  go_ret
  exact ⟨rfl, rfl⟩
def I64 (l : List (Int × Int)) : Prop := ∀ p ∈ l, (-9223372036854775808 ≤ p.1 ∧ p.1 ≤ 9223372036854775807) ∧ -9223372036854775808 ≤ p.2 ∧ p.2 ≤ 9223372036854775807
def SMat (Pr : Int × Int → Prop) (k B0 : Nat) : Value → World → Prop := fun u w' => ∃ B us M, B0 ≤ B ∧ QM Pr k M ∧ OwnM B w' u us M
def SBox (Pr : Int × Int → Prop) (k : Nat) : Value → World → Prop := fun u w' => ∃ m : List (Int × Int), m.length = k ∧ (∀ p ∈ m, Pr p) ∧ Bx w' u m
theorem steady_mat (Pr : Int × Int → Prop) (k B0 : Nat) : Steady (SMat Pr k B0) := fun v w1 w2 hb ⟨B, us, M, h1, h2, h3⟩ => ⟨B, us, M, h1, h2, h3.kept hb⟩
theorem steady_box (Pr : Int × Int → Prop) (k : Nat) : Steady (SBox Pr k) := fun v w1 w2 hb ⟨m, h1, h2, h3⟩ => ⟨m, h1, h2, h3.grow hb⟩
end Go.Proofs.Ytmcdkbnpcmiojaa
