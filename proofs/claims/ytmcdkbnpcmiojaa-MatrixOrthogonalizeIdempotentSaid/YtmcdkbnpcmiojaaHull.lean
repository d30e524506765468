/-
  box.Hull.
-/
import Derived.Test.YtmcdkbnpcmiojaaSqd
import Derived.Test.YtmcdkbnpcmiojaaIw6
import Derived.Test.YtmcdkbnpcmiojaaPredIn
import Derived.Maps.AppendAt
namespace Go.Proofs.Ytmcdkbnpcmiojaa
open Go.ChangeShapes Go.WideShapes Go.ChangeAt Go.RowKit Go.Shelf
set_option linter.unusedVariables false
set_option linter.unusedSimpArgs false
set_option maxRecDepth 100000
attribute [local go_sem] Oper.semAt_some

/-- The cells of a slice of intervals. -/
def cz : List (Int × Int) → List Value
  | [] => []
  | p :: l => .int .i64 p.1 :: .int .i64 p.2 :: cz l
theorem cz_app : ∀ (l m : List (Int × Int)), cz (l ++ m) = cz l ++ cz m
  | [], _ => rfl
  | p :: l, m => by simp [cz, cz_app l m]
theorem cz_len : ∀ (l : List (Int × Int)), (cz l).length = l.length * 2
  | [] => rfl
  | p :: l => by simp [cz, cz_len l]; omega
theorem cz_get : ∀ (l : List (Int × Int)) (k : Nat) (x : Int × Int), l[k]? = some x → (cz l)[k * 2]? = some (.int .i64 x.1) ∧ (cz l)[k * 2 + 1]? = some (.int .i64 x.2)
  | [], k, x, h => by simp at h
  | p :: l, 0, x, h => by simp at h; subst h; simp [cz]
  | p :: l, k + 1, x, h => by
    have := cz_get l k x (by simpa using h)
    rw [show (k + 1) * 2 = k * 2 + 1 + 1 by omega]
    simpa [cz] using this
/-- A row of its own that holds intervals is a box. -/
theorem Bx.own {W : World} {B : Nat} {v : Value} {l : List (Int × Int)} (h : W.ownsRow B 38 2 v l.length (cz l)) (hl : l.length ≤ maxLen) : Bx W v l := by
  rcases h.2 with ⟨rfl, h0⟩ | ⟨g, cap, cur, rfl, hb, hg, hrest⟩
  · have : l = [] := List.length_eq_zero_iff.1 h0
    subst this
    exact Bx.nil
  · refine ⟨hl, _, cap, rfl, fun k x hx => ⟨g, 0, rfl, (Array.getElem?_eq_some_iff.1 hg).1, ?_, ?_⟩⟩
    · have hk := (List.getElem?_eq_some_iff.1 hx).1
      rw [Nat.zero_add, h.cellAt (k * 2) (by omega)]
      exact (cz_get l k x hx).1
    · have hk := (List.getElem?_eq_some_iff.1 hx).1
      rw [Nat.zero_add, h.cellAt (k * 2 + 1) (by omega)]
      exact (cz_get l k x hx).2
theorem info_iv : (Try.prog.info? 38).map (fun i => (i.zero, i.size, i.bytes)) = some (some (.agg #[.int .i64 0, .int .i64 0]), 2, 16) := by kernel_rfl
theorem two_new (w : World) (x y : Value) (t : TypeId) : ∀ j u, [x, y][j]? = some u → (w.alloc (.cells #[x, y] t)).cell? ((⟨w.heap.size, 0, none⟩ : Addr).add j) = some u := by
  intro j u hj
  match j, hj with
  | 0, hj => simp at hj; subst hj; simp [Addr.add]
  | 1, hj => simp at hj; subst hj; simp [Addr.add]
theorem two_one (x y : Int) : ∀ u ∈ [Value.int .i64 x, Value.int .i64 y], u.oneCell' = true := by
  intro u hu
  simp at hu
  rcases hu with rfl | rfl <;> rfl

theorem two_box {W : World} {b : Nat} {p : Int × Int} (h : IvBox W b p) : ∀ j u, [Value.int .i64 p.1, Value.int .i64 p.2][j]? = some u → W.cell? ((⟨b, 0, none⟩ : Addr).add j) = some u := by
  intro j u hj
  match j, hj with
  | 0, hj => simp at hj; subst hj; simpa [Addr.add] using h.cell0
  | 1, hj => simp at hj; subst hj; simpa [Addr.add] using h.cell1
/-- 'Boxed.appended' where the new elements lie in a block already. -/
theorem appended {W w1 : World} {n₀ B : Nat} {t e : TypeId} {size : Nat} {v v' : Value} {k m : Nat} {xs ys : List Value}
    (hv : Boxed W B t v) (hte : t ≠ e) (hrow : W.ownsRow n₀ e size v k xs) (hn₀ : n₀ ≤ W.heap.size) (hB : n₀ ≤ B)
    (hown' : w1.ownsRow n₀ e size v' m ys) (hgrow : W.grownBy w1 v.ownBlock) :
    Boxed w1 B t v ∧ Boxed (w1.setCell ⟨B, 0, none⟩ v') B t v' ∧ (w1.setCell ⟨B, 0, none⟩ v').ownsRow n₀ e size v' m ys ∧ KeepsOthers W (w1.setCell ⟨B, 0, none⟩ v') ∧ Below n₀ W (w1.setCell ⟨B, 0, none⟩ v') := by
  have hv1 : Boxed w1 B t v := hv.kept hgrow (hv.not_row hte hrow)
  refine ⟨hv1, hv1.set v', hown'.kept (grownBy_setCell' w1 B v') (.inr (hv1.not_row hte hown').symm), ?_, ?_⟩
  · refine (KeepsOthers.of_grownBy hgrow fun j o ej hj => ?_).trans (KeepsOthers.setCell _ _ _)
    rcases hrow.2 with ⟨rfl, _⟩ | ⟨g, cap, cur, rfl, _, hgb, _⟩
    · simp [Value.ownBlock] at ej
    · obtain rfl : g = j := by simpa [Value.ownBlock] using ej
      rw [hgb] at hj; cases hj; rfl
  · refine ((Below.refl n₀ W).grown hgrow hn₀ fun j ej => ?_).setCell (p := ⟨B, 0, none⟩) hB v'
    rcases hrow.2 with ⟨rfl, _⟩ | ⟨g, cap, cur, rfl, hb, _, _⟩
    · simp [Value.ownBlock] at ej
    · obtain rfl : g = j := by simpa [Value.ownBlock] using ej
      exact hb

def hullI (z : (Int × Int) × (Int × Int)) : Int × Int := (min z.1.1 z.2.1, max z.1.2 z.2.2)

end Go.Proofs.Ytmcdkbnpcmiojaa
