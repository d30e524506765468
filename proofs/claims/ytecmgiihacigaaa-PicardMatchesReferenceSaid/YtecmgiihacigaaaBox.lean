/-
  Boxes in memory: slices of intervals, as lists.
-/
import Derived.Test.YtecmgiihacigaaaIw8
import Derived.Test.YtecmgiihacigaaaKit
import Derived.Test.YtecmgiihacigaaaPred
namespace Go.Proofs.Ytecmgiihacigaaa
open Go.ChangeShapes Go.WideShapes Go.ChangeAt Go.RowKit
set_option linter.unusedVariables false
set_option linter.unusedSimpArgs false
set_option maxRecDepth 100000

/-- The slice v holds the intervals l. -/
def Bx (w : World) (v : Value) (l : List (Int × Int)) : Prop := l.length ≤ maxLen ∧ ∃ p cap, v = .slice p l.length cap ∧
  ∀ k x, l[k]? = some x → ∃ b o, p = some ⟨b, o, none⟩ ∧ b < w.heap.size ∧ w.cell? ⟨b, o + k * 2, none⟩ = some (.int .i64 x.1) ∧ w.cell? ⟨b, o + k * 2 + 1, none⟩ = some (.int .i64 x.2)
/-- The slice v holds the numbers l. -/
def Pt (w : World) (v : Value) (l : List Int) : Prop := l.length ≤ maxLen ∧ ∃ p cap, v = .slice p l.length cap ∧
  ∀ k x, l[k]? = some x → ∃ b o, p = some ⟨b, o, none⟩ ∧ b < w.heap.size ∧ w.cell? ⟨b, o + k, none⟩ = some (.int .i64 x)

theorem Bx.grow {w w' : World} {v : Value} {l : List (Int × Int)} (h : Bx w v l) (hb : Below w.heap.size w w') : Bx w' v l := by
  obtain ⟨hl, p, cap, rfl, h⟩ := h
  refine ⟨hl, p, cap, rfl, fun k x hx => ?_⟩
  obtain ⟨b, o, rfl, h1, h2, h3⟩ := h k x hx
  exact ⟨b, o, rfl, Nat.lt_of_lt_of_le h1 hb.size, (hb.cell (p := ⟨b, o + k * 2, none⟩) h1).trans h2, (hb.cell (p := ⟨b, o + k * 2 + 1, none⟩) h1).trans h3⟩
theorem Pt.grow {w w' : World} {v : Value} {l : List Int} (h : Pt w v l) (hb : Below w.heap.size w w') : Pt w' v l := by
  obtain ⟨hl, p, cap, rfl, h⟩ := h
  refine ⟨hl, p, cap, rfl, fun k x hx => ?_⟩
  obtain ⟨b, o, rfl, h1, h2⟩ := h k x hx
  exact ⟨b, o, rfl, Nat.lt_of_lt_of_le h1 hb.size, (hb.cell (p := ⟨b, o + k, none⟩) h1).trans h2⟩
theorem Bx.mono {w w' : World} {B : Nat} {v : Value} {l : List (Int × Int)} (h : Bx w v l) (hb : Below B w w') (hB : w.heap.size ≤ B) : Bx w' v l := h.grow (hb.mono hB)
theorem Bx.nil {w : World} : Bx w (.slice none 0 0) [] := ⟨by simp, none, 0, rfl, fun k x h => by simp at h⟩

/-- A box's interval number k, in a later world. -/
theorem Bx.at {w wr : World} {p : Option Addr} {c n k : Nat} {l : List (Int × Int)} (h : ∀ k x, l[k]? = some x → ∃ b o, p = some ⟨b, o, none⟩ ∧ b < w.heap.size ∧ w.cell? ⟨b, o + k * 2, none⟩ = some (.int .i64 x.1) ∧ w.cell? ⟨b, o + k * 2 + 1, none⟩ = some (.int .i64 x.2))
    (hk : k < l.length) (hb : Below w.heap.size w wr) : ∃ b o x y, p = some ⟨b, o, none⟩ ∧ l[k]? = some (x, y) ∧ b < w.heap.size ∧ wr.cell? ⟨b, o + k * 2, none⟩ = some (.int .i64 x) ∧ wr.cell? ⟨b, o + k * 2 + 1, none⟩ = some (.int .i64 y) := by
  obtain ⟨b, o, h1, h2, h3, h4⟩ := h k l[k] (List.getElem?_eq_getElem hk)
  exact ⟨b, o, l[k].1, l[k].2, h1, List.getElem?_eq_getElem hk, h2, (hb.cell (p := ⟨b, o + k * 2, none⟩) h2).trans h3, (hb.cell (p := ⟨b, o + k * 2 + 1, none⟩) h2).trans h4⟩

theorem Pt.at {w wr : World} {p : Option Addr} {c n k : Nat} {l : List Int} (h : ∀ k x, l[k]? = some x → ∃ b o, p = some ⟨b, o, none⟩ ∧ b < w.heap.size ∧ w.cell? ⟨b, o + k, none⟩ = some (.int .i64 x))
    (hk : k < l.length) (hb : Below w.heap.size w wr) : ∃ b o x, p = some ⟨b, o, none⟩ ∧ l[k]? = some x ∧ b < w.heap.size ∧ wr.cell? ⟨b, o + k, none⟩ = some (.int .i64 x) := by
  obtain ⟨b, o, h1, h2, h3⟩ := h k l[k] (List.getElem?_eq_getElem hk)
  exact ⟨b, o, l[k], h1, List.getElem?_eq_getElem hk, h2, (hb.cell (p := ⟨b, o + k, none⟩) h2).trans h3⟩

theorem ret_bool {a b : Bool} (h : a = b) : Ending.returned (.bool a) = .returned (.bool b) := by rw [h]

theorem take_succ_eq {α : Type} {l m : List α} {k : Nat} {x y : α} (h : l.take k = m.take k) (hx : l[k]? = some x) (hy : m[k]? = some y) (e : x = y) : l.take (k + 1) = m.take (k + 1) := by
  rw [List.take_add_one, List.take_add_one, h, hx, hy, e]

end Go.Proofs.Ytecmgiihacigaaa
