/-
  box.SquaredDistance.
-/
import Derived.Test.YtecmgiihacigaaaEvery
import Derived.Test.YtecmgiihacigaaaIvMath
import Derived.Test.YtecmgiihacigaaaIw4a
namespace Go.Proofs.Ytecmgiihacigaaa
open Go.ChangeShapes Go.WideShapes Go.ChangeAt Go.RowKit Go.Shelf
set_option linter.unusedVariables false
set_option linter.unusedSimpArgs false
set_option maxRecDepth 100000
attribute [local go_sem] Oper.semAt_some

theorem heap_set {W : World} {a : Addr} {u : Value} {k : Nat} (h : k ≠ a.block) : (W.setCell a u).heap[k]? = W.heap[k]? := Below.heap_setCell _ _ _ k h
theorem cells_set {W : World} {b o : Nat} {cs : Array Value} {t : TypeId} {z : Nat × Nat} {u : Value} (h : W.heap[b]? = some (.cells cs t z)) : (W.setCell ⟨b, o, none⟩ u).heap[b]? = some (.cells (cs.setIfInBounds o u) t z) := by
  obtain ⟨hlt, hk⟩ := Array.getElem?_eq_some_iff.1 h
  show (W.heap.modify b _)[b]? = _
  rw [Array.getElem?_eq_getElem (by rw [Array.size_modify]; exact hlt), Array.getElem_modify_self, hk]
  rfl
theorem IvBox.set {W : World} {b : Nat} {p : Int × Int} (h : IvBox W b p) (x y : Int) : IvBox ((W.setCell ⟨b, 0, none⟩ (.int .i64 x)).setCell ⟨b, 1, none⟩ (.int .i64 y)) b (x, y) := by
  have h1 := cells_set (o := 1) (u := .int .i64 y) (cells_set (o := 0) (u := .int .i64 x) h)
  exact h1
theorem IvBox.frozen {W : World} {b : Nat} {p : Int × Int} (h : IvBox W b p) (o : Nat) : W.frozen? ⟨b, o, none⟩ = false := by simp [World.frozen?, show W.heap[b]? = _ from h]

def subI (p q : Int × Int) : Int × Int := (addLo p.1 p.2 (-q.2) (-q.1), addHi p.1 p.2 (-q.2) (-q.1))
def sqI (p : Int × Int) : Int × Int := (sqLo p.1 p.2, sqHi p.1 p.2)
def addI (p q : Int × Int) : Int × Int := (addLo p.1 p.2 q.1 q.2, addHi p.1 p.2 q.1 q.2)
def VB (p : Int × Int) : Prop := VI p.1 p.2
def step1 (s : Int × Int) (z : (Int × Int) × (Int × Int)) : Int × Int := addI s (sqI (subI z.1 z.2))
def sdist (l : List ((Int × Int) × (Int × Int))) : Int × Int := l.foldl step1 (0, 0)
theorem VB.le {p : Int × Int} (h : VB p) : p.1 ≤ p.2 := (VI.bd h).2.2.2.2
theorem sub_vb {p q : Int × Int} (h : VB p) (k : VB q) : VB (subI p q) := add_vi h.le (by have := k.le; omega)
theorem sq_vb (p : Int × Int) : VB (sqI p) := sq_vi _ _
theorem add_vb {p q : Int × Int} (h : VB p) (k : VB q) : VB (addI p q) := add_vi h.le k.le
theorem fold_vb : ∀ (l : List ((Int × Int) × (Int × Int))) (s : Int × Int), VB s → VB (l.foldl step1 s)
  | [], s, h => h
  | z :: l, s, h => fold_vb l _ (add_vb h (sq_vb _))
theorem sdist_vb (l : List ((Int × Int) × (Int × Int))) : VB (sdist l) := fold_vb l _ (.inr ⟨⟨by decide, by decide⟩, ⟨by decide, by decide⟩, by decide⟩)
theorem sdist_snoc (l : List ((Int × Int) × (Int × Int))) (z : (Int × Int) × (Int × Int)) : sdist (l ++ [z]) = step1 (sdist l) z := by simp [sdist]
abbrev VP := { z : (Int × Int) × (Int × Int) // VB z.1 ∧ VB z.2 }
def vps (l : List ((Int × Int) × (Int × Int))) (h : ∀ z ∈ l, VB z.1 ∧ VB z.2) : List VP := l.attachWith _ h
theorem vps_map (l : List ((Int × Int) × (Int × Int))) (h : ∀ z ∈ l, VB z.1 ∧ VB z.2) : (vps l h).map Subtype.val = l := by
  have := List.attachWith_map_val (f := fun z => z) h
  simpa [vps] using this

end Go.Proofs.Ytecmgiihacigaaa
