/-
  box.Subset: every over box.pairs.
  box.Contains: every over box.pairs.
-/
import Derived.Test.YtmcdkbnpcmiojaaIter
namespace Go.Proofs.Ytmcdkbnpcmiojaa
open Go.ChangeShapes Go.WideShapes Go.ChangeAt Go.RowKit Go.Shelf
set_option linter.unusedVariables false
set_option linter.unusedSimpArgs false
set_option maxRecDepth 100000
attribute [local go_sem] Oper.semAt_some

def IvBox (W : World) (b : Nat) (p : Int × Int) : Prop := W.heap[b]? = some (.cells #[.int .i64 p.1, .int .i64 p.2] 38 (0, 0))
theorem IvBox.lt {W : World} {b : Nat} {p : Int × Int} (h : IvBox W b p) : b < W.heap.size := (Array.getElem?_eq_some_iff.1 h).1
theorem IvBox.new (W : World) (x y : Int) : IvBox (W.alloc (.cells #[.int .i64 x, .int .i64 y] 38)) W.heap.size (x, y) := World.alloc_heap_new W _
theorem IvBox.alloc {W : World} {b : Nat} {p : Int × Int} (h : IvBox W b p) (o : Obj) : IvBox (W.alloc o) b p := (Below.heap_alloc W o b h.lt).trans h
theorem IvBox.cell0 {W : World} {b : Nat} {p : Int × Int} (h : IvBox W b p) : W.cell? ⟨b, 0, none⟩ = some (.int .i64 p.1) := by simp [World.cell?, show W.heap[b]? = _ from h]
theorem IvBox.cell1 {W : World} {b : Nat} {p : Int × Int} (h : IvBox W b p) : W.cell? ⟨b, 1, none⟩ = some (.int .i64 p.2) := by simp [World.cell?, show W.heap[b]? = _ from h]
theorem own_block {B : Nat} {W W' : World} {row : Option Nat} (hg : W.grownBy W' row) (hr : ∀ r, row = some r → B ≤ r ∧ ∃ o : Obj, W.heap[r]? = some o ∧ o.isCells = false) {b : Nat} {cs : Array Value} {t : TypeId} {z : Nat × Nat} (h : W.heap[b]? = some (.cells cs t z)) : W'.heap[b]? = some (.cells cs t z) :=
  (hg.block b (Array.getElem?_eq_some_iff.1 h).1 (fun e => by
    obtain ⟨_, o, ho, hc⟩ := hr b e.symm
    rw [h] at ho
    rw [← Option.some.inj ho] at hc
    cases hc)).trans h

theorem kpb_put {n₀ x y : Nat} {W : World} {l : Nat} {o' : Obj} (h : n₀ ≤ l) (hx : x < l) (hy : y < l) : KpB n₀ x y W (W.putObj l o') :=
  have hg := grownBy_putObj' W l o'
  ⟨⟨hg.os, hg.tape, hg.output, hg.size, fun k hk => World.putObj_heap_other (by omega)⟩, World.putObj_heap_other (by omega), World.putObj_heap_other (by omega)⟩

def sub1 (z : (Int × Int) × (Int × Int)) : Bool := decide (z.2.1 ≤ z.1.1) && decide (z.1.2 ≤ z.2.2)

end Go.Proofs.Ytmcdkbnpcmiojaa

namespace Go.Proofs.Ytmcdkbnpcmiojaa
open Go.ChangeShapes Go.WideShapes Go.ChangeAt Go.RowKit Go.Shelf
set_option linter.unusedVariables false
set_option linter.unusedSimpArgs false
set_option maxRecDepth 100000
attribute [local go_sem] Oper.semAt_some

def con1 (z : (Int × Int) × Int) : Bool := decide (Ent z.1.1 z.1.2) || (decide (z.1.1 ≤ z.2) && decide (z.2 ≤ z.1.2))

end Go.Proofs.Ytmcdkbnpcmiojaa
