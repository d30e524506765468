/-
  The head of a law: its variables out of its argument; new variables filled.
-/
import Derived.Test.YtmcdkbnpcmiojaaIw8
namespace Go.Proofs.Ytmcdkbnpcmiojaa
open Go.ChangeShapes Go.WideShapes Go.ChangeAt Go.RowKit
set_option linter.unusedVariables false
set_option linter.unusedSimpArgs false
set_option maxRecDepth 100000

theorem load_iv_at {w0 : World} {b o : Nat} {x y : Int} (hb : b < w0.heap.size) (h0 : w0.cell? ⟨b, o, none⟩ = some (.int .i64 x)) (h1 : w0.cell? ⟨b, o + 1, none⟩ = some (.int .i64 y)) :
    ∀ g : Grown w0, (Instr.loadAt 38 (.pointer (some ⟨b, o, none⟩))).run Try.prog g.w = .ok (.agg #[.int .i64 x, .int .i64 y]) g.w := fun g => by
  have h0' := (g.cell (o := o) hb).trans h0
  have h1' := (g.cell (o := o + 1) hb).trans h1
  simp [go_sem, h0', h1']
theorem new_cell {w : World} {b : Nat} (h : w.heap[b]? = some (.cells #[.int .i64 0, .int .i64 0] 38)) :
    w.cell? ⟨b, 0, none⟩ = some (.int .i64 0) ∧ w.cell? ⟨b, 1, none⟩ = some (.int .i64 0) ∧ w.frozen? ⟨b, 0, none⟩ = false ∧ w.frozen? ⟨b, 1, none⟩ = false := by
  refine ⟨?_, ?_, ?_, ?_⟩ <;> simp [World.cell?, World.frozen?, h]
/-- A variable of two cells, filled. -/
def st2 (w : World) (b : Nat) (x y : Value) : World := (w.setCell ⟨b, 0, none⟩ x).setCell ⟨b, 1, none⟩ y
theorem st2_old {w : World} {b c q : Nat} {x y : Value} (h : c ≠ b) : (st2 w b x y).cell? ⟨c, q, none⟩ = w.cell? ⟨c, q, none⟩ := by
  unfold st2
  rw [World.cell?_setCell_other _ _ _ _ (fun e => h (congrArg Addr.block e).symm), World.cell?_setCell_other _ _ _ _ (fun e => h (congrArg Addr.block e).symm)]
theorem st2_0 {w : World} {b : Nat} {x y u : Value} (h : w.cell? ⟨b, 0, none⟩ = some u) : (st2 w b x y).cell? ⟨b, 0, none⟩ = some x := by
  unfold st2
  rw [World.cell?_setCell_other _ _ _ _ (by intro e; simp at e), World.cell?_setCell_same _ _ _ h]
theorem st2_1 {w : World} {b : Nat} {x y u : Value} (h : w.cell? ⟨b, 1, none⟩ = some u) : (st2 w b x y).cell? ⟨b, 1, none⟩ = some y := by
  unfold st2
  exact World.cell?_setCell_same _ _ _ (u := u) (by rw [World.cell?_setCell_other _ _ _ _ (by intro e; simp at e)]; exact h)
theorem st2_frozen {w : World} {b : Nat} {x y : Value} {p : Addr} : (st2 w b x y).frozen? p = w.frozen? p := by
  unfold st2
  simp
theorem st2_below {B : Nat} {a w : World} {b : Nat} {x y : Value} (h : Below B a w) (hb : B ≤ b) : Below B a (st2 w b x y) :=
  (h.setCell (p := ⟨b, 0, none⟩) hb x).setCell (p := ⟨b, 1, none⟩) hb y
theorem st2_size {w : World} {b : Nat} {x y : Value} : (st2 w b x y).heap.size = w.heap.size := by
  unfold st2
  simp
theorem run_store_iv {w : World} {b : Nat} {x y : Int} {ev : Operand → Value} {o : Oper} {X Y : Operand} {u0 u1 : Value} (hop : o.op = .store 38 X Y) (hx : ev X = .pointer (some ⟨b, 0, none⟩)) (hy : ev Y = .agg #[.int .i64 x, .int .i64 y])
    (c0 : w.cell? ⟨b, 0, none⟩ = some u0) (c1 : w.cell? ⟨b, 1, none⟩ = some u1) (f0 : w.frozen? ⟨b, 0, none⟩ = false) (f1 : w.frozen? ⟨b, 1, none⟩ = false) :
    (execOp ev o).run Try.prog w = .ok .skip (st2 w b (.int .i64 x) (.int .i64 y)) := by
  obtain ⟨dst, op, type, pos, after, guard⟩ := o
  simp only at hop
  subst hop
  simp [go_sem, hx, hy, c0, c1, f0, f1, st2]
theorem list_store {w : World} {b : Nat} {x y : Int} {a : Act} {o : Oper} {rest : List Oper} {ops : Array Oper} {Q : Exit → Act → World → Prop} {X Y : Operand} {u0 u1 : Value} (hg : o.guard = none) (hd : o.dst = none) (hop : o.op = .store 38 X Y)
    (hx : a.eval X = .pointer (some ⟨b, 0, none⟩)) (hy : a.eval Y = .agg #[.int .i64 x, .int .i64 y])
    (c0 : w.cell? ⟨b, 0, none⟩ = some u0) (c1 : w.cell? ⟨b, 1, none⟩ = some u1) (f0 : w.frozen? ⟨b, 0, none⟩ = false) (f1 : w.frozen? ⟨b, 1, none⟩ = false)
    (k : wpList Try.prog ops Q rest a (st2 w b (.int .i64 x) (.int .i64 y))) : wpList Try.prog ops Q (o :: rest) a w := by
  unfold wpList
  rw [if_pos (by unfold Region.wanted; rw [hg])]
  refine .inl ?_
  unfold Oper.wp
  rw [run_store_iv hop hx hy c0 c1 f0 f1]
  simp only [Oper.upon]
  rw [hd]
  exact k
end Go.Proofs.Ytmcdkbnpcmiojaa
