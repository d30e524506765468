/-
  Contracts of package interval: the small functions.
-/
import Derived.Test.YtdnndmpdlelliaaReg2
import Derived.Test.YtdnndmpdlelliaaIv3
import Derived.Test.YtdnndmpdlelliaaFix4
import Derived.BigQuiet
import Derived.KernelRfl
namespace Go.Proofs.Ytdnndmpdlelliaa
open Go.ChangeShapes Go.WideShapes Go.ChangeAt Go.RowKit
set_option linter.unusedVariables false
set_option linter.unusedSimpArgs false
set_option maxRecDepth 100000

/-- The new variable of type Interval. -/
theorem new_iv (w : World) : (Instr.alloc 23 true (.tuple #[])).run Try.prog w = .ok (.pointer (some ⟨w.heap.size, 0, none⟩)) (w.alloc (.cells #[.int .i64 0, .int .i64 0] 23)) := by
  simp [go_sem]

section
variable {P : Program} {w0 : World} {a : Act} {o : Oper}
theorem RQ_pure {v : Value} (h : ∀ w, (execOp a.eval o).run P w = .ok (.value v) w) : RQ P o a w0 v := fun g => by rw [h]; exact ⟨rfl, rfl⟩
theorem RQ_load {v : Value} {T : TypeId} {x : Operand} {p : Value} (hop : o.op = .load T x) (hx : a.eval x = p) (h : ∀ g : Grown w0, (Instr.loadAt T p).run P g.w = .ok v g.w) : RQ P o a w0 v := fun g => by
  have h1 : (execOp a.eval o).run P g.w = .ok (.value v) g.w := by
    obtain ⟨dst, op, type, pos, after, guard⟩ := o
    simp only at hop
    subst hop
    show ((Instr.loadAt T (a.eval x)) >>= fun x => pure (.value x) : Sem Next).run P g.w = _
    rw [hx]
    have := h g
    generalize Instr.loadAt T p = m at this
    simp [go_sem, this]
  rw [h1]
  exact ⟨rfl, rfl⟩
theorem RQ_call {v : Value} {F : FuncId} {args : Array Value} (hc : ∀ w, Calls P F args w fun e w' => e = .returned v ∧ Below w.heap.size w w') (h : ∀ w, (execOp a.eval o).run P w = .ok (.enter F args) w) : RQ P o a w0 v := fun g => by
  rw [h]
  exact ⟨rfl, hc g.w⟩
theorem RQ_call_same {v : Value} {F : FuncId} {args : Array Value} (hc : ∀ w, Calls P F args w fun e w' => e = .returned v ∧ w = w') (h : ∀ w, (execOp a.eval o).run P w = .ok (.enter F args) w) : RQ P o a w0 v := fun g => by
  rw [h]
  exact ⟨rfl, (hc g.w).mono fun e w' ⟨h1, h2⟩ => ⟨h1, by rw [h2]; exact Below.refl _ _⟩⟩
theorem data_al {R : Act → Prop} {rest : List Oper} (h : isAl o = true) (k : wpData P w0 R rest (a.put o.dst undef)) : wpData P w0 R (o :: rest) a := by
  unfold wpData; rw [if_pos h]; exact k
theorem data_op {R : Act → Prop} {rest : List Oper} (v : Value) (h : isAl o = false) (hq : RQ P o a w0 v) (k : wpData P w0 R rest (a.put o.dst v)) : wpData P w0 R (o :: rest) a := by
  unfold wpData; rw [if_neg (by rw [h]; exact Bool.false_ne_true)]; exact ⟨v, hq, k⟩
theorem data_end {R : Act → Prop} (h : R a) : wpData P w0 R [] a := h
end

theorem iv_entire (w : World) :
    Calls Try.prog 42 #[] w fun e w' => e = .returned (.agg #[.int .i64 (-2147483648), .int .i64 2147483648]) ∧ Below w.heap.size w w' := by
  go_enter Try.func42, Try.ntmps42
  go_wp2
  refine bodyPost_ret (v := .agg #[.int .i64 (-2147483648), .int .i64 2147483648]) (by simp [results, Try.results42, go_sem]) rfl ⟨rfl, ?_⟩
  go_grown

/-- An interval in a block, read in every world grown out of this one. -/
theorem load_iv {w0 : World} {b : Nat} {x y : Int} (hb : b < w0.heap.size) (h0 : w0.cell? ⟨b, 0, none⟩ = some (.int .i64 x)) (h1 : w0.cell? ⟨b, 1, none⟩ = some (.int .i64 y)) :
    ∀ g : Grown w0, (Instr.loadAt 23 (.pointer (some ⟨b, 0, none⟩))).run Try.prog g.w = .ok (.agg #[.int .i64 x, .int .i64 y]) g.w := fun g => by
  have h0' := (g.cell (o := 0) hb).trans h0
  have h1' := (g.cell (o := 1) hb).trans h1
  simp [go_sem, h0', h1']

theorem iv_isent (a b : Int) (r : Bool) (w : World) (hr : ((a == -2147483648) && (b == 2147483648)) = r) :
    Calls Try.prog 40 #[.agg #[.int .i64 a, .int .i64 b]] w fun e w' => e = .returned (.bool r) ∧ Below w.heap.size w w' := by
  have hr' := Lib.hid hr
  clear hr
  go_enter Try.func40, Try.ntmps40
  go_wp2_with (fail)
  refine region_data 3 23 _ (by kernel_rfl) new_iv (by kernel_rfl) ?_
  refine data_op _ rfl (RQ_load rfl rfl (load_iv (x := a) (y := b) (by simp) (by simp [go_sem]) (by simp [go_sem]))) ?_
  refine data_op _ rfl (RQ_call iv_entire (fun _ => by simp [go_sem])) ?_
  refine data_op (.bool r) rfl (RQ_pure (fun w => by rw [← hr'.out]; by_cases h1 : a = -2147483648 <;> by_cases h2 : b = 2147483648 <;> simp [go_sem, h1, h2])) ?_
  refine data_end ?_
  intro w' hB
  have hB' := below_then ((Below.refl _ _).alloc (Nat.le_refl _) _) hB
  simp only [Act.put, List.drop_succ_cons, List.drop_zero, List.take_succ_cons, List.take_zero, alDsts, List.filterMap_cons, List.filterMap_nil, isAl, Bool.false_eq_true, if_false, if_true, finK]
  go_wp2_with (fail)
  go_ret
  exact ⟨rfl, hB'⟩
end Go.Proofs.Ytdnndmpdlelliaa
