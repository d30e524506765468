/-
  A region in the text's order, walked as one that draws.
-/
import Derived.Test.YtpepgheocemjdaaIw8
namespace Go.Proofs.Ytpepgheocemjdaa
open Go.ChangeShapes Go.WideShapes Go.ChangeAt Go.RowKit
set_option linter.unusedVariables false
set_option linter.unusedSimpArgs false
set_option maxRecDepth 100000
theorem list_of_quiet {P : Program} {ops : Array Oper} {C : World → Prop} {rest : List Oper} {Q' : Exit → Act → World → Prop} : ∀ (l : List Oper) (a : Act) (w : World), C w →
    wpQuiet P ops C (fun a' => ∀ w', C w' → wpList P ops Q' rest a' w') l a → wpList P ops Q' (l ++ rest) a w
  | [], a, w, hw, h => h w hw
  | o :: l, a, w, hw, h => by
    simp only [List.cons_append, wpList]
    simp only [wpQuiet] at h
    by_cases hd : Region.wanted o (yielded ops a.tmps) = true
    · rw [if_pos hd] at h ⊢
      exact .inl (Oper.wp_of_quiet hw (fun a' w' hw' hk => list_of_quiet l a' w' hw' hk) h)
    · rw [if_neg hd] at h ⊢
      exact list_of_quiet l _ w hw h
theorem list_quiet {P : Program} {ops : Array Oper} {W : World} (g : Grown W) {Q' : Exit → Act → World → Prop} {l : List Oper} {a : Act}
    (h : wpQuiet P ops (fun w' => ∃ g : Grown W, w' = g.w) (fun a' => ∀ w', (∃ g : Grown W, w' = g.w) → wpList P ops Q' [] a' w') l a) : wpList P ops Q' l a g.w := by
  have := list_of_quiet (rest := []) l a g.w ⟨g, rfl⟩ h
  rwa [List.append_nil] at this
theorem law_v (x y : Int) (w : World) :
    Calls Try.prog 60 #[.int .i64 x, .int .i64 y] w fun e w' => e = .returned (.agg #[.int .i64 x, .int .i64 y]) ∧ Below w.heap.size w w' := by
  go_enter Try.func60, Try.ntmps60
  go_wp2
  refine bodyPost_ret (v := .agg #[.int .i64 x, .int .i64 y]) (by simp [results, Try.results60, go_sem]) rfl ⟨rfl, ?_⟩
  go_grown
theorem is2 {P : Program} {f : FuncId} {args : Array Value} {w : World} {x y x' y' : Int} (h : Calls P f args w fun e w' => e = .returned (.agg #[.int .i64 x, .int .i64 y]) ∧ Below w.heap.size w w') (hx : x = x') (hy : y = y') :
    Calls P f args w fun e w' => e = .returned (.agg #[.int .i64 x', .int .i64 y']) ∧ Below w.heap.size w w' := by
  subst hx; subst hy; exact h
theorem is1 {P : Program} {f : FuncId} {args : Array Value} {w : World} {x x' : Int} (h : Calls P f args w fun e w' => e = .returned (.int .i64 x) ∧ Below w.heap.size w w') (hx : x = x') :
    Calls P f args w fun e w' => e = .returned (.int .i64 x') ∧ Below w.heap.size w w' := by
  subst hx; exact h
theorem is3 {P : Program} {f : FuncId} {args : Array Value} {w : World} {x y x' y' : Int} {b : Bool} (h : Calls P f args w fun e w' => e = .returned (.tuple #[.agg #[.int .i64 x, .int .i64 y], .bool b]) ∧ Below w.heap.size w w') (hx : x = x') (hy : y = y') :
    Calls P f args w fun e w' => e = .returned (.tuple #[.agg #[.int .i64 x', .int .i64 y'], .bool b]) ∧ Below w.heap.size w w' := by
  subst hx; subst hy; exact h
theorem same_yes (a b : Int) (w : World) :
    Calls Try.prog 62 #[.agg #[.int .i64 a, .int .i64 b], .agg #[.int .i64 a, .int .i64 b]] w fun e w' => e = .returned (.bool true) ∧ Below w.heap.size w w' :=
  r2same_0 a b a b w (by simp) (by simp)
end Go.Proofs.Ytpepgheocemjdaa
