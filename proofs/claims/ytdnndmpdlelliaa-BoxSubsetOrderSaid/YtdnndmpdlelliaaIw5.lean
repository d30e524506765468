/-
  Regions that only read and call, by one walk in the text's order; the corners.
-/
import Derived.Test.YtdnndmpdlelliaaIw3
namespace Go.Proofs.Ytdnndmpdlelliaa
open Go.ChangeShapes Go.WideShapes Go.ChangeAt Go.RowKit
set_option linter.unusedVariables false
set_option linter.unusedSimpArgs false
set_option maxRecDepth 100000

theorem region_quiet {P : Program} {id : Nat} {Q : Exit → Act → World → Prop} {a : Act} {w : World} {l : List Oper} (hm : P.follows .mixedOrders = true) (hB : Region.lexB .any l.toArray = true)
    (h : wpQuiet P l.toArray (fun w' => ∃ g : Grown w, w' = g.w) (fun a' => ∀ w', (∃ g : Grown w, w' = g.w) → Q .normal a' w') l a) : (Code.region id l.toArray true).wp P Q a w :=
  wp_region_quiet (C := fun w' => ∃ g : Grown w, w' = g.w) hm hB ⟨⟨{ w with drawn := w.drawn + 1 }, ⟨rfl, rfl, rfl, Nat.le_refl _, fun _ _ => rfl⟩⟩, rfl⟩ (by simpa using h)
theorem qc {P : Program} {f : FuncId} {args : Array Value} {w0 : World} {v : Value} {g : Grown w0} (h : Calls P f args g.w fun e w' => e = .returned v ∧ Below g.w.heap.size g.w w') :
    Calls P f args g.w fun e w'' => e = .returned v ∧ ∃ g' : Grown w0, w'' = g'.w := h.mono fun e w' ⟨h1, h2⟩ => ⟨h1, grow g h2⟩
theorem qs {P : Program} {f : FuncId} {args : Array Value} {w0 : World} {v : Value} {g : Grown w0} (h : Calls P f args g.w fun e w' => e = .returned v ∧ g.w = w') :
    Calls P f args g.w fun e w'' => e = .returned v ∧ ∃ g' : Grown w0, w'' = g'.w := h.mono fun e w' ⟨h1, h2⟩ => ⟨h1, g, h2.symm⟩

end Go.Proofs.Ytdnndmpdlelliaa
