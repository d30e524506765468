/-
  Contracts of package fixed's rounding at int64: 'toward', 'divide', 'bounds'.
-/
import Derived.Test.YtdnndmpdlelliaaKit
namespace Go.Proofs.Ytdnndmpdlelliaa
open Go.ChangeShapes Go.WideShapes Go.ChangeAt Go.RowKit

/-- The closure that 'toward' hands back. -/
def rule (p : Addr) : Value := .func (.func 137) #[] #[.pointer (some p)]

theorem toward_any (t : Int) (w : World) :
    Calls Try.prog 134 #[.int .i64 t] w fun e w' => e = .returned (.func (.func 137) #[] #[.pointer (some ⟨w.heap.size, 0, none⟩)]) ∧ w.alloc (.cells #[.int .i64 t] 3) = w' := by
  have hmf : ∀ (fn : Fn) (first cap : Array Value) (w : World), (Instr.makeFunc fn first cap).run Try.prog w = .ok (.func fn first cap) w := fun _ _ _ _ => rfl
  go_enter Try.func134, Try.ntmps134
  go_wp2
  go_ret
  exact ⟨rfl, rfl⟩

theorem rule_same (q t : Int) (p : Addr) (w : World) (hc : w.cell? p = some (.int .i64 t)) (h1 : -9223372036854775807 ≤ q + t) (h2 : q + t ≤ 9223372036854775807) :
    Calls Try.prog 137 #[.int .i64 q, .int .i64 t, .pointer (some p)] w fun e w' => e = .returned (.int .i64 (q + t)) ∧ w = w' := by
  go_enter Try.func137, Try.ntmps137
  go_wp2
  go_ret
  exact ⟨rfl, rfl⟩

theorem rule_other (q s t : Int) (p : Addr) (w : World) (hc : w.cell? p = some (.int .i64 t)) (h : (s == t) = false) :
    Calls Try.prog 137 #[.int .i64 q, .int .i64 s, .pointer (some p)] w fun e w' => e = .returned (.int .i64 q) ∧ w = w' := by
  go_enter Try.func137, Try.ntmps137
  go_wp2
  go_ret
  exact ⟨rfl, rfl⟩
end Go.Proofs.Ytdnndmpdlelliaa
