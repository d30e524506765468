/-
  Contracts of package fixed's rounding at int64: 'toward', 'divide', 'bounds'.
-/
import Derived.Test.YtjjllfaehipemaaRows
import Derived.WalkKit
import Derived.ProofKit
import Derived.OpenShut
import Derived.Handy
import Derived.Deep.QuietTactic
import Derived.BigQuiet
import Derived.Lib.Hide
namespace Go.Proofs.Ytjjllfaehipemaa
open Go.ChangeShapes Go.WideShapes Go.ChangeAt Go.RowKit

/-- The closure that 'toward' hands back. -/
def rule (p : Addr) : Value := .func (.func 46) #[] #[.pointer (some p)]

/-- Draws leave memory as it is. -/
theorem below_drewN {B : Nat} {a w : World} (h : Below B a w) (n : Nat) : Below B a (w.drewN n) := h.trans ⟨rfl, rfl, rfl, Nat.le_refl _, fun _ _ => rfl⟩

theorem toward_any (t : Int) (w : World) :
    Calls Try.prog 41 #[.int .i64 t] w fun e w' => e = .returned (.func (.func 46) #[] #[.pointer (some ⟨w.heap.size, 0, none⟩)]) ∧ w.alloc (.cells #[.int .i64 t] 3) = w' := by
  have hmf : ∀ (fn : Fn) (first cap : Array Value) (w : World), (Instr.makeFunc fn first cap).run Try.prog w = .ok (.func fn first cap) w := fun _ _ _ _ => rfl
  go_enter Try.func41, Try.ntmps41
  go_wp2
  go_ret
  exact ⟨rfl, rfl⟩

theorem rule_same (q t : Int) (p : Addr) (w : World) (hc : w.cell? p = some (.int .i64 t)) (h1 : -9223372036854775807 ≤ q + t) (h2 : q + t ≤ 9223372036854775807) :
    Calls Try.prog 46 #[.int .i64 q, .int .i64 t, .pointer (some p)] w fun e w' => e = .returned (.int .i64 (q + t)) ∧ w = w' := by
  go_enter Try.func46, Try.ntmps46
  go_wp2
  go_ret
  exact ⟨rfl, rfl⟩

theorem rule_other (q s t : Int) (p : Addr) (w : World) (hc : w.cell? p = some (.int .i64 t)) (h : (s == t) = false) :
    Calls Try.prog 46 #[.int .i64 q, .int .i64 s, .pointer (some p)] w fun e w' => e = .returned (.int .i64 q) ∧ w = w' := by
  go_enter Try.func46, Try.ntmps46
  go_wp2
  go_ret
  exact ⟨rfl, rfl⟩
end Go.Proofs.Ytjjllfaehipemaa
