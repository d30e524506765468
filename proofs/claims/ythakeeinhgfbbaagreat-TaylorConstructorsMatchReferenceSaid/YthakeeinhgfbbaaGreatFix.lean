/-
  Contracts of package fixed's rounding at int64: 'toward', 'divide', 'bounds'.
  Contracts of package fixed's 'divide' and 'bounds' at int64.
  Contracts of package fixed's 'bounds' at int64, of 'Valid', 'Mul', 'Div' and 'MulRatio'.
  Contracts of package fixed's 'floorRoot' and 'Sqrt'.
-/
import Derived.Test.YthakeeinhgfbbaaGreatKit
import Derived.Test.YthakeeinhgfbbaaGreatMath
import Derived.Outline
import Derived.WalkMore
namespace Go.Proofs.YthakeeinhgfbbaaGreat
open Go.ChangeShapes Go.WideShapes Go.ChangeAt Go.RowKit

/-- The closure that 'toward' hands back. -/
def rule (p : Addr) : Value := .func (.func 149) #[] #[.pointer (some p)]

theorem toward_any (t : Int) (w : World) :
    Calls Tryz.prog 141 #[.int .i64 t] w fun e w' => e = .returned (.func (.func 149) #[] #[.pointer (some ⟨w.heap.size, 0, none⟩)]) ∧ w.alloc (.cells #[.int .i64 t] 3) = w' := by
  have hmf : ∀ (fn : Fn) (first cap : Array Value) (w : World), (Instr.makeFunc fn first cap).run Tryz.prog w = .ok (.func fn first cap) w := fun _ _ _ _ => rfl
  go_enter Tryz.func141, Tryz.ntmps141
  go_wp2
  go_ret
  exact ⟨rfl, rfl⟩

theorem rule_same (q t : Int) (p : Addr) (w : World) (hc : w.cell? p = some (.int .i64 t)) (h1 : -9223372036854775807 ≤ q + t) (h2 : q + t ≤ 9223372036854775807) :
    Calls Tryz.prog 149 #[.int .i64 q, .int .i64 t, .pointer (some p)] w fun e w' => e = .returned (.int .i64 (q + t)) ∧ w = w' := by
  go_enter Tryz.func149, Tryz.ntmps149
  go_wp2
  go_ret
  exact ⟨rfl, rfl⟩

theorem rule_other (q s t : Int) (p : Addr) (w : World) (hc : w.cell? p = some (.int .i64 t)) (h : (s == t) = false) :
    Calls Tryz.prog 149 #[.int .i64 q, .int .i64 s, .pointer (some p)] w fun e w' => e = .returned (.int .i64 q) ∧ w = w' := by
  go_enter Tryz.func149, Tryz.ntmps149
  go_wp2
  go_ret
  exact ⟨rfl, rfl⟩
end Go.Proofs.YthakeeinhgfbbaaGreat

namespace Go.Proofs.YthakeeinhgfbbaaGreat
open Go.ChangeShapes Go.WideShapes Go.ChangeAt Go.RowKit

theorem below_tests {r d : Int} (hd : ¬ d = 0) (h0 : (r == 0) = false) (h1 : (!decide (r < 0) == decide (d < 0)) = true) : (0 < d ∧ r < 0) ∨ (d < 0 ∧ 0 < r) := by
  simp at h0 h1; by_cases a : r < 0 <;> by_cases b : d < 0 <;> simp [a, b] at h1 <;> omega
theorem above_tests {r d : Int} (hd : ¬ d = 0) (h0 : (r == 0) = false) (h1 : (!decide (r < 0) == decide (d < 0)) = false) : (0 < d ∧ 0 < r) ∨ (d < 0 ∧ r < 0) := by
  simp at h0 h1; by_cases a : r < 0 <;> by_cases b : d < 0 <;> simp [a, b] at h1 <;> omega

theorem div_up (n d : Int) (p : Addr) (w : World) (hc : w.cell? p = some (.int .i64 (1)))
    (hn1 : -4611686018427387904 ≤ n) (hn2 : n ≤ 4611686018427387904) (hd : ¬ d = 0)  :
    Calls Tryz.prog 140 #[.int .i64 n, .int .i64 d, .func (.func 149) #[] #[.pointer (some p)]] w fun e w' => e = .returned (.int .i64 (up n d)) ∧ ∃ k, w' = w.drewN k := by
  have tb := tdiv_bound n d 4611686018427387904 hn1 hn2
  have hw : IntKind.i64.wrap (n.tdiv d) = n.tdiv d := IntWalk.i64_in _ (by omega)
  have hc0 : ∀ k, (w.drewN k).cell? p = some (.int .i64 (1)) := fun _ => hc
  go_enter Tryz.func140, Tryz.ntmps140
  go_wp2
  go_quiet (fail)
  clear hw
  have hc1 := Lib.hid (hc0 nq)
  clear hc hc0
  go_wp2_with (fail)
  · refine (rule_other (n.tdiv d) (0) (1) p _ hc1.out (by decide)).mono ?_
    rintro e w' ⟨rfl, rfl⟩
    go_wp2_with (fail)
    go_ret
    exact ⟨ret_int (exact_any hd (by simpa using ‹(n.tmod d == 0) = true›)).2.symm, _, rfl⟩
  · refine (rule_other (n.tdiv d) (-1) (1) p _ hc1.out (by decide)).mono ?_
    rintro e w' ⟨rfl, rfl⟩
    go_wp2_with (fail)
    go_ret
    exact ⟨ret_int (below_any (below_tests hd ‹_› ‹_›)).2.symm, _, rfl⟩
  · refine (rule_same (n.tdiv d) (1) p _ hc1.out (by omega) (by omega)).mono ?_
    rintro e w' ⟨rfl, rfl⟩
    go_wp2_with (fail)
    go_ret
    exact ⟨ret_int (above_any (above_tests hd ‹_› ‹_›)).2.symm, _, rfl⟩
theorem div_dn (n d : Int) (p : Addr) (w : World) (hc : w.cell? p = some (.int .i64 (-1)))
    (hn1 : -4611686018427387904 ≤ n) (hn2 : n ≤ 4611686018427387904) (hd : ¬ d = 0)  :
    Calls Tryz.prog 140 #[.int .i64 n, .int .i64 d, .func (.func 149) #[] #[.pointer (some p)]] w fun e w' => e = .returned (.int .i64 (dn n d)) ∧ ∃ k, w' = w.drewN k := by
  have tb := tdiv_bound n d 4611686018427387904 hn1 hn2
  have hw : IntKind.i64.wrap (n.tdiv d) = n.tdiv d := IntWalk.i64_in _ (by omega)
  have hc0 : ∀ k, (w.drewN k).cell? p = some (.int .i64 (-1)) := fun _ => hc
  go_enter Tryz.func140, Tryz.ntmps140
  go_wp2
  go_quiet (fail)
  clear hw
  have hc1 := Lib.hid (hc0 nq)
  clear hc hc0
  go_wp2_with (fail)
  · refine (rule_other (n.tdiv d) (0) (-1) p _ hc1.out (by decide)).mono ?_
    rintro e w' ⟨rfl, rfl⟩
    go_wp2_with (fail)
    go_ret
    exact ⟨ret_int (exact_any hd (by simpa using ‹(n.tmod d == 0) = true›)).1.symm, _, rfl⟩
  · refine (rule_same (n.tdiv d) (-1) p _ hc1.out (by omega) (by omega)).mono ?_
    rintro e w' ⟨rfl, rfl⟩
    go_wp2_with (fail)
    go_ret
    exact ⟨ret_int (below_any (below_tests hd ‹_› ‹_›)).1.symm, _, rfl⟩
  · refine (rule_other (n.tdiv d) (1) (-1) p _ hc1.out (by decide)).mono ?_
    rintro e w' ⟨rfl, rfl⟩
    go_wp2_with (fail)
    go_ret
    exact ⟨ret_int (above_any (above_tests hd ‹_› ‹_›)).1.symm, _, rfl⟩
end Go.Proofs.YthakeeinhgfbbaaGreat

namespace Go.Proofs.YthakeeinhgfbbaaGreat
open Go.ChangeShapes Go.WideShapes Go.ChangeAt Go.RowKit

theorem bounds_any (n d : Int) (w : World)
    (hn1 : -4611686018427387904 ≤ n) (hn2 : n ≤ 4611686018427387904) (hd : ¬ d = 0)  :
    Calls Tryz.prog 128 #[.int .i64 n, .int .i64 d] w fun e w' => e = .returned (.tuple #[.int .i64 (dn n d), .int .i64 (up n d)]) ∧ Below w.heap.size w w' := by
  go_enter Tryz.func128, Tryz.ntmps128
  go_wp2_with (fail)
  refine (toward_any (-1) _).mono ?_
  rintro e w' ⟨rfl, rfl⟩
  go_wp2_with (fail)
  refine (div_dn n d _ _ (by go_cell) hn1 hn2 hd).mono ?_
  rintro e w' ⟨rfl, k, rfl⟩
  go_wp2_with (fail)
  refine (toward_any 1 _).mono ?_
  rintro e w' ⟨rfl, rfl⟩
  go_wp2_with (fail)
  refine (div_up n d _ _ (by go_cell) hn1 hn2 hd).mono ?_
  rintro e w' ⟨rfl, k, rfl⟩
  go_wp2_with (fail)
  go_ret2
  exact ⟨rfl, below_drewN (Below.alloc (below_drewN (Below.alloc (Below.refl _ _) (Nat.le_refl _) _) _) (by go_size) _) _⟩

theorem valid_any (x : Int) (w : World) :
    Calls Tryz.prog 116 #[.int .i64 x] w fun e w' => e = .returned (.bool (decide (-2147483648 < x) && decide (x < 2147483648))) ∧ w = w' := by
  by_cases h : -2147483648 < x
  all_goals
    go_enter Tryz.func116, Tryz.ntmps116
    go_wp2
    go_ret
    first | (simp [h]; done) | (simp; omega)

theorem mul_any (a b : Int) (w : World) (h1 : -2147483648 ≤ a) (h2 : a ≤ 2147483648) (h3 : -2147483648 ≤ b) (h4 : b ≤ 2147483648) :
    Calls Tryz.prog 105 #[.int .i64 a, .int .i64 b] w fun e w' => e = .returned (.tuple #[.int .i64 (dn (a * b) 65536), .int .i64 (up (a * b) 65536)]) ∧ Below w.heap.size w w' := by
  have hb := mul_bound a b 2147483648 2147483648 h1 h2 h3 h4
  have hm1 : -4611686018427387904 ≤ a * b := by omega
  have hm2 : a * b ≤ 4611686018427387904 := by omega
  clear hb
  go_enter Tryz.func105, Tryz.ntmps105
  go_wp2_with (fail)
  refine (bounds_any (a * b) 65536 _ (by omega) (by omega) (by decide)).mono ?_
  rintro e w' ⟨rfl, hb⟩
  go_wp2_with (fail)
  go_ret2
  exact ⟨rfl, hb⟩




end Go.Proofs.YthakeeinhgfbbaaGreat

namespace Go.Proofs.YthakeeinhgfbbaaGreat
open Go.ChangeShapes Go.WideShapes Go.ChangeAt Go.RowKit

set_option maxRecDepth 100000 in




/-- The square root rounded up. -/
def usq (n : Int) : Int := if isq n * isq n = n then isq n else isq n + 1

end Go.Proofs.YthakeeinhgfbbaaGreat
