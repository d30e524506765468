/-
  Contracts of package fixed's 'divide' and 'bounds' at int64.
-/
import Derived.Test.YtdnndmpdlelliaaFix1
import Derived.Test.YtdnndmpdlelliaaMath
namespace Go.Proofs.Ytdnndmpdlelliaa
open Go.ChangeShapes Go.WideShapes Go.ChangeAt Go.RowKit

theorem below_tests {r d : Int} (hd : ¬ d = 0) (h0 : (r == 0) = false) (h1 : (!decide (r < 0) == decide (d < 0)) = true) : (0 < d ∧ r < 0) ∨ (d < 0 ∧ 0 < r) := by
  simp at h0 h1; by_cases a : r < 0 <;> by_cases b : d < 0 <;> simp [a, b] at h1 <;> omega
theorem above_tests {r d : Int} (hd : ¬ d = 0) (h0 : (r == 0) = false) (h1 : (!decide (r < 0) == decide (d < 0)) = false) : (0 < d ∧ 0 < r) ∨ (d < 0 ∧ r < 0) := by
  simp at h0 h1; by_cases a : r < 0 <;> by_cases b : d < 0 <;> simp [a, b] at h1 <;> omega

theorem div_up (n d : Int) (p : Addr) (w : World) (hc : w.cell? p = some (.int .i64 (1)))
    (hn1 : -4611686018427387904 ≤ n) (hn2 : n ≤ 4611686018427387904) (hd : ¬ d = 0)  :
    Calls Try.prog 133 #[.int .i64 n, .int .i64 d, .func (.func 137) #[] #[.pointer (some p)]] w fun e w' => e = .returned (.int .i64 (up n d)) ∧ ∃ k, w' = w.drewN k := by
  have tb := tdiv_bound n d 4611686018427387904 hn1 hn2
  have hw : IntKind.i64.wrap (n.tdiv d) = n.tdiv d := IntWalk.i64_in _ (by omega)
  have hc0 : ∀ k, (w.drewN k).cell? p = some (.int .i64 (1)) := fun _ => hc
  go_enter Try.func133, Try.ntmps133
  go_wp2
  go_quiet (fail)
  clear hw
  have hc1 := Lib.hid (hc0 nq)
  clear hc hc0
  go_wp2_with (fail)
  · refine (rule_other (n.tdiv d) (0) (1) p _ hc1.out (by decide)).mono ?_
    rintro e w' ⟨rfl, rfl⟩
    go_wp2_with (fail)
    go_ret
    exact ⟨ret_int (exact_any hd (by simpa using ‹(n.tmod d == 0) = true›)).2.symm, _, rfl⟩
  · refine (rule_other (n.tdiv d) (-1) (1) p _ hc1.out (by decide)).mono ?_
    rintro e w' ⟨rfl, rfl⟩
    go_wp2_with (fail)
    go_ret
    exact ⟨ret_int (below_any (below_tests hd ‹_› ‹_›)).2.symm, _, rfl⟩
  · refine (rule_same (n.tdiv d) (1) p _ hc1.out (by omega) (by omega)).mono ?_
    rintro e w' ⟨rfl, rfl⟩
    go_wp2_with (fail)
    go_ret
    exact ⟨ret_int (above_any (above_tests hd ‹_› ‹_›)).2.symm, _, rfl⟩
theorem div_dn (n d : Int) (p : Addr) (w : World) (hc : w.cell? p = some (.int .i64 (-1)))
    (hn1 : -4611686018427387904 ≤ n) (hn2 : n ≤ 4611686018427387904) (hd : ¬ d = 0)  :
    Calls Try.prog 133 #[.int .i64 n, .int .i64 d, .func (.func 137) #[] #[.pointer (some p)]] w fun e w' => e = .returned (.int .i64 (dn n d)) ∧ ∃ k, w' = w.drewN k := by
  have tb := tdiv_bound n d 4611686018427387904 hn1 hn2
  have hw : IntKind.i64.wrap (n.tdiv d) = n.tdiv d := IntWalk.i64_in _ (by omega)
  have hc0 : ∀ k, (w.drewN k).cell? p = some (.int .i64 (-1)) := fun _ => hc
  go_enter Try.func133, Try.ntmps133
  go_wp2
  go_quiet (fail)
  clear hw
  have hc1 := Lib.hid (hc0 nq)
  clear hc hc0
  go_wp2_with (fail)
  · refine (rule_other (n.tdiv d) (0) (-1) p _ hc1.out (by decide)).mono ?_
    rintro e w' ⟨rfl, rfl⟩
    go_wp2_with (fail)
    go_ret
    exact ⟨ret_int (exact_any hd (by simpa using ‹(n.tmod d == 0) = true›)).1.symm, _, rfl⟩
  · refine (rule_same (n.tdiv d) (-1) p _ hc1.out (by omega) (by omega)).mono ?_
    rintro e w' ⟨rfl, rfl⟩
    go_wp2_with (fail)
    go_ret
    exact ⟨ret_int (below_any (below_tests hd ‹_› ‹_›)).1.symm, _, rfl⟩
  · refine (rule_other (n.tdiv d) (1) (-1) p _ hc1.out (by decide)).mono ?_
    rintro e w' ⟨rfl, rfl⟩
    go_wp2_with (fail)
    go_ret
    exact ⟨ret_int (above_any (above_tests hd ‹_› ‹_›)).1.symm, _, rfl⟩
end Go.Proofs.Ytdnndmpdlelliaa
