/-
  Fix
-/
import Derived.Test.YtbppfohcicepcaaGreatKba
import Derived.Test.YtbppfohcicepcaaGreatKbb
import Derived.Outline
import Derived.WalkMore
namespace Go.Proofs.YtbppfohcicepcaaGreat
open Go.ChangeShapes Go.WideShapes Go.ChangeAt Go.RowKit
theorem toward_any (t : Int) (w : World) :
    Calls Tryz.prog 137 #[.int .i64 t] w fun e w' => e = .returned (.func (.func 139) #[] #[.pointer (some ⟨w.heap.size, 0, none⟩)]) ∧ w.alloc (.cells #[.int .i64 t] 3) = w' := by
  have hmf : ∀ (fn : Fn) (first cap : Array Value) (w : World), (Instr.makeFunc fn first cap).run Tryz.prog w = .ok (.func fn first cap) w := fun _ _ _ _ => rfl
  go_enter Tryz.func137, Tryz.ntmps137
  go_wp2
  go_ret
  exact ⟨rfl, rfl⟩

theorem rule_same (q t : Int) (p : Addr) (w : World) (hc : w.cell? p = some (.int .i64 t)) (h1 : -9223372036854775807 ≤ q + t) (h2 : q + t ≤ 9223372036854775807) :
    Calls Tryz.prog 139 #[.int .i64 q, .int .i64 t, .pointer (some p)] w fun e w' => e = .returned (.int .i64 (q + t)) ∧ w = w' := by
  go_enter Tryz.func139, Tryz.ntmps139
  go_wp2
  go_ret
  exact ⟨rfl, rfl⟩

theorem rule_other (q s t : Int) (p : Addr) (w : World) (hc : w.cell? p = some (.int .i64 t)) (h : (s == t) = false) :
    Calls Tryz.prog 139 #[.int .i64 q, .int .i64 s, .pointer (some p)] w fun e w' => e = .returned (.int .i64 q) ∧ w = w' := by
  go_enter Tryz.func139, Tryz.ntmps139
  go_wp2
  go_ret
  exact ⟨rfl, rfl⟩
end Go.Proofs.YtbppfohcicepcaaGreat
namespace Go.Proofs.YtbppfohcicepcaaGreat
open Go.ChangeShapes Go.WideShapes Go.ChangeAt Go.RowKit
theorem below_tests {r d : Int} (hd : ¬ d = 0) (h0 : (r == 0) = false) (h1 : (!decide (r < 0) == decide (d < 0)) = true) : (0 < d ∧ r < 0) ∨ (d < 0 ∧ 0 < r) := by
  simp at h0 h1; by_cases a : r < 0 <;> by_cases b : d < 0 <;> simp [a, b] at h1 <;> omega
theorem above_tests {r d : Int} (hd : ¬ d = 0) (h0 : (r == 0) = false) (h1 : (!decide (r < 0) == decide (d < 0)) = false) : (0 < d ∧ 0 < r) ∨ (d < 0 ∧ r < 0) := by
  simp at h0 h1; by_cases a : r < 0 <;> by_cases b : d < 0 <;> simp [a, b] at h1 <;> omega

theorem div_up (n d : Int) (p : Addr) (w : World) (hc : w.cell? p = some (.int .i64 (1)))
    (hn1 : -4611686018427387904 ≤ n) (hn2 : n ≤ 4611686018427387904) (hd : ¬ d = 0)  :
    Calls Tryz.prog 136 #[.int .i64 n, .int .i64 d, .func (.func 139) #[] #[.pointer (some p)]] w fun e w' => e = .returned (.int .i64 (up n d)) ∧ ∃ k, w' = w.drewN k := by
  have tb := tdiv_bound n d 4611686018427387904 hn1 hn2
  have hw : IntKind.i64.wrap (n.tdiv d) = n.tdiv d := IntWalk.i64_in _ (by omega)
  have hc0 : ∀ k, (w.drewN k).cell? p = some (.int .i64 (1)) := fun _ => hc
  go_enter Tryz.func136, Tryz.ntmps136
  go_wp2
  go_quiet (fail)
  clear hw
  have hc1 := Lib.hid (hc0 nq)
  clear hc hc0
  go_wp2_with (fail)
  · refine (rule_other (n.tdiv d) (0) (1) p _ hc1.out (by decide)).mono ?_
    rintro e w' ⟨rfl, rfl⟩
    go_wp2_with (fail)
    go_ret
    exact ⟨ret_int (exact_any hd (by simpa using ‹(n.tmod d == 0) = true›)).2.symm, _, rfl⟩
  · refine (rule_other (n.tdiv d) (-1) (1) p _ hc1.out (by decide)).mono ?_
    rintro e w' ⟨rfl, rfl⟩
    go_wp2_with (fail)
    go_ret
    exact ⟨ret_int (below_any (below_tests hd ‹_› ‹_›)).2.symm, _, rfl⟩
  · refine (rule_same (n.tdiv d) (1) p _ hc1.out (by omega) (by omega)).mono ?_
    rintro e w' ⟨rfl, rfl⟩
    go_wp2_with (fail)
    go_ret
    exact ⟨ret_int (above_any (above_tests hd ‹_› ‹_›)).2.symm, _, rfl⟩
theorem div_dn (n d : Int) (p : Addr) (w : World) (hc : w.cell? p = some (.int .i64 (-1)))
    (hn1 : -4611686018427387904 ≤ n) (hn2 : n ≤ 4611686018427387904) (hd : ¬ d = 0)  :
    Calls Tryz.prog 136 #[.int .i64 n, .int .i64 d, .func (.func 139) #[] #[.pointer (some p)]] w fun e w' => e = .returned (.int .i64 (dn n d)) ∧ ∃ k, w' = w.drewN k := by
  have tb := tdiv_bound n d 4611686018427387904 hn1 hn2
  have hw : IntKind.i64.wrap (n.tdiv d) = n.tdiv d := IntWalk.i64_in _ (by omega)
  have hc0 : ∀ k, (w.drewN k).cell? p = some (.int .i64 (-1)) := fun _ => hc
  go_enter Tryz.func136, Tryz.ntmps136
  go_wp2
  go_quiet (fail)
  clear hw
  have hc1 := Lib.hid (hc0 nq)
  clear hc hc0
  go_wp2_with (fail)
  · refine (rule_other (n.tdiv d) (0) (-1) p _ hc1.out (by decide)).mono ?_
    rintro e w' ⟨rfl, rfl⟩
    go_wp2_with (fail)
    go_ret
    exact ⟨ret_int (exact_any hd (by simpa using ‹(n.tmod d == 0) = true›)).1.symm, _, rfl⟩
  · refine (rule_same (n.tdiv d) (-1) p _ hc1.out (by omega) (by omega)).mono ?_
    rintro e w' ⟨rfl, rfl⟩
    go_wp2_with (fail)
    go_ret
    exact ⟨ret_int (below_any (below_tests hd ‹_› ‹_›)).1.symm, _, rfl⟩
  · refine (rule_other (n.tdiv d) (1) (-1) p _ hc1.out (by decide)).mono ?_
    rintro e w' ⟨rfl, rfl⟩
    go_wp2_with (fail)
    go_ret
    exact ⟨ret_int (above_any (above_tests hd ‹_› ‹_›)).1.symm, _, rfl⟩
end Go.Proofs.YtbppfohcicepcaaGreat
namespace Go.Proofs.YtbppfohcicepcaaGreat
open Go.ChangeShapes Go.WideShapes Go.ChangeAt Go.RowKit
theorem bounds_any (n d : Int) (w : World)
    (hn1 : -4611686018427387904 ≤ n) (hn2 : n ≤ 4611686018427387904) (hd : ¬ d = 0)  :
    Calls Tryz.prog 126 #[.int .i64 n, .int .i64 d] w fun e w' => e = .returned (.tuple #[.int .i64 (dn n d), .int .i64 (up n d)]) ∧ Below w.heap.size w w' := by
  go_enter Tryz.func126, Tryz.ntmps126
  go_wp2_with (fail)
  refine (toward_any (-1) _).mono ?_
  rintro e w' ⟨rfl, rfl⟩
  go_wp2_with (fail)
  refine (div_dn n d _ _ (by go_cell) hn1 hn2 hd).mono ?_
  rintro e w' ⟨rfl, k, rfl⟩
  go_wp2_with (fail)
  refine (toward_any 1 _).mono ?_
  rintro e w' ⟨rfl, rfl⟩
  go_wp2_with (fail)
  refine (div_up n d _ _ (by go_cell) hn1 hn2 hd).mono ?_
  rintro e w' ⟨rfl, k, rfl⟩
  go_wp2_with (fail)
  go_ret2
  exact ⟨rfl, below_drewN (Below.alloc (below_drewN (Below.alloc (Below.refl _ _) (Nat.le_refl _) _) _) (by go_size) _) _⟩

theorem valid_any (x : Int) (w : World) :
    Calls Tryz.prog 134 #[.int .i64 x] w fun e w' => e = .returned (.bool (decide (-2147483648 < x) && decide (x < 2147483648))) ∧ w = w' := by
  by_cases h : -2147483648 < x
  all_goals
    go_enter Tryz.func134, Tryz.ntmps134
    go_wp2
    go_ret
    first | (simp [h]; done) | (simp; omega)

theorem mul_any (a b : Int) (w : World) (h1 : -2147483648 ≤ a) (h2 : a ≤ 2147483648) (h3 : -2147483648 ≤ b) (h4 : b ≤ 2147483648) :
    Calls Tryz.prog 91 #[.int .i64 a, .int .i64 b] w fun e w' => e = .returned (.tuple #[.int .i64 (dn (a * b) 65536), .int .i64 (up (a * b) 65536)]) ∧ Below w.heap.size w w' := by
  have hb := mul_bound a b 2147483648 2147483648 h1 h2 h3 h4
  have hm1 : -4611686018427387904 ≤ a * b := by omega
  have hm2 : a * b ≤ 4611686018427387904 := by omega
  clear hb
  go_enter Tryz.func91, Tryz.ntmps91
  go_wp2_with (fail)
  refine (bounds_any (a * b) 65536 _ (by omega) (by omega) (by decide)).mono ?_
  rintro e w' ⟨rfl, hb⟩
  go_wp2_with (fail)
  go_ret2
  exact ⟨rfl, hb⟩

theorem div_any (a b : Int) (w : World) (h1 : -2147483648 ≤ a) (h2 : a ≤ 2147483648) (hb0 : (b == 0) = false) :
    Calls Tryz.prog 131 #[.int .i64 a, .int .i64 b] w fun e w' => e = .returned (.tuple #[.int .i64 (dn (a * 65536) b), .int .i64 (up (a * 65536) b), .int .i64 0]) ∧ Below w.heap.size w w' := by
  go_enter Tryz.func131, Tryz.ntmps131
  go_wp2_with (fail)
  refine (bounds_any (a * 65536) b _ (by omega) (by omega) (by simpa using hb0)).mono ?_
  rintro e w' ⟨rfl, hb⟩
  go_wp2_with (fail)
  go_ret3
  exact ⟨rfl, hb⟩

end Go.Proofs.YtbppfohcicepcaaGreat
namespace Go.Proofs.YtbppfohcicepcaaGreat
open Go.ChangeShapes Go.WideShapes Go.ChangeAt Go.RowKit
set_option maxRecDepth 100000 in
theorem root_any (n : Int) (w : World) (hn1 : 1 ≤ n) (hn2 : n < 281474976710656) :
    Calls Tryz.prog 138 #[.int .u64 n] w fun e w' => e = .returned (.int .u64 (isq n)) ∧ w = w' := by
  have hz : (n == 0) = false := by simp; omega
  have hs : isq n < 16777216 := isq_lt (by omega) (by omega) (by omega)
  go_enter Tryz.func138, Tryz.ntmps138
  go_wp2
  go_step3
  go_wp2
  go_step3
  go_wp2
  go_loop [3] (fun r => ∃ q : Int, r = .int .u64 q ∧ 1 ≤ q ∧ q ≤ 16777216 ∧ isq n ≤ q) (fun r => (intOf r).toNat)
  case atStart => exact ⟨_, rfl, by omega, by omega, by omega⟩
  case round =>
    obtain ⟨q, rfl, hq1, hq2, hq3⟩ := hrel
    have hdv : 0 ≤ n / q := Int.ediv_nonneg (by omega) (by omega)
    have hdv2 : n / q < 281474976710656 := by have := Int.ediv_le_self (a := n) q (by omega); omega
    have H := Lib.hid hq3
    clear hq3 hs hz
    by_cases hlt : (q + n / q) / 2 < q
    · go_wp2
      go_round
      case rel => exact ⟨_, rfl, by have := H.out; have := newton_ge (n := n) (r := q) (by omega) hq1; have := isq_pos hn1; omega, by omega, newton_ge (by omega) hq1⟩
      case measure => simp [intOf]; omega
    · go_wp2
      go_ret
      exact ⟨ret_int (newton_end (by omega) hq1 H.out (by omega)).symm, rfl⟩

theorem root_zero (w : World) :
    Calls Tryz.prog 138 #[.int .u64 0] w fun e w' => e = .returned (.int .u64 0) ∧ w = w' := by
  go_enter Tryz.func138, Tryz.ntmps138
  go_wp2
  go_step3
  go_wp2
  try rw [Exit.noGoto_ret]
  go_ret
  exact ⟨rfl, rfl⟩

theorem root_all (n : Int) (w : World) (hn1 : 0 ≤ n) (hn2 : n < 281474976710656) :
    Calls Tryz.prog 138 #[.int .u64 n] w fun e w' => e = .returned (.int .u64 (isq n)) ∧ w = w' := by
  by_cases h : n = 0
  · subst h
    exact root_zero w
  · exact root_any n w (by omega) hn2

/-- The square root rounded up. -/
def usq (n : Int) : Int := if isq n * isq n = n then isq n else isq n + 1

theorem sqrt_any (a : Int) (w : World) (h0 : 0 ≤ a) (h1 : a ≤ 2147483648) :
    Calls Tryz.prog 133 #[.int .i64 a] w fun e w' => e = .returned (.tuple #[.int .i64 (isq (a * 65536)), .int .i64 (usq (a * 65536)), .int .i64 0]) ∧ w = w' := by
  have hs : isq (a * 65536) < 16777216 := isq_lt (by omega) (by omega) (by omega)
  have hp := (isq_spec (n := a * 65536) (by omega)).1
  have hsq := sq_le hp (show isq (a * 65536) ≤ 16777216 by omega)
  have hsq0 := Int.mul_nonneg hp hp
  have hu : Hid (usq (a * 65536) = if isq (a * 65536) * isq (a * 65536) = a * 65536 then isq (a * 65536) else isq (a * 65536) + 1) := rfl
  have hr : ∀ w : World, Calls Tryz.prog 138 #[.int .u64 (a * 65536)] w fun e w' => e = .returned (.int .u64 (isq (a * 65536))) ∧ w = w' := fun w => root_all (a * 65536) w (by omega) (by omega)
  generalize usq (a * 65536) = u at *
  generalize isq (a * 65536) = s at *
  have hsq2 : s * s ≤ 281474976710656 := by omega
  clear hsq
  by_cases he : s * s = a * 65536
  · have hu' : Hid (u = s) := by rw [hu.out, if_pos he]; exact rfl
    have ht : (s * s == a * 65536) = true := by simpa using he
    clear hu he
    go_enter Tryz.func133, Tryz.ntmps133
    go_wp2_with (fail)
    refine (hr _).mono ?_
    rintro e w' ⟨rfl, rfl⟩
    go_wp2_with (fail)
    go_ret3
    exact ⟨by rw [hu'.out]; rfl, rfl⟩
  · have hu' : Hid (u = s + 1) := by rw [hu.out, if_neg he]; exact rfl
    have ht : (s * s == a * 65536) = false := by simpa using he
    clear hu he
    go_enter Tryz.func133, Tryz.ntmps133
    go_wp2_with (fail)
    refine (hr _).mono ?_
    rintro e w' ⟨rfl, rfl⟩
    go_wp2_with (fail)
    go_ret3
    exact ⟨by rw [hu'.out]; rfl, rfl⟩
end Go.Proofs.YtbppfohcicepcaaGreat
