/-
  The walk of the law FixedQuotients.
-/
import Derived.Test.YtjjllfaehipemaaRef1
import Derived.Test.YtjjllfaehipemaaSane2
namespace Go.Proofs.Ytjjllfaehipemaa
open Go.ChangeShapes Go.WideShapes Go.ChangeAt Go.RowKit

theorem num_ex (x : Int) : ∃ a : Int, -2147483648 < a ∧ a < 2147483648 ∧ ∀ w, Calls Try.prog 15 #[.int .i64 x] w fun e w' => e = .returned (.int .i64 a) ∧ w = w' :=
  ⟨nm x, (nm_bd x).1, (nm_bd x).2, fun w => num_any x w⟩

theorem tdiv_between (n : Int) {d : Int} (h : 0 < d) : dn n d ≤ n.tdiv d ∧ n.tdiv d ≤ up n d := by
  have c := up_dn n h
  by_cases h0 : n.tmod d = 0
  · have := exact_any (n := n) (d := d) (by omega) h0
    omega
  · rcases Int.lt_or_gt_of_ne h0 with hl | hl
    · have := below_any (n := n) (d := d) (.inl ⟨h, hl⟩)
      omega
    · have := above_any (n := n) (d := d) (.inl ⟨h, hl⟩)
      omega
theorem dn_size (n : Int) {d : Int} (h : 0 < d) (B : Int) (h1 : -B ≤ n) (h2 : n ≤ B) : -B - 1 ≤ dn n d ∧ up n d ≤ B + 1 := by
  have a := tdiv_between n h
  have b := up_dn n h
  have c := tdiv_bound n d B h1 h2
  omega

set_option maxHeartbeats 2000000 in
theorem quotients_walk (x y : Int) (w : World) :
    Calls Try.prog 6 #[.int .i64 x, .int .i64 y] w fun e w' => e = .returned (.bool true) ∧ Below w.heap.size w w' := by
  obtain ⟨a, ha1, ha2, hx⟩ := num_ex x
  obtain ⟨b, hb1, hb2, hy⟩ := num_ex y
  by_cases hb : b = 0
  · subst hb
    go_enter Try.func6, Try.ntmps6
    go_wp2_with (fail)
    refine (sanity_any _).mono ?_
    rintro e0 w0 ⟨rfl, hB⟩
    go_wp2_with (fail)
    refine (hx _).mono ?_
    rintro e1 w1 ⟨rfl, rfl⟩
    go_wp2_with (fail)
    refine (hy _).mono ?_
    rintro e2 w2 ⟨rfl, rfl⟩
    go_wp2_with (fail)
    refine (div_zero a _).mono ?_
    rintro e3 w3 ⟨rfl, rfl⟩
    go_wp2_with (fail)
    go_ret
    exact ⟨rfl, hB⟩
  · by_cases hneg : b < 0
    · obtain ⟨u, rfl⟩ : ∃ u, b = -u := ⟨-b, by omega⟩
      have hdv : ∀ w, Calls Try.prog 18 #[.int .i64 a, .int .i64 (-u)] w fun e w' => e = .returned (.tuple #[.int .i64 (dn (-(a * 65536)) u), .int .i64 (up (-(a * 65536)) u), .int .i64 0]) ∧ Below w.heap.size w w' := fun w => by
        have h := div_any a (-u) w (by omega) (by omega) (by simp; omega)
        rwa [← dn_flip (a * 65536), ← up_flip (a * 65536), Int.neg_neg] at h
      have hen := fun w => encl_any u (-(a * 65536)) w (by omega) (by omega) (by omega) (by omega)
      have q1 := tdiv_between (-(a * 65536)) (d := u) (by omega)
      have q2 := up_dn (-(a * 65536)) (d := u) (by omega)
      have q3 := dn_size (-(a * 65536)) (d := u) (by omega) 140737488355328 (by omega) (by omega)
      have q4 := tdiv_bound (a * 65536) u 140737488355328 (by omega) (by omega)
      rw [Int.neg_tdiv] at q1
      generalize dn (-(a * 65536)) u = lo at *
      generalize up (-(a * 65536)) u = hi at *
      go_enter Try.func6, Try.ntmps6
      go_wp2_with (fail)
      refine (sanity_any _).mono ?_
      rintro e0 w0 ⟨rfl, hB⟩
      go_wp2_with (fail)
      refine (hx _).mono ?_
      rintro e1 w1 ⟨rfl, rfl⟩
      go_wp2_with (fail)
      refine (hy _).mono ?_
      rintro e2 w2 ⟨rfl, rfl⟩
      go_wp2_with (fail)
      refine (hdv _).mono ?_
      rintro e3 w3 ⟨rfl, hB3⟩
      go_wp2_with (fail)
      refine (hen _).mono ?_
      rintro e4 w4 ⟨rfl, rfl⟩
      go_wp2_with (fail)
      go_ret
      exact ⟨rfl, below_then hB hB3⟩
    · have hdv := fun w => div_any a b w (by omega) (by omega) (by simp; omega)
      have hen := fun w => encl_any b (a * 65536) w (by omega) (by omega) (by omega) (by omega)
      have q1 := tdiv_between (a * 65536) (d := b) (by omega)
      have q2 := up_dn (a * 65536) (d := b) (by omega)
      have q3 := dn_size (a * 65536) (d := b) (by omega) 140737488355328 (by omega) (by omega)
      have q4 := tdiv_bound (a * 65536) b 140737488355328 (by omega) (by omega)
      have hb0 : (b == 0) = false := by simpa using hb
      generalize dn (a * 65536) b = lo at *
      generalize up (a * 65536) b = hi at *
      go_enter Try.func6, Try.ntmps6
      go_wp2_with (fail)
      refine (sanity_any _).mono ?_
      rintro e0 w0 ⟨rfl, hB⟩
      go_wp2_with (fail)
      refine (hx _).mono ?_
      rintro e1 w1 ⟨rfl, rfl⟩
      go_wp2_with (fail)
      refine (hy _).mono ?_
      rintro e2 w2 ⟨rfl, rfl⟩
      go_wp2_with (fail)
      refine (hdv _).mono ?_
      rintro e3 w3 ⟨rfl, hB3⟩
      go_wp2_with (fail)
      refine (hen _).mono ?_
      rintro e4 w4 ⟨rfl, rfl⟩
      go_wp2_with (fail)
      go_ret
      exact ⟨rfl, below_then hB hB3⟩
end Go.Proofs.Ytjjllfaehipemaa
