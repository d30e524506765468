/-
  Contracts of package fixed's rounding at uint64.
-/
import Derived.Test.YtjjllfaehipemaaFix4
namespace Go.Proofs.Ytjjllfaehipemaa
open Go.ChangeShapes Go.WideShapes Go.ChangeAt Go.RowKit

theorem towardu_any (t : Int) (w : World) :
    Calls Try.prog 48 #[.int .i64 t] w fun e w' => e = .returned (.func (.func 49) #[] #[.pointer (some ⟨w.heap.size, 0, none⟩)]) ∧ w.alloc (.cells #[.int .i64 t] 3) = w' := by
  have hmf : ∀ (fn : Fn) (first cap : Array Value) (w : World), (Instr.makeFunc fn first cap).run Try.prog w = .ok (.func fn first cap) w := fun _ _ _ _ => rfl
  go_enter Try.func48, Try.ntmps48
  go_wp2
  go_ret
  exact ⟨rfl, rfl⟩

theorem ruleu_up (q : Int) (p : Addr) (w : World) (hc : w.cell? p = some (.int .i64 1)) (h1 : 0 ≤ q) (h2 : q ≤ 9223372036854775807) :
    Calls Try.prog 49 #[.int .u64 q, .int .i64 1, .pointer (some p)] w fun e w' => e = .returned (.int .u64 (q + 1)) ∧ w = w' := by
  go_enter Try.func49, Try.ntmps49
  go_wp2
  go_ret
  exact ⟨rfl, rfl⟩

theorem ruleu_other (q s t : Int) (p : Addr) (w : World) (hc : w.cell? p = some (.int .i64 t)) (h : (s == t) = false) :
    Calls Try.prog 49 #[.int .u64 q, .int .i64 s, .pointer (some p)] w fun e w' => e = .returned (.int .u64 q) ∧ w = w' := by
  go_enter Try.func49, Try.ntmps49
  go_wp2
  go_ret
  exact ⟨rfl, rfl⟩

theorem up_even {n d : Int} (h : 0 < d) (hr : n % d = 0) : up n d = n / d := by rw [← dn_pos n h, (dn_eq_up n h).2 hr]
theorem up_odd {n d : Int} (h : 0 < d) (hr : ¬ n % d = 0) : up n d = n / d + 1 := by
  have a := up_dn n h
  have b : dn n d ≠ up n d := fun e => hr ((dn_eq_up n h).1 e)
  rw [← dn_pos n h]
  omega

theorem divu_up (n d : Int) (p : Addr) (w : World) (hc : w.cell? p = some (.int .i64 (1)))
    (hn1 : 0 ≤ n) (hn2 : n ≤ 4611686018427387904) (hd : 1 ≤ d) :
    Calls Try.prog 47 #[.int .u64 n, .int .u64 d, .func (.func 49) #[] #[.pointer (some p)]] w fun e w' => e = .returned (.int .u64 (up n d)) ∧ ∃ k, w' = w.drewN k := by
  have tb : 0 ≤ n / d := Int.ediv_nonneg hn1 (by omega)
  have tb2 : n / d ≤ 4611686018427387904 := by have := Int.ediv_le_self d hn1; omega
  have hr0 : 0 ≤ n % d := Int.emod_nonneg n (by omega)
  have hnz : ¬ d = 0 := by omega
  have hd0 : ¬ d < 0 := by omega
  have hw : IntKind.u64.wrap (n.tdiv d) = n / d := by rw [Int.tdiv_eq_ediv_of_nonneg hn1]; exact IntWalk.u64_in _ (by omega)
  have hm : n.tmod d = n % d := Int.tmod_eq_emod_of_nonneg hn1
  have hc0 : ∀ k, (w.drewN k).cell? p = some (.int .i64 (1)) := fun _ => hc
  go_enter Try.func47, Try.ntmps47
  go_wp2
  go_quiet (fail)
  clear hw hm
  have hc1 := Lib.hid (hc0 nq)
  clear hc hc0
  by_cases hr : (n % d == 0) = true
  · have hq : up n d = n / d := up_even (by omega) (by simpa using hr)
    go_wp2_with (fail)
    refine (ruleu_other (n / d) 0 (1) p _ hc1.out (by decide)).mono ?_
    rintro e w' ⟨rfl, rfl⟩
    go_wp2_with (fail)
    go_ret
    exact ⟨ret_int hq.symm, _, rfl⟩
  · have hq : Hid (up n d = n / d + 1) := up_odd (by omega) (by simpa using hr)
    have hr' : (n % d == 0) = false := by simpa using hr
    clear hr
    have hlt : ¬ n % d < 0 := by omega
    go_wp2_with (fail)
    refine (ruleu_up (n / d) p _ hc1.out tb (by omega)).mono ?_
    rintro e w' ⟨rfl, rfl⟩
    go_wp2_with (fail)
    go_ret
    exact ⟨ret_int hq.out.symm, _, rfl⟩

theorem divu_dn (n d : Int) (p : Addr) (w : World) (hc : w.cell? p = some (.int .i64 (-1)))
    (hn1 : 0 ≤ n) (hn2 : n ≤ 4611686018427387904) (hd : 1 ≤ d) :
    Calls Try.prog 47 #[.int .u64 n, .int .u64 d, .func (.func 49) #[] #[.pointer (some p)]] w fun e w' => e = .returned (.int .u64 (dn n d)) ∧ ∃ k, w' = w.drewN k := by
  have tb : 0 ≤ n / d := Int.ediv_nonneg hn1 (by omega)
  have tb2 : n / d ≤ 4611686018427387904 := by have := Int.ediv_le_self d hn1; omega
  have hr0 : 0 ≤ n % d := Int.emod_nonneg n (by omega)
  have hnz : ¬ d = 0 := by omega
  have hd0 : ¬ d < 0 := by omega
  have hw : IntKind.u64.wrap (n.tdiv d) = n / d := by rw [Int.tdiv_eq_ediv_of_nonneg hn1]; exact IntWalk.u64_in _ (by omega)
  have hm : n.tmod d = n % d := Int.tmod_eq_emod_of_nonneg hn1
  have hc0 : ∀ k, (w.drewN k).cell? p = some (.int .i64 (-1)) := fun _ => hc
  go_enter Try.func47, Try.ntmps47
  go_wp2
  go_quiet (fail)
  clear hw hm
  have hc1 := Lib.hid (hc0 nq)
  clear hc hc0
  by_cases hr : (n % d == 0) = true
  · have hq : dn n d = n / d := dn_pos n (by omega)
    go_wp2_with (fail)
    refine (ruleu_other (n / d) 0 (-1) p _ hc1.out (by decide)).mono ?_
    rintro e w' ⟨rfl, rfl⟩
    go_wp2_with (fail)
    go_ret
    exact ⟨ret_int hq.symm, _, rfl⟩
  · have hq : Hid (dn n d = n / d) := dn_pos n (by omega)
    have hr' : (n % d == 0) = false := by simpa using hr
    clear hr
    have hlt : ¬ n % d < 0 := by omega
    go_wp2_with (fail)
    refine (ruleu_other (n / d) 1 (-1) p _ hc1.out (by decide)).mono ?_
    rintro e w' ⟨rfl, rfl⟩
    go_wp2_with (fail)
    go_ret
    exact ⟨ret_int hq.out.symm, _, rfl⟩

theorem boundsu_any (n d : Int) (w : World)
    (hn1 : 0 ≤ n) (hn2 : n ≤ 4611686018427387904) (hd : 1 ≤ d)  :
    Calls Try.prog 43 #[.int .u64 n, .int .u64 d] w fun e w' => e = .returned (.tuple #[.int .u64 (dn n d), .int .u64 (up n d)]) ∧ Below w.heap.size w w' := by
  go_enter Try.func43, Try.ntmps43
  go_wp2_with (fail)
  refine (towardu_any (-1) _).mono ?_
  rintro e w' ⟨rfl, rfl⟩
  go_wp2_with (fail)
  refine (divu_dn n d _ _ (by go_cell) hn1 hn2 hd).mono ?_
  rintro e w' ⟨rfl, k, rfl⟩
  go_wp2_with (fail)
  refine (towardu_any 1 _).mono ?_
  rintro e w' ⟨rfl, rfl⟩
  go_wp2_with (fail)
  refine (divu_up n d _ _ (by go_cell) hn1 hn2 hd).mono ?_
  rintro e w' ⟨rfl, k, rfl⟩
  go_wp2_with (fail)
  go_ret2
  exact ⟨rfl, below_drewN (Below.alloc (below_drewN (Below.alloc (Below.refl _ _) (Nat.le_refl _) _) _) (by go_size) _) _⟩
end Go.Proofs.Ytjjllfaehipemaa
