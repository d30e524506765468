/-
  The reference's Down, Up and Mul.
-/
import Derived.Test.YtpepgheocemjdaaFix
namespace Go.Proofs.Ytpepgheocemjdaa
open Go.ChangeShapes Go.WideShapes Go.ChangeAt Go.RowKit
set_option linter.unusedVariables false
set_option linter.unusedSimpArgs false
set_option maxRecDepth 100000

theorem tmod_sign {n d : Int} (h : ¬ n.tmod d = 0) : (n.tmod d < 0 ↔ n < 0) := by
  rcases Int.lt_or_le n 0 with hn | hn
  · have := Int.tmod_nonneg (a := -n) d (by omega)
    rw [Int.neg_tmod] at this
    constructor <;> omega
  · have := Int.tmod_nonneg (a := n) d hn
    constructor <;> omega

theorem down_any (a b : Int) (w : World) (h1 : -4611686018427387904 ≤ a) (h2 : a ≤ 4611686018427387904) (hb : ¬ b = 0) :
    Calls Try.prog 104 #[.int .i64 a, .int .i64 b] w fun e w' => e = .returned (.int .i64 (dn a b)) ∧ w = w' := by
  have tb := tdiv_bound a b 4611686018427387904 h1 h2
  by_cases hr : a.tmod b = 0
  · have hd := Lib.hid (exact_any hb hr).1
    have hr' : (a.tmod b != 0) = false := by simpa using hr
    clear hr
    go_enter Try.func104, Try.ntmps104
    go_wp2
    go_ret
    exact ⟨ret_int hd.out.symm, rfl⟩
  have hs := tmod_sign hr
  have hr' : (a.tmod b != 0) = true := by simpa using hr
  by_cases ha : a < 0
  all_goals by_cases hb2 : b < 0
  · have hd := Lib.hid (above_any (n := a) (d := b) (by omega)).1
    clear hr hs
    go_enter Try.func104, Try.ntmps104
    go_wp2
    go_ret
    exact ⟨ret_int hd.out.symm, rfl⟩
  · have hd := Lib.hid (below_any (n := a) (d := b) (by omega)).1
    clear hr hs
    go_enter Try.func104, Try.ntmps104
    go_wp2
    go_ret
    exact ⟨ret_int hd.out.symm, rfl⟩
  · have hd := Lib.hid (below_any (n := a) (d := b) (by omega)).1
    have hr2 : (a % b != 0) = true := by rw [Int.tmod_eq_emod_of_nonneg (by omega)] at hr'; exact hr'
    clear hr hs
    go_enter Try.func104, Try.ntmps104
    go_wp2
    go_ret
    exact ⟨ret_int hd.out.symm, rfl⟩
  · have hd := Lib.hid (above_any (n := a) (d := b) (by omega)).1
    have hr2 : (a % b != 0) = true := by rw [Int.tmod_eq_emod_of_nonneg (by omega)] at hr'; exact hr'
    clear hr hs
    go_enter Try.func104, Try.ntmps104
    go_wp2
    go_ret
    exact ⟨ret_int hd.out.symm, rfl⟩

theorem upward_any (a b : Int) (w : World) (h1 : -4611686018427387904 ≤ a) (h2 : a ≤ 4611686018427387904) (hb : ¬ b = 0) :
    Calls Try.prog 105 #[.int .i64 a, .int .i64 b] w fun e w' => e = .returned (.int .i64 (up a b)) ∧ w = w' := by
  have tb := tdiv_bound a b 4611686018427387904 h1 h2
  by_cases hr : a.tmod b = 0
  · have hd := Lib.hid (exact_any hb hr).2
    have hr' : (a.tmod b != 0) = false := by simpa using hr
    clear hr
    go_enter Try.func105, Try.ntmps105
    go_wp2
    go_ret
    exact ⟨ret_int hd.out.symm, rfl⟩
  have hs := tmod_sign hr
  have hr' : (a.tmod b != 0) = true := by simpa using hr
  by_cases ha : a < 0
  all_goals by_cases hb2 : b < 0
  · have hd := Lib.hid (above_any (n := a) (d := b) (by omega)).2
    clear hr hs
    go_enter Try.func105, Try.ntmps105
    go_wp2
    go_ret
    exact ⟨ret_int hd.out.symm, rfl⟩
  · have hd := Lib.hid (below_any (n := a) (d := b) (by omega)).2
    clear hr hs
    go_enter Try.func105, Try.ntmps105
    go_wp2
    go_ret
    exact ⟨ret_int hd.out.symm, rfl⟩
  · have hd := Lib.hid (below_any (n := a) (d := b) (by omega)).2
    have hr2 : (a % b != 0) = true := by rw [Int.tmod_eq_emod_of_nonneg (by omega)] at hr'; exact hr'
    clear hr hs
    go_enter Try.func105, Try.ntmps105
    go_wp2
    go_ret
    exact ⟨ret_int hd.out.symm, rfl⟩
  · have hd := Lib.hid (above_any (n := a) (d := b) (by omega)).2
    have hr2 : (a % b != 0) = true := by rw [Int.tmod_eq_emod_of_nonneg (by omega)] at hr'; exact hr'
    clear hr hs
    go_enter Try.func105, Try.ntmps105
    go_wp2
    go_ret
    exact ⟨ret_int hd.out.symm, rfl⟩

theorem rmul_any (a b : Int) (w : World) (h1 : -2147483648 ≤ a) (h2 : a ≤ 2147483648) (h3 : -2147483648 ≤ b) (h4 : b ≤ 2147483648) :
    Calls Try.prog 58 #[.int .i64 a, .int .i64 b] w fun e w' => e = .returned (.tuple #[.int .i64 (dn (a * b) 65536), .int .i64 (up (a * b) 65536)]) ∧ w = w' := by
  have hb := mul_bound a b 2147483648 2147483648 h1 h2 h3 h4
  have hm1 : -4611686018427387904 ≤ a * b := by omega
  have hm2 : a * b ≤ 4611686018427387904 := by omega
  clear hb
  go_enter Try.func58, Try.ntmps58
  go_wp2_with (fail)
  refine (down_any (a * b) 65536 _ hm1 hm2 (by decide)).mono ?_
  rintro e w' ⟨rfl, rfl⟩
  go_wp2_with (fail)
  refine (upward_any (a * b) 65536 _ hm1 hm2 (by decide)).mono ?_
  rintro e w' ⟨rfl, rfl⟩
  go_wp2_with (fail)
  go_ret2
  exact ⟨rfl, rfl⟩
end Go.Proofs.Ytpepgheocemjdaa
