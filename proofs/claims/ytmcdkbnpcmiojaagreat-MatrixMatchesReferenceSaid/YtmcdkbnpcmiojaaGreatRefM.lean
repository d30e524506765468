/-
  The reference's Down, Up and Mul.
-/
import Derived.Test.YtmcdkbnpcmiojaaGreatFix
namespace Go.Proofs.YtmcdkbnpcmiojaaGreat
open Go.ChangeShapes Go.WideShapes Go.ChangeAt Go.RowKit
set_option linter.unusedVariables false
set_option linter.unusedSimpArgs false
set_option maxRecDepth 100000

theorem tmod_sign {n d : Int} (h : ¬ n.tmod d = 0) : (n.tmod d < 0 ↔ n < 0) := by
  rcases Int.lt_or_le n 0 with hn | hn
  · have := Int.tmod_nonneg (a := -n) d (by omega)
    rw [Int.neg_tmod] at this
    constructor <;> omega
  · have := Int.tmod_nonneg (a := n) d hn
    constructor <;> omega

theorem down_any (a b : Int) (w : World) (h1 : -4611686018427387904 ≤ a) (h2 : a ≤ 4611686018427387904) (hb : ¬ b = 0) :
    Calls Tryz.prog 96 #[.int .i64 a, .int .i64 b] w fun e w' => e = .returned (.int .i64 (dn a b)) ∧ w = w' := by
  have tb := tdiv_bound a b 4611686018427387904 h1 h2
  by_cases hr : a.tmod b = 0
  · have hd := Lib.hid (exact_any hb hr).1
    have hr' : (a.tmod b != 0) = false := by simpa using hr
    clear hr
    go_enter Tryz.func96, Tryz.ntmps96
    go_wp2
    go_ret
    exact ⟨ret_int hd.out.symm, rfl⟩
  have hs := tmod_sign hr
  have hr' : (a.tmod b != 0) = true := by simpa using hr
  by_cases ha : a < 0
  all_goals by_cases hb2 : b < 0
  · have hd := Lib.hid (above_any (n := a) (d := b) (by omega)).1
    clear hr hs
    go_enter Tryz.func96, Tryz.ntmps96
    go_wp2
    go_ret
    exact ⟨ret_int hd.out.symm, rfl⟩
  · have hd := Lib.hid (below_any (n := a) (d := b) (by omega)).1
    clear hr hs
    go_enter Tryz.func96, Tryz.ntmps96
    go_wp2
    go_ret
    exact ⟨ret_int hd.out.symm, rfl⟩
  · have hd := Lib.hid (below_any (n := a) (d := b) (by omega)).1
    have hr2 : (a % b != 0) = true := by rw [Int.tmod_eq_emod_of_nonneg (by omega)] at hr'; exact hr'
    clear hr hs
    go_enter Tryz.func96, Tryz.ntmps96
    go_wp2
    go_ret
    exact ⟨ret_int hd.out.symm, rfl⟩
  · have hd := Lib.hid (above_any (n := a) (d := b) (by omega)).1
    have hr2 : (a % b != 0) = true := by rw [Int.tmod_eq_emod_of_nonneg (by omega)] at hr'; exact hr'
    clear hr hs
    go_enter Tryz.func96, Tryz.ntmps96
    go_wp2
    go_ret
    exact ⟨ret_int hd.out.symm, rfl⟩


end Go.Proofs.YtmcdkbnpcmiojaaGreat
