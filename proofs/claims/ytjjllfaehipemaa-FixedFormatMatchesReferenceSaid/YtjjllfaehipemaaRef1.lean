/-
  Contracts of package armillaryref01's arithmetic and of 'encloses'.
-/
import Derived.Test.YtjjllfaehipemaaFix4
namespace Go.Proofs.Ytjjllfaehipemaa
open Go.ChangeShapes Go.WideShapes Go.ChangeAt Go.RowKit

/-- The number that 'Any' makes of an int64. -/
def nm (x : Int) : Int := x.tmod 2147483648
theorem nm_bd (x : Int) : -2147483648 < nm x ∧ nm x < 2147483648 := ⟨Int.lt_tmod_of_pos x (by decide), Int.tmod_lt_of_pos x (by decide)⟩

theorem num_any (x : Int) (w : World) :
    Calls Try.prog 15 #[.int .i64 x] w fun e w' => e = .returned (.int .i64 (nm x)) ∧ w = w' := by
  go_enter Try.func15, Try.ntmps15
  go_wp2
  go_ret
  exact ⟨rfl, rfl⟩

theorem rvalid_any (x : Int) (w : World) :
    Calls Try.prog 14 #[.int .i64 x] w fun e w' => e = .returned (.bool (decide (-2147483648 < x) && decide (x < 2147483648))) ∧ w = w' := by
  by_cases h : -2147483648 < x
  all_goals
    go_enter Try.func14, Try.ntmps14
    go_wp2
    go_ret
    first | (simp [h]; done) | (simp; omega)

theorem tmod_sign {n d : Int} (h : ¬ n.tmod d = 0) : (n.tmod d < 0 ↔ n < 0) := by
  rcases Int.lt_or_le n 0 with hn | hn
  · have := Int.tmod_nonneg (a := -n) d (by omega)
    rw [Int.neg_tmod] at this
    constructor <;> omega
  · have := Int.tmod_nonneg (a := n) d hn
    constructor <;> omega

theorem down_any (a b : Int) (w : World) (h1 : -4611686018427387904 ≤ a) (h2 : a ≤ 4611686018427387904) (hb : ¬ b = 0) :
    Calls Try.prog 32 #[.int .i64 a, .int .i64 b] w fun e w' => e = .returned (.int .i64 (dn a b)) ∧ w = w' := by
  have tb := tdiv_bound a b 4611686018427387904 h1 h2
  by_cases hr : a.tmod b = 0
  · have hd := Lib.hid (exact_any hb hr).1
    have hr' : (a.tmod b != 0) = false := by simpa using hr
    clear hr
    go_enter Try.func32, Try.ntmps32
    go_wp2
    go_ret
    exact ⟨ret_int hd.out.symm, rfl⟩
  have hs := tmod_sign hr
  have hr' : (a.tmod b != 0) = true := by simpa using hr
  by_cases ha : a < 0
  all_goals by_cases hb2 : b < 0
  · have hd := Lib.hid (above_any (n := a) (d := b) (by omega)).1
    clear hr hs
    go_enter Try.func32, Try.ntmps32
    go_wp2
    go_ret
    exact ⟨ret_int hd.out.symm, rfl⟩
  · have hd := Lib.hid (below_any (n := a) (d := b) (by omega)).1
    clear hr hs
    go_enter Try.func32, Try.ntmps32
    go_wp2
    go_ret
    exact ⟨ret_int hd.out.symm, rfl⟩
  · have hd := Lib.hid (below_any (n := a) (d := b) (by omega)).1
    have hr2 : (a % b != 0) = true := by rw [Int.tmod_eq_emod_of_nonneg (by omega)] at hr'; exact hr'
    clear hr hs
    go_enter Try.func32, Try.ntmps32
    go_wp2
    go_ret
    exact ⟨ret_int hd.out.symm, rfl⟩
  · have hd := Lib.hid (above_any (n := a) (d := b) (by omega)).1
    have hr2 : (a % b != 0) = true := by rw [Int.tmod_eq_emod_of_nonneg (by omega)] at hr'; exact hr'
    clear hr hs
    go_enter Try.func32, Try.ntmps32
    go_wp2
    go_ret
    exact ⟨ret_int hd.out.symm, rfl⟩

theorem upward_any (a b : Int) (w : World) (h1 : -4611686018427387904 ≤ a) (h2 : a ≤ 4611686018427387904) (hb : ¬ b = 0) :
    Calls Try.prog 33 #[.int .i64 a, .int .i64 b] w fun e w' => e = .returned (.int .i64 (up a b)) ∧ w = w' := by
  have tb := tdiv_bound a b 4611686018427387904 h1 h2
  by_cases hr : a.tmod b = 0
  · have hd := Lib.hid (exact_any hb hr).2
    have hr' : (a.tmod b != 0) = false := by simpa using hr
    clear hr
    go_enter Try.func33, Try.ntmps33
    go_wp2
    go_ret
    exact ⟨ret_int hd.out.symm, rfl⟩
  have hs := tmod_sign hr
  have hr' : (a.tmod b != 0) = true := by simpa using hr
  by_cases ha : a < 0
  all_goals by_cases hb2 : b < 0
  · have hd := Lib.hid (above_any (n := a) (d := b) (by omega)).2
    clear hr hs
    go_enter Try.func33, Try.ntmps33
    go_wp2
    go_ret
    exact ⟨ret_int hd.out.symm, rfl⟩
  · have hd := Lib.hid (below_any (n := a) (d := b) (by omega)).2
    clear hr hs
    go_enter Try.func33, Try.ntmps33
    go_wp2
    go_ret
    exact ⟨ret_int hd.out.symm, rfl⟩
  · have hd := Lib.hid (below_any (n := a) (d := b) (by omega)).2
    have hr2 : (a % b != 0) = true := by rw [Int.tmod_eq_emod_of_nonneg (by omega)] at hr'; exact hr'
    clear hr hs
    go_enter Try.func33, Try.ntmps33
    go_wp2
    go_ret
    exact ⟨ret_int hd.out.symm, rfl⟩
  · have hd := Lib.hid (above_any (n := a) (d := b) (by omega)).2
    have hr2 : (a % b != 0) = true := by rw [Int.tmod_eq_emod_of_nonneg (by omega)] at hr'; exact hr'
    clear hr hs
    go_enter Try.func33, Try.ntmps33
    go_wp2
    go_ret
    exact ⟨ret_int hd.out.symm, rfl⟩

theorem encl_any (unit exact : Int) (w : World) (hu1 : 0 < unit) (hu2 : unit ≤ 2147483648) (h1 : -4611686018427387904 ≤ exact) (h2 : exact ≤ 4611686018427387904) :
    Calls Try.prog 28 #[.int .i64 (dn exact unit), .int .i64 (up exact unit), .int .i64 unit, .int .i64 exact] w fun e w' => e = .returned (.bool true) ∧ w = w' := by
  have a := dn_mul exact hu1
  have b := up_mul exact hu1
  have c := up_dn exact hu1
  have d := dn_eq_up exact hu1
  have hm : exact.tmod unit = 0 ↔ exact % unit = 0 := by rw [← Int.dvd_iff_tmod_eq_zero, ← Int.dvd_iff_emod_eq_zero]
  generalize dn exact unit = lo at *
  generalize up exact unit = hi at *
  have e1 : ¬ unit = 0 := by omega
  have e2 := a.1
  have e3 : -4611686020574871552 ≤ lo * unit := by omega
  have e4 : hi * unit ≤ 4611686020574871552 := by omega
  have e5 := b.1
  have e6 := c.1
  have e7 : hi - lo ≤ 1 := by omega
  have e8 : -4611686018427387905 ≤ lo := by
    refine Int.not_lt.1 fun hc => ?_
    have : (lo + 1) * unit ≤ (lo + 1) * 1 := Int.mul_le_mul_of_nonpos_left (by omega) (by omega)
    rw [Int.add_mul] at this
    omega
  have e9 : hi ≤ 4611686018427387905 := by
    refine Int.not_lt.1 fun hc => ?_
    have : (hi - 1) * 1 ≤ (hi - 1) * unit := Int.mul_le_mul_of_nonneg_left (by omega) (by omega)
    rw [Int.sub_mul, Int.sub_mul] at this
    omega
  by_cases h : exact.tmod unit = 0
  · have k1 : (exact.tmod unit == 0) = true := by simpa using h
    have k2 : (lo == hi) = true := by simpa using d.2 (hm.1 h)
    clear a b c d hm h
    go_enter Try.func28, Try.ntmps28
    go_wp2
    go_ret
    exact ⟨rfl, rfl⟩
  · have k1 : (exact.tmod unit == 0) = false := by simpa using h
    have k2 : (lo == hi) = false := by simpa using fun hh => h (hm.2 (d.1 hh))
    clear a b c d hm h
    go_enter Try.func28, Try.ntmps28
    go_wp2
    go_ret
    exact ⟨rfl, rfl⟩
end Go.Proofs.Ytjjllfaehipemaa
