/-
  Contracts of package armillaryref02: the small functions.
  Contracts of package armillaryref02: functions of one interval or two that call nothing.
  Contracts of package armillaryref02: Floor, Ceil, Mid, Add, Sub.
-/
import Derived.Test.YthejcoidgmaidaaKit
import Derived.Test.YthejcoidgmaidaaMath
namespace Go.Proofs.Ythejcoidgmaidaa
open Go.ChangeShapes Go.WideShapes Go.ChangeAt Go.RowKit
set_option linter.unusedVariables false

/-- A number; the entire interval; a valid interval; the interval that New makes. -/
def Num (x : Int) : Prop := -2147483648 < x ∧ x < 2147483648
instance (x : Int) : Decidable (Num x) := inferInstanceAs (Decidable (_ ∧ _))
def Ent (lo hi : Int) : Prop := lo = -2147483648 ∧ hi = 2147483648
instance (lo hi : Int) : Decidable (Ent lo hi) := inferInstanceAs (Decidable (_ ∧ _))
def VI (lo hi : Int) : Prop := Ent lo hi ∨ (Num lo ∧ Num hi ∧ lo ≤ hi)
instance (lo hi : Int) : Decidable (VI lo hi) := inferInstanceAs (Decidable (_ ∨ _))
def mkLo (lo hi : Int) : Int := if Num lo ∧ Num hi then lo else -2147483648
def mkHi (lo hi : Int) : Int := if Num lo ∧ Num hi then hi else 2147483648

theorem r2num_yes (x : Int) (w : World) (h : Num x) :
    Calls Try.prog 50 #[.int .i64 x] w fun e w' => e = .returned (.bool true) ∧ w = w' := by
  obtain ⟨h1, h2⟩ := h
  go_enter Try.func50, Try.ntmps50
  go_wp2
  go_ret
  simp
theorem r2num_no (x : Int) (w : World) (h : ¬ Num x) :
    Calls Try.prog 50 #[.int .i64 x] w fun e w' => e = .returned (.bool false) ∧ w = w' := by
  by_cases h1 : -2147483648 < x
  · have h2 : ¬ x < 2147483648 := fun h2 => h ⟨h1, h2⟩
    clear h
    go_enter Try.func50, Try.ntmps50
    go_wp2
    go_ret
    simp
  · clear h
    go_enter Try.func50, Try.ntmps50
    go_wp2
    go_ret
    exact ⟨rfl, rfl⟩

theorem r2entire (w : World) :
    Calls Try.prog 75 #[] w fun e w' => e = .returned (.agg #[.int .i64 (-2147483648), .int .i64 2147483648]) ∧ Below w.heap.size w w' := by
  go_enter Try.func75, Try.ntmps75
  go_wp2
  refine bodyPost_ret (v := .agg #[.int .i64 (-2147483648), .int .i64 2147483648]) (by simp [results, Try.results75, go_sem]) rfl ⟨rfl, ?_⟩
  go_grown

theorem r2ent_yes (w : World) :
    Calls Try.prog 46 #[.agg #[.int .i64 (-2147483648), .int .i64 2147483648]] w fun e w' => e = .returned (.bool true) ∧ Below w.heap.size w w' := by
  go_enter Try.func46, Try.ntmps46
  go_wp2
  go_ret
  refine ⟨rfl, ?_⟩
  go_grown
theorem r2ent_no (lo hi : Int) (w : World) (h : ¬ Ent lo hi) :
    Calls Try.prog 46 #[.agg #[.int .i64 lo, .int .i64 hi]] w fun e w' => e = .returned (.bool false) ∧ Below w.heap.size w w' := by
  by_cases h1 : lo = -2147483648
  · have h2 : (hi == 2147483648) = false := by rw [beq_eq_false_iff_ne]; exact fun h2 => h ⟨h1, h2⟩
    subst h1
    clear h
    go_enter Try.func46, Try.ntmps46
    go_wp2
    go_ret
    refine ⟨rfl, ?_⟩
    go_grown
  · have h2 : (lo == -2147483648) = false := by rw [beq_eq_false_iff_ne]; exact h1
    clear h h1
    go_enter Try.func46, Try.ntmps46
    go_wp2
    go_ret
    refine ⟨rfl, ?_⟩
    go_grown

theorem r2new (lo hi : Int) (w : World) :
    Calls Try.prog 69 #[.int .i64 lo, .int .i64 hi] w fun e w' => e = .returned (.agg #[.int .i64 (mkLo lo hi), .int .i64 (mkHi lo hi)]) ∧ Below w.heap.size w w' := by
  by_cases h1 : Num lo
  · by_cases h2 : Num hi
    · have e1 : mkLo lo hi = lo := by unfold mkLo; rw [if_pos ⟨h1, h2⟩]
      have e2 : mkHi lo hi = hi := by unfold mkHi; rw [if_pos ⟨h1, h2⟩]
      rw [e1, e2]
      have c1 := fun w => r2num_yes lo w h1
      have c2 := fun w => r2num_yes hi w h2
      clear h1 h2 e1 e2
      go_enter Try.func69, Try.ntmps69
      go_wp2_with (fail)
      refine (c1 _).mono ?_
      rintro e1 w1 ⟨rfl, rfl⟩
      go_wp2_with (fail)
      refine (c2 _).mono ?_
      rintro e2 w2 ⟨rfl, rfl⟩
      go_wp2_with (fail)
      refine bodyPost_ret (v := .agg #[.int .i64 lo, .int .i64 hi]) (by simp [results, Try.results69, go_sem]) rfl ⟨rfl, ?_⟩
      go_grown
    · have e1 : mkLo lo hi = -2147483648 := by unfold mkLo; rw [if_neg (fun h => h2 h.2)]
      have e2 : mkHi lo hi = 2147483648 := by unfold mkHi; rw [if_neg (fun h => h2 h.2)]
      rw [e1, e2]
      have c1 := fun w => r2num_yes lo w h1
      have c2 := fun w => r2num_no hi w h2
      clear h1 h2 e1 e2
      go_enter Try.func69, Try.ntmps69
      go_wp2_with (fail)
      refine (c1 _).mono ?_
      rintro e1 w1 ⟨rfl, rfl⟩
      go_wp2_with (fail)
      refine (c2 _).mono ?_
      rintro e2 w2 ⟨rfl, rfl⟩
      go_wp2_with (fail)
      refine (r2entire _).mono ?_
      rintro e3 w3 ⟨rfl, hB⟩
      have hc := hB.cell (p := ⟨w.heap.size, 0, none⟩) (by simp)
      have hc2 := hB.cell (p := ⟨w.heap.size, 1, none⟩) (by simp)
      have hf := hB.frozen (p := ⟨w.heap.size, 0, none⟩) (by simp)
      have hf2 := hB.frozen (p := ⟨w.heap.size, 1, none⟩) (by simp)
      have hz := hB.size
      go_wp2_with (fail)
      refine bodyPost_ret (v := .agg #[.int .i64 (-2147483648), .int .i64 2147483648]) (by simp [results, Try.results69, go_sem, hc, hc2]) rfl ⟨rfl, ?_⟩
      have hB' := below_then ((Below.refl w.heap.size w).alloc (Nat.le_refl _) _) hB
      go_grown
  · have e1 : mkLo lo hi = -2147483648 := by unfold mkLo; rw [if_neg (fun h => h1 h.1)]
    have e2 : mkHi lo hi = 2147483648 := by unfold mkHi; rw [if_neg (fun h => h1 h.1)]
    rw [e1, e2]
    have c1 := fun w => r2num_no lo w h1
    clear h1 e1 e2
    go_enter Try.func69, Try.ntmps69
    go_wp2_with (fail)
    refine (c1 _).mono ?_
    rintro e1 w1 ⟨rfl, rfl⟩
    go_wp2_with (fail)
    refine (r2entire _).mono ?_
    rintro e3 w3 ⟨rfl, hB⟩
    have hc := hB.cell (p := ⟨w.heap.size, 0, none⟩) (by simp)
    have hc2 := hB.cell (p := ⟨w.heap.size, 1, none⟩) (by simp)
    have hf := hB.frozen (p := ⟨w.heap.size, 0, none⟩) (by simp)
    have hf2 := hB.frozen (p := ⟨w.heap.size, 1, none⟩) (by simp)
    have hz := hB.size
    go_wp2_with (fail)
    refine bodyPost_ret (v := .agg #[.int .i64 (-2147483648), .int .i64 2147483648]) (by simp [results, Try.results69, go_sem, hc, hc2]) rfl ⟨rfl, ?_⟩
    have hB' := below_then ((Below.refl w.heap.size w).alloc (Nat.le_refl _) _) hB
    go_grown
end Go.Proofs.Ythejcoidgmaidaa

namespace Go.Proofs.Ythejcoidgmaidaa
open Go.ChangeShapes Go.WideShapes Go.ChangeAt Go.RowKit
set_option linter.unusedVariables false



theorem r2subset_0 (a b c d : Int) (w : World) (h1 : c ≤ a) (h2 : decide (b ≤ d) = true) :
    Calls Try.prog 56 #[.agg #[.int .i64 a, .int .i64 b], .agg #[.int .i64 c, .int .i64 d]] w fun e w' => e = .returned (.bool true) ∧ Below w.heap.size w w' := by
  go_enter Try.func56, Try.ntmps56
  go_wp2_with (fail)
  go_ret
  refine ⟨by first | rfl | (simp; omega), ?_⟩
  go_grown

theorem r2subset_1 (a b c d : Int) (w : World) (h1 : c ≤ a) (h2 : decide (b ≤ d) = false) :
    Calls Try.prog 56 #[.agg #[.int .i64 a, .int .i64 b], .agg #[.int .i64 c, .int .i64 d]] w fun e w' => e = .returned (.bool false) ∧ Below w.heap.size w w' := by
  go_enter Try.func56, Try.ntmps56
  go_wp2_with (fail)
  go_ret
  refine ⟨by first | rfl | (simp; omega), ?_⟩
  go_grown

theorem r2subset_2 (a b c d : Int) (w : World) (h1 : a < c) :
    Calls Try.prog 56 #[.agg #[.int .i64 a, .int .i64 b], .agg #[.int .i64 c, .int .i64 d]] w fun e w' => e = .returned (.bool false) ∧ Below w.heap.size w w' := by
  go_enter Try.func56, Try.ntmps56
  go_wp2_with (fail)
  go_ret
  refine ⟨by first | rfl | (simp; omega), ?_⟩
  go_grown




theorem r2hull_00 (a b c d : Int) (w : World) (h1 : a < c) (h2 : b < d) :
    Calls Try.prog 34 #[.agg #[.int .i64 a, .int .i64 b], .agg #[.int .i64 c, .int .i64 d]] w fun e w' => e = .returned (.agg #[.int .i64 a, .int .i64 d]) ∧ Below w.heap.size w w' := by
  go_enter Try.func34, Try.ntmps34
  go_wp2_with (fail)
  refine bodyPost_ret (v := .agg #[.int .i64 a, .int .i64 d]) (by simp [results, Try.results34, go_sem]) rfl ⟨rfl, ?_⟩
  go_grown

theorem r2hull_01 (a b c d : Int) (w : World) (h1 : a < c) (h2 : b = d) :
    Calls Try.prog 34 #[.agg #[.int .i64 a, .int .i64 b], .agg #[.int .i64 c, .int .i64 d]] w fun e w' => e = .returned (.agg #[.int .i64 a, .int .i64 b]) ∧ Below w.heap.size w w' := by
  subst h2
  go_enter Try.func34, Try.ntmps34
  go_wp2_with (fail)
  refine bodyPost_ret (v := .agg #[.int .i64 a, .int .i64 b]) (by simp [results, Try.results34, go_sem]) rfl ⟨rfl, ?_⟩
  go_grown

theorem r2hull_02 (a b c d : Int) (w : World) (h1 : a < c) (h2 : d < b) :
    Calls Try.prog 34 #[.agg #[.int .i64 a, .int .i64 b], .agg #[.int .i64 c, .int .i64 d]] w fun e w' => e = .returned (.agg #[.int .i64 a, .int .i64 b]) ∧ Below w.heap.size w w' := by
  go_enter Try.func34, Try.ntmps34
  go_wp2_with (fail)
  refine bodyPost_ret (v := .agg #[.int .i64 a, .int .i64 b]) (by simp [results, Try.results34, go_sem]) rfl ⟨rfl, ?_⟩
  go_grown

theorem r2hull_10 (a b c d : Int) (w : World) (h1 : a = c) (h2 : b < d) :
    Calls Try.prog 34 #[.agg #[.int .i64 a, .int .i64 b], .agg #[.int .i64 c, .int .i64 d]] w fun e w' => e = .returned (.agg #[.int .i64 a, .int .i64 d]) ∧ Below w.heap.size w w' := by
  subst h1
  go_enter Try.func34, Try.ntmps34
  go_wp2_with (fail)
  refine bodyPost_ret (v := .agg #[.int .i64 a, .int .i64 d]) (by simp [results, Try.results34, go_sem]) rfl ⟨rfl, ?_⟩
  go_grown

theorem r2hull_11 (a b c d : Int) (w : World) (h1 : a = c) (h2 : b = d) :
    Calls Try.prog 34 #[.agg #[.int .i64 a, .int .i64 b], .agg #[.int .i64 c, .int .i64 d]] w fun e w' => e = .returned (.agg #[.int .i64 a, .int .i64 b]) ∧ Below w.heap.size w w' := by
  subst h1
  subst h2
  go_enter Try.func34, Try.ntmps34
  go_wp2_with (fail)
  refine bodyPost_ret (v := .agg #[.int .i64 a, .int .i64 b]) (by simp [results, Try.results34, go_sem]) rfl ⟨rfl, ?_⟩
  go_grown

theorem r2hull_12 (a b c d : Int) (w : World) (h1 : a = c) (h2 : d < b) :
    Calls Try.prog 34 #[.agg #[.int .i64 a, .int .i64 b], .agg #[.int .i64 c, .int .i64 d]] w fun e w' => e = .returned (.agg #[.int .i64 a, .int .i64 b]) ∧ Below w.heap.size w w' := by
  subst h1
  go_enter Try.func34, Try.ntmps34
  go_wp2_with (fail)
  refine bodyPost_ret (v := .agg #[.int .i64 a, .int .i64 b]) (by simp [results, Try.results34, go_sem]) rfl ⟨rfl, ?_⟩
  go_grown

theorem r2hull_20 (a b c d : Int) (w : World) (h1 : c < a) (h2 : b < d) :
    Calls Try.prog 34 #[.agg #[.int .i64 a, .int .i64 b], .agg #[.int .i64 c, .int .i64 d]] w fun e w' => e = .returned (.agg #[.int .i64 c, .int .i64 d]) ∧ Below w.heap.size w w' := by
  go_enter Try.func34, Try.ntmps34
  go_wp2_with (fail)
  refine bodyPost_ret (v := .agg #[.int .i64 c, .int .i64 d]) (by simp [results, Try.results34, go_sem]) rfl ⟨rfl, ?_⟩
  go_grown

theorem r2hull_21 (a b c d : Int) (w : World) (h1 : c < a) (h2 : b = d) :
    Calls Try.prog 34 #[.agg #[.int .i64 a, .int .i64 b], .agg #[.int .i64 c, .int .i64 d]] w fun e w' => e = .returned (.agg #[.int .i64 c, .int .i64 b]) ∧ Below w.heap.size w w' := by
  subst h2
  go_enter Try.func34, Try.ntmps34
  go_wp2_with (fail)
  refine bodyPost_ret (v := .agg #[.int .i64 c, .int .i64 b]) (by simp [results, Try.results34, go_sem]) rfl ⟨rfl, ?_⟩
  go_grown

theorem r2hull_22 (a b c d : Int) (w : World) (h1 : c < a) (h2 : d < b) :
    Calls Try.prog 34 #[.agg #[.int .i64 a, .int .i64 b], .agg #[.int .i64 c, .int .i64 d]] w fun e w' => e = .returned (.agg #[.int .i64 c, .int .i64 b]) ∧ Below w.heap.size w w' := by
  go_enter Try.func34, Try.ntmps34
  go_wp2_with (fail)
  refine bodyPost_ret (v := .agg #[.int .i64 c, .int .i64 b]) (by simp [results, Try.results34, go_sem]) rfl ⟨rfl, ?_⟩
  go_grown

theorem r2hull (a b c d : Int) (w : World) :
    Calls Try.prog 34 #[.agg #[.int .i64 a, .int .i64 b], .agg #[.int .i64 c, .int .i64 d]] w fun e w' => e = .returned (.agg #[.int .i64 (min a c), .int .i64 (max b d)]) ∧ Below w.heap.size w w' := by
  rcases Int.lt_trichotomy a c with h1 | h1 | h1 <;> rcases Int.lt_trichotomy b d with h2 | h2 | h2
  · have e1 : min a c = a := by omega
    have e2 : max b d = d := by omega
    rw [e1, e2]
    exact r2hull_00 a b c d w (by omega) (by omega)
  · have e1 : min a c = a := by omega
    have e2 : max b d = b := by omega
    rw [e1, e2]
    exact r2hull_01 a b c d w (by omega) (by omega)
  · have e1 : min a c = a := by omega
    have e2 : max b d = b := by omega
    rw [e1, e2]
    exact r2hull_02 a b c d w (by omega) (by omega)
  · have e1 : min a c = a := by omega
    have e2 : max b d = d := by omega
    rw [e1, e2]
    exact r2hull_10 a b c d w (by omega) (by omega)
  · have e1 : min a c = a := by omega
    have e2 : max b d = b := by omega
    rw [e1, e2]
    exact r2hull_11 a b c d w (by omega) (by omega)
  · have e1 : min a c = a := by omega
    have e2 : max b d = b := by omega
    rw [e1, e2]
    exact r2hull_12 a b c d w (by omega) (by omega)
  · have e1 : min a c = c := by omega
    have e2 : max b d = d := by omega
    rw [e1, e2]
    exact r2hull_20 a b c d w (by omega) (by omega)
  · have e1 : min a c = c := by omega
    have e2 : max b d = b := by omega
    rw [e1, e2]
    exact r2hull_21 a b c d w (by omega) (by omega)
  · have e1 : min a c = c := by omega
    have e2 : max b d = b := by omega
    rw [e1, e2]
    exact r2hull_22 a b c d w (by omega) (by omega)
end Go.Proofs.Ythejcoidgmaidaa

namespace Go.Proofs.Ythejcoidgmaidaa
open Go.ChangeShapes Go.WideShapes Go.ChangeAt Go.RowKit
set_option linter.unusedVariables false

theorem tmod_sign {n d : Int} (h : ¬ n.tmod d = 0) : (n.tmod d < 0 ↔ n < 0) := by
  rcases Int.lt_or_le n 0 with hn | hn
  · have := Int.tmod_nonneg (a := -n) d (by omega)
    rw [Int.neg_tmod] at this
    constructor <;> omega
  · have := Int.tmod_nonneg (a := n) d hn
    constructor <;> omega

theorem r2floor (a b : Int) (w : World) (h1 : -4611686018427387904 ≤ a) (h2 : a ≤ 4611686018427387904) (hb : ¬ b = 0) :
    Calls Try.prog 76 #[.int .i64 a, .int .i64 b] w fun e w' => e = .returned (.int .i64 (dn a b)) ∧ w = w' := by
  have tb := tdiv_bound a b 4611686018427387904 h1 h2
  by_cases hr : a.tmod b = 0
  · have hd := Lib.hid (exact_any hb hr).1
    have hr' : (a.tmod b != 0) = false := by simpa using hr
    clear hr
    go_enter Try.func76, Try.ntmps76
    go_wp2
    go_ret
    exact ⟨ret_int hd.out.symm, rfl⟩
  have hs := tmod_sign hr
  have hr' : (a.tmod b != 0) = true := by simpa using hr
  by_cases ha : a < 0
  all_goals by_cases hb2 : b < 0
  · have hd := Lib.hid (above_any (n := a) (d := b) (by omega)).1
    clear hr hs
    go_enter Try.func76, Try.ntmps76
    go_wp2
    go_ret
    exact ⟨ret_int hd.out.symm, rfl⟩
  · have hd := Lib.hid (below_any (n := a) (d := b) (by omega)).1
    clear hr hs
    go_enter Try.func76, Try.ntmps76
    go_wp2
    go_ret
    exact ⟨ret_int hd.out.symm, rfl⟩
  · have hd := Lib.hid (below_any (n := a) (d := b) (by omega)).1
    have hr2 : (a % b != 0) = true := by rw [Int.tmod_eq_emod_of_nonneg (by omega)] at hr'; exact hr'
    clear hr hs
    go_enter Try.func76, Try.ntmps76
    go_wp2
    go_ret
    exact ⟨ret_int hd.out.symm, rfl⟩
  · have hd := Lib.hid (above_any (n := a) (d := b) (by omega)).1
    have hr2 : (a % b != 0) = true := by rw [Int.tmod_eq_emod_of_nonneg (by omega)] at hr'; exact hr'
    clear hr hs
    go_enter Try.func76, Try.ntmps76
    go_wp2
    go_ret
    exact ⟨ret_int hd.out.symm, rfl⟩


theorem r2ceil (a b : Int) (w : World) (h1 : -4611686018427387904 ≤ a) (h2 : a ≤ 4611686018427387904) (hb : ¬ b = 0) (hr : -9223372036854775807 ≤ dn (-a) b ∧ dn (-a) b ≤ 9223372036854775807) :
    Calls Try.prog 77 #[.int .i64 a, .int .i64 b] w fun e w' => e = .returned (.int .i64 (up a b)) ∧ w = w' := by
  have c := fun w => r2floor (-a) b w (by omega) (by omega) hb
  have e : up a b = -dn (-a) b := rfl
  rw [e]
  clear e hb
  generalize dn (-a) b = q at *
  go_enter Try.func77, Try.ntmps77
  go_wp2_with (fail)
  refine (c _).mono ?_
  rintro e1 w1 ⟨rfl, rfl⟩
  go_wp2_with (fail)
  go_ret
  exact ⟨rfl, rfl⟩


/-- The sum of two intervals. -/
def addLo (a b c d : Int) : Int := if Ent a b ∨ Ent c d then -2147483648 else mkLo (a + c) (b + d)
def addHi (a b c d : Int) : Int := if Ent a b ∨ Ent c d then 2147483648 else mkHi (a + c) (b + d)




end Go.Proofs.Ythejcoidgmaidaa
