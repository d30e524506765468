/-
  Contracts of package armillaryref02: the small functions.
  Contracts of package armillaryref02: functions of one interval or two that call nothing.
  Contracts of package armillaryref02: Floor, Ceil, Mid, Add, Sub.
-/
import Derived.Test.YtecmgiihacigaaaKit
import Derived.Test.YtecmgiihacigaaaMath
namespace Go.Proofs.Ytecmgiihacigaaa
open Go.ChangeShapes Go.WideShapes Go.ChangeAt Go.RowKit
set_option linter.unusedVariables false

/-- A number; the entire interval; a valid interval; the interval that New makes. -/
def Num (x : Int) : Prop := -2147483648 < x ∧ x < 2147483648
instance (x : Int) : Decidable (Num x) := inferInstanceAs (Decidable (_ ∧ _))
def Ent (lo hi : Int) : Prop := lo = -2147483648 ∧ hi = 2147483648
instance (lo hi : Int) : Decidable (Ent lo hi) := inferInstanceAs (Decidable (_ ∧ _))
def VI (lo hi : Int) : Prop := Ent lo hi ∨ (Num lo ∧ Num hi ∧ lo ≤ hi)
instance (lo hi : Int) : Decidable (VI lo hi) := inferInstanceAs (Decidable (_ ∨ _))
def mkLo (lo hi : Int) : Int := if Num lo ∧ Num hi then lo else -2147483648
def mkHi (lo hi : Int) : Int := if Num lo ∧ Num hi then hi else 2147483648

theorem r2num_yes (x : Int) (w : World) (h : Num x) :
    Calls Try.prog 53 #[.int .i64 x] w fun e w' => e = .returned (.bool true) ∧ w = w' := by
  obtain ⟨h1, h2⟩ := h
  go_enter Try.func53, Try.ntmps53
  go_wp2
  go_ret
  simp
theorem r2num_no (x : Int) (w : World) (h : ¬ Num x) :
    Calls Try.prog 53 #[.int .i64 x] w fun e w' => e = .returned (.bool false) ∧ w = w' := by
  by_cases h1 : -2147483648 < x
  · have h2 : ¬ x < 2147483648 := fun h2 => h ⟨h1, h2⟩
    clear h
    go_enter Try.func53, Try.ntmps53
    go_wp2
    go_ret
    simp
  · clear h
    go_enter Try.func53, Try.ntmps53
    go_wp2
    go_ret
    exact ⟨rfl, rfl⟩

theorem r2entire (w : World) :
    Calls Try.prog 54 #[] w fun e w' => e = .returned (.agg #[.int .i64 (-2147483648), .int .i64 2147483648]) ∧ Below w.heap.size w w' := by
  go_enter Try.func54, Try.ntmps54
  go_wp2
  refine bodyPost_ret (v := .agg #[.int .i64 (-2147483648), .int .i64 2147483648]) (by simp [results, Try.results54, go_sem]) rfl ⟨rfl, ?_⟩
  go_grown

theorem r2ent_yes (w : World) :
    Calls Try.prog 55 #[.agg #[.int .i64 (-2147483648), .int .i64 2147483648]] w fun e w' => e = .returned (.bool true) ∧ Below w.heap.size w w' := by
  go_enter Try.func55, Try.ntmps55
  go_wp2
  go_ret
  refine ⟨rfl, ?_⟩
  go_grown
theorem r2ent_no (lo hi : Int) (w : World) (h : ¬ Ent lo hi) :
    Calls Try.prog 55 #[.agg #[.int .i64 lo, .int .i64 hi]] w fun e w' => e = .returned (.bool false) ∧ Below w.heap.size w w' := by
  by_cases h1 : lo = -2147483648
  · have h2 : (hi == 2147483648) = false := by rw [beq_eq_false_iff_ne]; exact fun h2 => h ⟨h1, h2⟩
    subst h1
    clear h
    go_enter Try.func55, Try.ntmps55
    go_wp2
    go_ret
    refine ⟨rfl, ?_⟩
    go_grown
  · have h2 : (lo == -2147483648) = false := by rw [beq_eq_false_iff_ne]; exact h1
    clear h h1
    go_enter Try.func55, Try.ntmps55
    go_wp2
    go_ret
    refine ⟨rfl, ?_⟩
    go_grown

theorem r2new (lo hi : Int) (w : World) :
    Calls Try.prog 27 #[.int .i64 lo, .int .i64 hi] w fun e w' => e = .returned (.agg #[.int .i64 (mkLo lo hi), .int .i64 (mkHi lo hi)]) ∧ Below w.heap.size w w' := by
  by_cases h1 : Num lo
  · by_cases h2 : Num hi
    · have e1 : mkLo lo hi = lo := by unfold mkLo; rw [if_pos ⟨h1, h2⟩]
      have e2 : mkHi lo hi = hi := by unfold mkHi; rw [if_pos ⟨h1, h2⟩]
      rw [e1, e2]
      have c1 := fun w => r2num_yes lo w h1
      have c2 := fun w => r2num_yes hi w h2
      clear h1 h2 e1 e2
      go_enter Try.func27, Try.ntmps27
      go_wp2_with (fail)
      refine (c1 _).mono ?_
      rintro e1 w1 ⟨rfl, rfl⟩
      go_wp2_with (fail)
      refine (c2 _).mono ?_
      rintro e2 w2 ⟨rfl, rfl⟩
      go_wp2_with (fail)
      refine bodyPost_ret (v := .agg #[.int .i64 lo, .int .i64 hi]) (by simp [results, Try.results27, go_sem]) rfl ⟨rfl, ?_⟩
      go_grown
    · have e1 : mkLo lo hi = -2147483648 := by unfold mkLo; rw [if_neg (fun h => h2 h.2)]
      have e2 : mkHi lo hi = 2147483648 := by unfold mkHi; rw [if_neg (fun h => h2 h.2)]
      rw [e1, e2]
      have c1 := fun w => r2num_yes lo w h1
      have c2 := fun w => r2num_no hi w h2
      clear h1 h2 e1 e2
      go_enter Try.func27, Try.ntmps27
      go_wp2_with (fail)
      refine (c1 _).mono ?_
      rintro e1 w1 ⟨rfl, rfl⟩
      go_wp2_with (fail)
      refine (c2 _).mono ?_
      rintro e2 w2 ⟨rfl, rfl⟩
      go_wp2_with (fail)
      refine (r2entire _).mono ?_
      rintro e3 w3 ⟨rfl, hB⟩
      have hc := hB.cell (p := ⟨w.heap.size, 0, none⟩) (by simp)
      have hc2 := hB.cell (p := ⟨w.heap.size, 1, none⟩) (by simp)
      have hf := hB.frozen (p := ⟨w.heap.size, 0, none⟩) (by simp)
      have hf2 := hB.frozen (p := ⟨w.heap.size, 1, none⟩) (by simp)
      have hz := hB.size
      go_wp2_with (fail)
      refine bodyPost_ret (v := .agg #[.int .i64 (-2147483648), .int .i64 2147483648]) (by simp [results, Try.results27, go_sem, hc, hc2]) rfl ⟨rfl, ?_⟩
      have hB' := below_then ((Below.refl w.heap.size w).alloc (Nat.le_refl _) _) hB
      go_grown
  · have e1 : mkLo lo hi = -2147483648 := by unfold mkLo; rw [if_neg (fun h => h1 h.1)]
    have e2 : mkHi lo hi = 2147483648 := by unfold mkHi; rw [if_neg (fun h => h1 h.1)]
    rw [e1, e2]
    have c1 := fun w => r2num_no lo w h1
    clear h1 e1 e2
    go_enter Try.func27, Try.ntmps27
    go_wp2_with (fail)
    refine (c1 _).mono ?_
    rintro e1 w1 ⟨rfl, rfl⟩
    go_wp2_with (fail)
    refine (r2entire _).mono ?_
    rintro e3 w3 ⟨rfl, hB⟩
    have hc := hB.cell (p := ⟨w.heap.size, 0, none⟩) (by simp)
    have hc2 := hB.cell (p := ⟨w.heap.size, 1, none⟩) (by simp)
    have hf := hB.frozen (p := ⟨w.heap.size, 0, none⟩) (by simp)
    have hf2 := hB.frozen (p := ⟨w.heap.size, 1, none⟩) (by simp)
    have hz := hB.size
    go_wp2_with (fail)
    refine bodyPost_ret (v := .agg #[.int .i64 (-2147483648), .int .i64 2147483648]) (by simp [results, Try.results27, go_sem, hc, hc2]) rfl ⟨rfl, ?_⟩
    have hB' := below_then ((Below.refl w.heap.size w).alloc (Nat.le_refl _) _) hB
    go_grown
end Go.Proofs.Ytecmgiihacigaaa

namespace Go.Proofs.Ytecmgiihacigaaa
open Go.ChangeShapes Go.WideShapes Go.ChangeAt Go.RowKit
set_option linter.unusedVariables false

theorem r2neg (a b : Int) (w : World) (ha1 : -2147483648 ≤ a) (ha2 : a ≤ 2147483648) (hb1 : -2147483648 ≤ b) (hb2 : b ≤ 2147483648) :
    Calls Try.prog 95 #[.agg #[.int .i64 a, .int .i64 b]] w fun e w' => e = .returned (.agg #[.int .i64 (-b), .int .i64 (-a)]) ∧ Below w.heap.size w w' := by
  go_enter Try.func95, Try.ntmps95
  go_wp2_with (fail)
  refine bodyPost_ret (v := .agg #[.int .i64 (-b), .int .i64 (-a)]) (by simp [results, Try.results95, go_sem]) rfl ⟨rfl, ?_⟩
  go_grown

theorem r2width (a b : Int) (w : World) (ha1 : -2147483648 ≤ a) (ha2 : a ≤ 2147483648) (hb1 : -2147483648 ≤ b) (hb2 : b ≤ 2147483648) :
    Calls Try.prog 67 #[.agg #[.int .i64 a, .int .i64 b]] w fun e w' => e = .returned (.int .i64 (b - a)) ∧ Below w.heap.size w w' := by
  go_enter Try.func67, Try.ntmps67
  go_wp2_with (fail)
  go_ret
  refine ⟨rfl, ?_⟩
  go_grown

theorem r2subset_0 (a b c d : Int) (w : World) (h1 : c ≤ a) (h2 : decide (b ≤ d) = true) :
    Calls Try.prog 30 #[.agg #[.int .i64 a, .int .i64 b], .agg #[.int .i64 c, .int .i64 d]] w fun e w' => e = .returned (.bool true) ∧ Below w.heap.size w w' := by
  go_enter Try.func30, Try.ntmps30
  go_wp2_with (fail)
  go_ret
  refine ⟨by first | rfl | (simp; omega), ?_⟩
  go_grown

theorem r2subset_1 (a b c d : Int) (w : World) (h1 : c ≤ a) (h2 : decide (b ≤ d) = false) :
    Calls Try.prog 30 #[.agg #[.int .i64 a, .int .i64 b], .agg #[.int .i64 c, .int .i64 d]] w fun e w' => e = .returned (.bool false) ∧ Below w.heap.size w w' := by
  go_enter Try.func30, Try.ntmps30
  go_wp2_with (fail)
  go_ret
  refine ⟨by first | rfl | (simp; omega), ?_⟩
  go_grown

theorem r2subset_2 (a b c d : Int) (w : World) (h1 : a < c) :
    Calls Try.prog 30 #[.agg #[.int .i64 a, .int .i64 b], .agg #[.int .i64 c, .int .i64 d]] w fun e w' => e = .returned (.bool false) ∧ Below w.heap.size w w' := by
  go_enter Try.func30, Try.ntmps30
  go_wp2_with (fail)
  go_ret
  refine ⟨by first | rfl | (simp; omega), ?_⟩
  go_grown

theorem r2same_0 (a b c d : Int) (w : World) (h1 : (a == c) = true) (h2 : (b == d) = true) :
    Calls Try.prog 42 #[.agg #[.int .i64 a, .int .i64 b], .agg #[.int .i64 c, .int .i64 d]] w fun e w' => e = .returned (.bool true) ∧ Below w.heap.size w w' := by
  go_enter Try.func42, Try.ntmps42
  go_wp2_with (fail)
  go_ret
  refine ⟨by first | rfl | (simp; omega), ?_⟩
  go_grown

theorem r2same_1 (a b c d : Int) (w : World) (h1 : (a == c) = true) (h2 : (b == d) = false) :
    Calls Try.prog 42 #[.agg #[.int .i64 a, .int .i64 b], .agg #[.int .i64 c, .int .i64 d]] w fun e w' => e = .returned (.bool false) ∧ Below w.heap.size w w' := by
  go_enter Try.func42, Try.ntmps42
  go_wp2_with (fail)
  go_ret
  refine ⟨by first | rfl | (simp; omega), ?_⟩
  go_grown

theorem r2same_2 (a b c d : Int) (w : World) (h1 : (a == c) = false) :
    Calls Try.prog 42 #[.agg #[.int .i64 a, .int .i64 b], .agg #[.int .i64 c, .int .i64 d]] w fun e w' => e = .returned (.bool false) ∧ Below w.heap.size w w' := by
  go_enter Try.func42, Try.ntmps42
  go_wp2_with (fail)
  go_ret
  refine ⟨by first | rfl | (simp; omega), ?_⟩
  go_grown

theorem r2hull_00 (a b c d : Int) (w : World) (h1 : a < c) (h2 : b < d) :
    Calls Try.prog 66 #[.agg #[.int .i64 a, .int .i64 b], .agg #[.int .i64 c, .int .i64 d]] w fun e w' => e = .returned (.agg #[.int .i64 a, .int .i64 d]) ∧ Below w.heap.size w w' := by
  go_enter Try.func66, Try.ntmps66
  go_wp2_with (fail)
  refine bodyPost_ret (v := .agg #[.int .i64 a, .int .i64 d]) (by simp [results, Try.results66, go_sem]) rfl ⟨rfl, ?_⟩
  go_grown

theorem r2hull_01 (a b c d : Int) (w : World) (h1 : a < c) (h2 : b = d) :
    Calls Try.prog 66 #[.agg #[.int .i64 a, .int .i64 b], .agg #[.int .i64 c, .int .i64 d]] w fun e w' => e = .returned (.agg #[.int .i64 a, .int .i64 b]) ∧ Below w.heap.size w w' := by
  subst h2
  go_enter Try.func66, Try.ntmps66
  go_wp2_with (fail)
  refine bodyPost_ret (v := .agg #[.int .i64 a, .int .i64 b]) (by simp [results, Try.results66, go_sem]) rfl ⟨rfl, ?_⟩
  go_grown

theorem r2hull_02 (a b c d : Int) (w : World) (h1 : a < c) (h2 : d < b) :
    Calls Try.prog 66 #[.agg #[.int .i64 a, .int .i64 b], .agg #[.int .i64 c, .int .i64 d]] w fun e w' => e = .returned (.agg #[.int .i64 a, .int .i64 b]) ∧ Below w.heap.size w w' := by
  go_enter Try.func66, Try.ntmps66
  go_wp2_with (fail)
  refine bodyPost_ret (v := .agg #[.int .i64 a, .int .i64 b]) (by simp [results, Try.results66, go_sem]) rfl ⟨rfl, ?_⟩
  go_grown

theorem r2hull_10 (a b c d : Int) (w : World) (h1 : a = c) (h2 : b < d) :
    Calls Try.prog 66 #[.agg #[.int .i64 a, .int .i64 b], .agg #[.int .i64 c, .int .i64 d]] w fun e w' => e = .returned (.agg #[.int .i64 a, .int .i64 d]) ∧ Below w.heap.size w w' := by
  subst h1
  go_enter Try.func66, Try.ntmps66
  go_wp2_with (fail)
  refine bodyPost_ret (v := .agg #[.int .i64 a, .int .i64 d]) (by simp [results, Try.results66, go_sem]) rfl ⟨rfl, ?_⟩
  go_grown

theorem r2hull_11 (a b c d : Int) (w : World) (h1 : a = c) (h2 : b = d) :
    Calls Try.prog 66 #[.agg #[.int .i64 a, .int .i64 b], .agg #[.int .i64 c, .int .i64 d]] w fun e w' => e = .returned (.agg #[.int .i64 a, .int .i64 b]) ∧ Below w.heap.size w w' := by
  subst h1
  subst h2
  go_enter Try.func66, Try.ntmps66
  go_wp2_with (fail)
  refine bodyPost_ret (v := .agg #[.int .i64 a, .int .i64 b]) (by simp [results, Try.results66, go_sem]) rfl ⟨rfl, ?_⟩
  go_grown

theorem r2hull_12 (a b c d : Int) (w : World) (h1 : a = c) (h2 : d < b) :
    Calls Try.prog 66 #[.agg #[.int .i64 a, .int .i64 b], .agg #[.int .i64 c, .int .i64 d]] w fun e w' => e = .returned (.agg #[.int .i64 a, .int .i64 b]) ∧ Below w.heap.size w w' := by
  subst h1
  go_enter Try.func66, Try.ntmps66
  go_wp2_with (fail)
  refine bodyPost_ret (v := .agg #[.int .i64 a, .int .i64 b]) (by simp [results, Try.results66, go_sem]) rfl ⟨rfl, ?_⟩
  go_grown

theorem r2hull_20 (a b c d : Int) (w : World) (h1 : c < a) (h2 : b < d) :
    Calls Try.prog 66 #[.agg #[.int .i64 a, .int .i64 b], .agg #[.int .i64 c, .int .i64 d]] w fun e w' => e = .returned (.agg #[.int .i64 c, .int .i64 d]) ∧ Below w.heap.size w w' := by
  go_enter Try.func66, Try.ntmps66
  go_wp2_with (fail)
  refine bodyPost_ret (v := .agg #[.int .i64 c, .int .i64 d]) (by simp [results, Try.results66, go_sem]) rfl ⟨rfl, ?_⟩
  go_grown

theorem r2hull_21 (a b c d : Int) (w : World) (h1 : c < a) (h2 : b = d) :
    Calls Try.prog 66 #[.agg #[.int .i64 a, .int .i64 b], .agg #[.int .i64 c, .int .i64 d]] w fun e w' => e = .returned (.agg #[.int .i64 c, .int .i64 b]) ∧ Below w.heap.size w w' := by
  subst h2
  go_enter Try.func66, Try.ntmps66
  go_wp2_with (fail)
  refine bodyPost_ret (v := .agg #[.int .i64 c, .int .i64 b]) (by simp [results, Try.results66, go_sem]) rfl ⟨rfl, ?_⟩
  go_grown

theorem r2hull_22 (a b c d : Int) (w : World) (h1 : c < a) (h2 : d < b) :
    Calls Try.prog 66 #[.agg #[.int .i64 a, .int .i64 b], .agg #[.int .i64 c, .int .i64 d]] w fun e w' => e = .returned (.agg #[.int .i64 c, .int .i64 b]) ∧ Below w.heap.size w w' := by
  go_enter Try.func66, Try.ntmps66
  go_wp2_with (fail)
  refine bodyPost_ret (v := .agg #[.int .i64 c, .int .i64 b]) (by simp [results, Try.results66, go_sem]) rfl ⟨rfl, ?_⟩
  go_grown

theorem r2hull (a b c d : Int) (w : World) :
    Calls Try.prog 66 #[.agg #[.int .i64 a, .int .i64 b], .agg #[.int .i64 c, .int .i64 d]] w fun e w' => e = .returned (.agg #[.int .i64 (min a c), .int .i64 (max b d)]) ∧ Below w.heap.size w w' := by
  rcases Int.lt_trichotomy a c with h1 | h1 | h1 <;> rcases Int.lt_trichotomy b d with h2 | h2 | h2
  · have e1 : min a c = a := by omega
    have e2 : max b d = d := by omega
    rw [e1, e2]
    exact r2hull_00 a b c d w (by omega) (by omega)
  · have e1 : min a c = a := by omega
    have e2 : max b d = b := by omega
    rw [e1, e2]
    exact r2hull_01 a b c d w (by omega) (by omega)
  · have e1 : min a c = a := by omega
    have e2 : max b d = b := by omega
    rw [e1, e2]
    exact r2hull_02 a b c d w (by omega) (by omega)
  · have e1 : min a c = a := by omega
    have e2 : max b d = d := by omega
    rw [e1, e2]
    exact r2hull_10 a b c d w (by omega) (by omega)
  · have e1 : min a c = a := by omega
    have e2 : max b d = b := by omega
    rw [e1, e2]
    exact r2hull_11 a b c d w (by omega) (by omega)
  · have e1 : min a c = a := by omega
    have e2 : max b d = b := by omega
    rw [e1, e2]
    exact r2hull_12 a b c d w (by omega) (by omega)
  · have e1 : min a c = c := by omega
    have e2 : max b d = d := by omega
    rw [e1, e2]
    exact r2hull_20 a b c d w (by omega) (by omega)
  · have e1 : min a c = c := by omega
    have e2 : max b d = b := by omega
    rw [e1, e2]
    exact r2hull_21 a b c d w (by omega) (by omega)
  · have e1 : min a c = c := by omega
    have e2 : max b d = b := by omega
    rw [e1, e2]
    exact r2hull_22 a b c d w (by omega) (by omega)
end Go.Proofs.Ytecmgiihacigaaa

namespace Go.Proofs.Ytecmgiihacigaaa
open Go.ChangeShapes Go.WideShapes Go.ChangeAt Go.RowKit
set_option linter.unusedVariables false

theorem tmod_sign {n d : Int} (h : ¬ n.tmod d = 0) : (n.tmod d < 0 ↔ n < 0) := by
  rcases Int.lt_or_le n 0 with hn | hn
  · have := Int.tmod_nonneg (a := -n) d (by omega)
    rw [Int.neg_tmod] at this
    constructor <;> omega
  · have := Int.tmod_nonneg (a := n) d hn
    constructor <;> omega

theorem r2floor (a b : Int) (w : World) (h1 : -4611686018427387904 ≤ a) (h2 : a ≤ 4611686018427387904) (hb : ¬ b = 0) :
    Calls Try.prog 56 #[.int .i64 a, .int .i64 b] w fun e w' => e = .returned (.int .i64 (dn a b)) ∧ w = w' := by
  have tb := tdiv_bound a b 4611686018427387904 h1 h2
  by_cases hr : a.tmod b = 0
  · have hd := Lib.hid (exact_any hb hr).1
    have hr' : (a.tmod b != 0) = false := by simpa using hr
    clear hr
    go_enter Try.func56, Try.ntmps56
    go_wp2
    go_ret
    exact ⟨ret_int hd.out.symm, rfl⟩
  have hs := tmod_sign hr
  have hr' : (a.tmod b != 0) = true := by simpa using hr
  by_cases ha : a < 0
  all_goals by_cases hb2 : b < 0
  · have hd := Lib.hid (above_any (n := a) (d := b) (by omega)).1
    clear hr hs
    go_enter Try.func56, Try.ntmps56
    go_wp2
    go_ret
    exact ⟨ret_int hd.out.symm, rfl⟩
  · have hd := Lib.hid (below_any (n := a) (d := b) (by omega)).1
    clear hr hs
    go_enter Try.func56, Try.ntmps56
    go_wp2
    go_ret
    exact ⟨ret_int hd.out.symm, rfl⟩
  · have hd := Lib.hid (below_any (n := a) (d := b) (by omega)).1
    have hr2 : (a % b != 0) = true := by rw [Int.tmod_eq_emod_of_nonneg (by omega)] at hr'; exact hr'
    clear hr hs
    go_enter Try.func56, Try.ntmps56
    go_wp2
    go_ret
    exact ⟨ret_int hd.out.symm, rfl⟩
  · have hd := Lib.hid (above_any (n := a) (d := b) (by omega)).1
    have hr2 : (a % b != 0) = true := by rw [Int.tmod_eq_emod_of_nonneg (by omega)] at hr'; exact hr'
    clear hr hs
    go_enter Try.func56, Try.ntmps56
    go_wp2
    go_ret
    exact ⟨ret_int hd.out.symm, rfl⟩


theorem r2ceil (a b : Int) (w : World) (h1 : -4611686018427387904 ≤ a) (h2 : a ≤ 4611686018427387904) (hb : ¬ b = 0) (hr : -9223372036854775807 ≤ dn (-a) b ∧ dn (-a) b ≤ 9223372036854775807) :
    Calls Try.prog 57 #[.int .i64 a, .int .i64 b] w fun e w' => e = .returned (.int .i64 (up a b)) ∧ w = w' := by
  have c := fun w => r2floor (-a) b w (by omega) (by omega) hb
  have e : up a b = -dn (-a) b := rfl
  rw [e]
  clear e hb
  generalize dn (-a) b = q at *
  go_enter Try.func57, Try.ntmps57
  go_wp2_with (fail)
  refine (c _).mono ?_
  rintro e1 w1 ⟨rfl, rfl⟩
  go_wp2_with (fail)
  go_ret
  exact ⟨rfl, rfl⟩

/-- The sum of two intervals. -/
def addLo (a b c d : Int) : Int := if Ent a b ∨ Ent c d then -2147483648 else mkLo (a + c) (b + d)
def addHi (a b c d : Int) : Int := if Ent a b ∨ Ent c d then 2147483648 else mkHi (a + c) (b + d)

set_option maxHeartbeats 1000000 in
theorem r2add_0 (a b c d : Int) (w : World) (ha1 : -2147483648 ≤ a) (ha2 : a ≤ 2147483648) (hb1 : -2147483648 ≤ b) (hb2 : b ≤ 2147483648) (hc1 : -2147483648 ≤ c) (hc2 : c ≤ 2147483648) (hd1 : -2147483648 ≤ d) (hd2 : d ≤ 2147483648) (h1 : Ent a b) :
    Calls Try.prog 31 #[.agg #[.int .i64 a, .int .i64 b], .agg #[.int .i64 c, .int .i64 d]] w fun e w' => e = .returned (.agg #[.int .i64 (-2147483648), .int .i64 2147483648]) ∧ Below w.heap.size w w' := by
  obtain ⟨rfl, rfl⟩ := h1
  go_enter Try.func31, Try.ntmps31
  go_wp2_with (fail)
  refine (r2ent_yes _).mono ?_
  rintro e1 w1 ⟨rfl, hB1⟩
  obtain ⟨kc1, kf1⟩ := bcell hB1
  have hz1 := hB1.size
  simp only [World.size_alloc] at hz1
  have hs10 : w.heap.size < w1.heap.size := by omega
  have hs11 : w.heap.size + 1 < w1.heap.size := by omega
  have hs12 : w.heap.size + 1 + 1 < w1.heap.size := by omega
  go_wp2_with (fail)
  refine (r2entire _).mono ?_
  rintro e2 w2 ⟨rfl, hB2⟩
  obtain ⟨kc2, kf2⟩ := bcell hB2
  have hz2 := hB2.size
  have hs20 : w.heap.size < w2.heap.size := by omega
  have hs21 : w.heap.size + 1 < w2.heap.size := by omega
  have hs22 : w.heap.size + 1 + 1 < w2.heap.size := by omega
  go_wp2_with (fail)
  have hB : Below w.heap.size w w2 := below_then (below_then ((((Below.refl _ _).alloc (Nat.le_refl _) _).alloc (by go_size) _).alloc (by go_size) _) hB1) hB2
  refine bodyPost_ret (v := .agg #[.int .i64 (-2147483648), .int .i64 2147483648]) (by simp [results, Try.results31, go_sem, kc1, hs12, kc2]) rfl ⟨rfl, ?_⟩
  go_grown

set_option maxHeartbeats 1000000 in
theorem r2add_1 (a b c d : Int) (w : World) (ha1 : -2147483648 ≤ a) (ha2 : a ≤ 2147483648) (hb1 : -2147483648 ≤ b) (hb2 : b ≤ 2147483648) (hc1 : -2147483648 ≤ c) (hc2 : c ≤ 2147483648) (hd1 : -2147483648 ≤ d) (hd2 : d ≤ 2147483648) (h1 : ¬ Ent a b) (h2 : Ent c d) :
    Calls Try.prog 31 #[.agg #[.int .i64 a, .int .i64 b], .agg #[.int .i64 c, .int .i64 d]] w fun e w' => e = .returned (.agg #[.int .i64 (-2147483648), .int .i64 2147483648]) ∧ Below w.heap.size w w' := by
  obtain ⟨rfl, rfl⟩ := h2
  have h1' := Lib.hid h1
  clear h1
  go_enter Try.func31, Try.ntmps31
  go_wp2_with (fail)
  refine (r2ent_no a b _ h1'.out).mono ?_
  rintro e1 w1 ⟨rfl, hB1⟩
  obtain ⟨kc1, kf1⟩ := bcell hB1
  have hz1 := hB1.size
  simp only [World.size_alloc] at hz1
  have hs10 : w.heap.size < w1.heap.size := by omega
  have hs11 : w.heap.size + 1 < w1.heap.size := by omega
  have hs12 : w.heap.size + 1 + 1 < w1.heap.size := by omega
  go_wp2_with (fail)
  refine (r2ent_yes _).mono ?_
  rintro e2 w2 ⟨rfl, hB2⟩
  obtain ⟨kc2, kf2⟩ := bcell hB2
  have hz2 := hB2.size
  have hs20 : w.heap.size < w2.heap.size := by omega
  have hs21 : w.heap.size + 1 < w2.heap.size := by omega
  have hs22 : w.heap.size + 1 + 1 < w2.heap.size := by omega
  go_wp2_with (fail)
  refine (r2entire _).mono ?_
  rintro e3 w3 ⟨rfl, hB3⟩
  obtain ⟨kc3, kf3⟩ := bcell hB3
  have hz3 := hB3.size
  have hs30 : w.heap.size < w3.heap.size := by omega
  have hs31 : w.heap.size + 1 < w3.heap.size := by omega
  have hs32 : w.heap.size + 1 + 1 < w3.heap.size := by omega
  go_wp2_with (fail)
  have hB : Below w.heap.size w w3 := below_then (below_then (below_then ((((Below.refl _ _).alloc (Nat.le_refl _) _).alloc (by go_size) _).alloc (by go_size) _) hB1) hB2) hB3
  refine bodyPost_ret (v := .agg #[.int .i64 (-2147483648), .int .i64 2147483648]) (by simp [results, Try.results31, go_sem, kc1, hs12, kc2, hs22, kc3]) rfl ⟨rfl, ?_⟩
  go_grown

set_option maxHeartbeats 1000000 in
theorem r2add_2 (a b c d : Int) (w : World) (ha1 : -2147483648 ≤ a) (ha2 : a ≤ 2147483648) (hb1 : -2147483648 ≤ b) (hb2 : b ≤ 2147483648) (hc1 : -2147483648 ≤ c) (hc2 : c ≤ 2147483648) (hd1 : -2147483648 ≤ d) (hd2 : d ≤ 2147483648) (h1 : ¬ Ent a b) (h2 : ¬ Ent c d) :
    Calls Try.prog 31 #[.agg #[.int .i64 a, .int .i64 b], .agg #[.int .i64 c, .int .i64 d]] w fun e w' => e = .returned (.agg #[.int .i64 (mkLo (a + c) (b + d)), .int .i64 (mkHi (a + c) (b + d))]) ∧ Below w.heap.size w w' := by
  have h1' := Lib.hid h1
  have h2' := Lib.hid h2
  clear h1 h2
  go_enter Try.func31, Try.ntmps31
  go_wp2_with (fail)
  refine (r2ent_no a b _ h1'.out).mono ?_
  rintro e1 w1 ⟨rfl, hB1⟩
  obtain ⟨kc1, kf1⟩ := bcell hB1
  have hz1 := hB1.size
  simp only [World.size_alloc] at hz1
  have hs10 : w.heap.size < w1.heap.size := by omega
  have hs11 : w.heap.size + 1 < w1.heap.size := by omega
  have hs12 : w.heap.size + 1 + 1 < w1.heap.size := by omega
  go_wp2_with (fail)
  refine (r2ent_no c d _ h2'.out).mono ?_
  rintro e2 w2 ⟨rfl, hB2⟩
  obtain ⟨kc2, kf2⟩ := bcell hB2
  have hz2 := hB2.size
  have hs20 : w.heap.size < w2.heap.size := by omega
  have hs21 : w.heap.size + 1 < w2.heap.size := by omega
  have hs22 : w.heap.size + 1 + 1 < w2.heap.size := by omega
  go_wp2_with (fail)
  refine (r2new (a + c) (b + d) _).mono ?_
  rintro e3 w3 ⟨rfl, hB3⟩
  obtain ⟨kc3, kf3⟩ := bcell hB3
  have hz3 := hB3.size
  have hs30 : w.heap.size < w3.heap.size := by omega
  have hs31 : w.heap.size + 1 < w3.heap.size := by omega
  have hs32 : w.heap.size + 1 + 1 < w3.heap.size := by omega
  go_wp2_with (fail)
  have hB : Below w.heap.size w w3 := below_then (below_then (below_then ((((Below.refl _ _).alloc (Nat.le_refl _) _).alloc (by go_size) _).alloc (by go_size) _) hB1) hB2) hB3
  refine bodyPost_ret (v := .agg #[.int .i64 (mkLo (a + c) (b + d)), .int .i64 (mkHi (a + c) (b + d))]) (by simp [results, Try.results31, go_sem, kc1, hs12, kc2, hs22, kc3]) rfl ⟨rfl, ?_⟩
  go_grown

theorem r2add (a b c d : Int) (w : World) (ha1 : -2147483648 ≤ a) (ha2 : a ≤ 2147483648) (hb1 : -2147483648 ≤ b) (hb2 : b ≤ 2147483648) (hc1 : -2147483648 ≤ c) (hc2 : c ≤ 2147483648) (hd1 : -2147483648 ≤ d) (hd2 : d ≤ 2147483648) :
    Calls Try.prog 31 #[.agg #[.int .i64 a, .int .i64 b], .agg #[.int .i64 c, .int .i64 d]] w fun e w' => e = .returned (.agg #[.int .i64 (addLo a b c d), .int .i64 (addHi a b c d)]) ∧ Below w.heap.size w w' := by
  unfold addLo addHi
  by_cases h1 : Ent a b
  · rw [if_pos (.inl h1), if_pos (.inl h1)]
    exact r2add_0 a b c d w ha1 ha2 hb1 hb2 hc1 hc2 hd1 hd2 h1
  by_cases h2 : Ent c d
  · rw [if_pos (.inr h2), if_pos (.inr h2)]
    exact r2add_1 a b c d w ha1 ha2 hb1 hb2 hc1 hc2 hd1 hd2 h1 h2
  · rw [if_neg (by intro h; rcases h with h | h; exact h1 h; exact h2 h), if_neg (by intro h; rcases h with h | h; exact h1 h; exact h2 h)]
    exact r2add_2 a b c d w ha1 ha2 hb1 hb2 hc1 hc2 hd1 hd2 h1 h2
end Go.Proofs.Ytecmgiihacigaaa
