/-
  Contracts of package armillaryref02: the small functions.
  Contracts of package armillaryref02: functions of one interval or two that call nothing.
  Contracts of package armillaryref02: Floor, Ceil, Mid, Add, Sub.
-/
import Derived.Test.YtajddejeglhbhaaKit
import Derived.Test.YtajddejeglhbhaaMath
namespace Go.Proofs.Ytajddejeglhbhaa
open Go.ChangeShapes Go.WideShapes Go.ChangeAt Go.RowKit
set_option linter.unusedVariables false

/-- A number; the entire interval; a valid interval; the interval that New makes. -/
def Num (x : Int) : Prop := -2147483648 < x ∧ x < 2147483648
instance (x : Int) : Decidable (Num x) := inferInstanceAs (Decidable (_ ∧ _))
def Ent (lo hi : Int) : Prop := lo = -2147483648 ∧ hi = 2147483648
instance (lo hi : Int) : Decidable (Ent lo hi) := inferInstanceAs (Decidable (_ ∧ _))
def VI (lo hi : Int) : Prop := Ent lo hi ∨ (Num lo ∧ Num hi ∧ lo ≤ hi)
instance (lo hi : Int) : Decidable (VI lo hi) := inferInstanceAs (Decidable (_ ∨ _))
def mkLo (lo hi : Int) : Int := if Num lo ∧ Num hi then lo else -2147483648
def mkHi (lo hi : Int) : Int := if Num lo ∧ Num hi then hi else 2147483648

theorem r2num_yes (x : Int) (w : World) (h : Num x) :
    Calls Try.prog 48 #[.int .i64 x] w fun e w' => e = .returned (.bool true) ∧ w = w' := by
  obtain ⟨h1, h2⟩ := h
  go_enter Try.func48, Try.ntmps48
  go_wp2
  go_ret
  simp
theorem r2num_no (x : Int) (w : World) (h : ¬ Num x) :
    Calls Try.prog 48 #[.int .i64 x] w fun e w' => e = .returned (.bool false) ∧ w = w' := by
  by_cases h1 : -2147483648 < x
  · have h2 : ¬ x < 2147483648 := fun h2 => h ⟨h1, h2⟩
    clear h
    go_enter Try.func48, Try.ntmps48
    go_wp2
    go_ret
    simp
  · clear h
    go_enter Try.func48, Try.ntmps48
    go_wp2
    go_ret
    exact ⟨rfl, rfl⟩

theorem r2entire (w : World) :
    Calls Try.prog 36 #[] w fun e w' => e = .returned (.agg #[.int .i64 (-2147483648), .int .i64 2147483648]) ∧ Below w.heap.size w w' := by
  go_enter Try.func36, Try.ntmps36
  go_wp2
  refine bodyPost_ret (v := .agg #[.int .i64 (-2147483648), .int .i64 2147483648]) (by simp [results, Try.results36, go_sem]) rfl ⟨rfl, ?_⟩
  go_grown

theorem r2ent_yes (w : World) :
    Calls Try.prog 32 #[.agg #[.int .i64 (-2147483648), .int .i64 2147483648]] w fun e w' => e = .returned (.bool true) ∧ Below w.heap.size w w' := by
  go_enter Try.func32, Try.ntmps32
  go_wp2
  go_ret
  refine ⟨rfl, ?_⟩
  go_grown
theorem r2ent_no (lo hi : Int) (w : World) (h : ¬ Ent lo hi) :
    Calls Try.prog 32 #[.agg #[.int .i64 lo, .int .i64 hi]] w fun e w' => e = .returned (.bool false) ∧ Below w.heap.size w w' := by
  by_cases h1 : lo = -2147483648
  · have h2 : (hi == 2147483648) = false := by rw [beq_eq_false_iff_ne]; exact fun h2 => h ⟨h1, h2⟩
    subst h1
    clear h
    go_enter Try.func32, Try.ntmps32
    go_wp2
    go_ret
    refine ⟨rfl, ?_⟩
    go_grown
  · have h2 : (lo == -2147483648) = false := by rw [beq_eq_false_iff_ne]; exact h1
    clear h h1
    go_enter Try.func32, Try.ntmps32
    go_wp2
    go_ret
    refine ⟨rfl, ?_⟩
    go_grown

theorem r2new (lo hi : Int) (w : World) :
    Calls Try.prog 21 #[.int .i64 lo, .int .i64 hi] w fun e w' => e = .returned (.agg #[.int .i64 (mkLo lo hi), .int .i64 (mkHi lo hi)]) ∧ Below w.heap.size w w' := by
  by_cases h1 : Num lo
  · by_cases h2 : Num hi
    · have e1 : mkLo lo hi = lo := by unfold mkLo; rw [if_pos ⟨h1, h2⟩]
      have e2 : mkHi lo hi = hi := by unfold mkHi; rw [if_pos ⟨h1, h2⟩]
      rw [e1, e2]
      have c1 := fun w => r2num_yes lo w h1
      have c2 := fun w => r2num_yes hi w h2
      clear h1 h2 e1 e2
      go_enter Try.func21, Try.ntmps21
      go_wp2_with (fail)
      refine (c1 _).mono ?_
      rintro e1 w1 ⟨rfl, rfl⟩
      go_wp2_with (fail)
      refine (c2 _).mono ?_
      rintro e2 w2 ⟨rfl, rfl⟩
      go_wp2_with (fail)
      refine bodyPost_ret (v := .agg #[.int .i64 lo, .int .i64 hi]) (by simp [results, Try.results21, go_sem]) rfl ⟨rfl, ?_⟩
      go_grown
    · have e1 : mkLo lo hi = -2147483648 := by unfold mkLo; rw [if_neg (fun h => h2 h.2)]
      have e2 : mkHi lo hi = 2147483648 := by unfold mkHi; rw [if_neg (fun h => h2 h.2)]
      rw [e1, e2]
      have c1 := fun w => r2num_yes lo w h1
      have c2 := fun w => r2num_no hi w h2
      clear h1 h2 e1 e2
      go_enter Try.func21, Try.ntmps21
      go_wp2_with (fail)
      refine (c1 _).mono ?_
      rintro e1 w1 ⟨rfl, rfl⟩
      go_wp2_with (fail)
      refine (c2 _).mono ?_
      rintro e2 w2 ⟨rfl, rfl⟩
      go_wp2_with (fail)
      refine (r2entire _).mono ?_
      rintro e3 w3 ⟨rfl, hB⟩
      have hc := hB.cell (p := ⟨w.heap.size, 0, none⟩) (by simp)
      have hc2 := hB.cell (p := ⟨w.heap.size, 1, none⟩) (by simp)
      have hf := hB.frozen (p := ⟨w.heap.size, 0, none⟩) (by simp)
      have hf2 := hB.frozen (p := ⟨w.heap.size, 1, none⟩) (by simp)
      have hz := hB.size
      go_wp2_with (fail)
      refine bodyPost_ret (v := .agg #[.int .i64 (-2147483648), .int .i64 2147483648]) (by simp [results, Try.results21, go_sem, hc, hc2]) rfl ⟨rfl, ?_⟩
      have hB' := below_then ((Below.refl w.heap.size w).alloc (Nat.le_refl _) _) hB
      go_grown
  · have e1 : mkLo lo hi = -2147483648 := by unfold mkLo; rw [if_neg (fun h => h1 h.1)]
    have e2 : mkHi lo hi = 2147483648 := by unfold mkHi; rw [if_neg (fun h => h1 h.1)]
    rw [e1, e2]
    have c1 := fun w => r2num_no lo w h1
    clear h1 e1 e2
    go_enter Try.func21, Try.ntmps21
    go_wp2_with (fail)
    refine (c1 _).mono ?_
    rintro e1 w1 ⟨rfl, rfl⟩
    go_wp2_with (fail)
    refine (r2entire _).mono ?_
    rintro e3 w3 ⟨rfl, hB⟩
    have hc := hB.cell (p := ⟨w.heap.size, 0, none⟩) (by simp)
    have hc2 := hB.cell (p := ⟨w.heap.size, 1, none⟩) (by simp)
    have hf := hB.frozen (p := ⟨w.heap.size, 0, none⟩) (by simp)
    have hf2 := hB.frozen (p := ⟨w.heap.size, 1, none⟩) (by simp)
    have hz := hB.size
    go_wp2_with (fail)
    refine bodyPost_ret (v := .agg #[.int .i64 (-2147483648), .int .i64 2147483648]) (by simp [results, Try.results21, go_sem, hc, hc2]) rfl ⟨rfl, ?_⟩
    have hB' := below_then ((Below.refl w.heap.size w).alloc (Nat.le_refl _) _) hB
    go_grown
end Go.Proofs.Ytajddejeglhbhaa

namespace Go.Proofs.Ytajddejeglhbhaa
open Go.ChangeShapes Go.WideShapes Go.ChangeAt Go.RowKit
set_option linter.unusedVariables false



theorem r2subset_0 (a b c d : Int) (w : World) (h1 : c ≤ a) (h2 : decide (b ≤ d) = true) :
    Calls Try.prog 22 #[.agg #[.int .i64 a, .int .i64 b], .agg #[.int .i64 c, .int .i64 d]] w fun e w' => e = .returned (.bool true) ∧ Below w.heap.size w w' := by
  go_enter Try.func22, Try.ntmps22
  go_wp2_with (fail)
  go_ret
  refine ⟨by first | rfl | (simp; omega), ?_⟩
  go_grown

theorem r2subset_1 (a b c d : Int) (w : World) (h1 : c ≤ a) (h2 : decide (b ≤ d) = false) :
    Calls Try.prog 22 #[.agg #[.int .i64 a, .int .i64 b], .agg #[.int .i64 c, .int .i64 d]] w fun e w' => e = .returned (.bool false) ∧ Below w.heap.size w w' := by
  go_enter Try.func22, Try.ntmps22
  go_wp2_with (fail)
  go_ret
  refine ⟨by first | rfl | (simp; omega), ?_⟩
  go_grown

theorem r2subset_2 (a b c d : Int) (w : World) (h1 : a < c) :
    Calls Try.prog 22 #[.agg #[.int .i64 a, .int .i64 b], .agg #[.int .i64 c, .int .i64 d]] w fun e w' => e = .returned (.bool false) ∧ Below w.heap.size w w' := by
  go_enter Try.func22, Try.ntmps22
  go_wp2_with (fail)
  go_ret
  refine ⟨by first | rfl | (simp; omega), ?_⟩
  go_grown

theorem r2same_0 (a b c d : Int) (w : World) (h1 : (a == c) = true) (h2 : (b == d) = true) :
    Calls Try.prog 29 #[.agg #[.int .i64 a, .int .i64 b], .agg #[.int .i64 c, .int .i64 d]] w fun e w' => e = .returned (.bool true) ∧ Below w.heap.size w w' := by
  go_enter Try.func29, Try.ntmps29
  go_wp2_with (fail)
  go_ret
  refine ⟨by first | rfl | (simp; omega), ?_⟩
  go_grown

theorem r2same_1 (a b c d : Int) (w : World) (h1 : (a == c) = true) (h2 : (b == d) = false) :
    Calls Try.prog 29 #[.agg #[.int .i64 a, .int .i64 b], .agg #[.int .i64 c, .int .i64 d]] w fun e w' => e = .returned (.bool false) ∧ Below w.heap.size w w' := by
  go_enter Try.func29, Try.ntmps29
  go_wp2_with (fail)
  go_ret
  refine ⟨by first | rfl | (simp; omega), ?_⟩
  go_grown

theorem r2same_2 (a b c d : Int) (w : World) (h1 : (a == c) = false) :
    Calls Try.prog 29 #[.agg #[.int .i64 a, .int .i64 b], .agg #[.int .i64 c, .int .i64 d]] w fun e w' => e = .returned (.bool false) ∧ Below w.heap.size w w' := by
  go_enter Try.func29, Try.ntmps29
  go_wp2_with (fail)
  go_ret
  refine ⟨by first | rfl | (simp; omega), ?_⟩
  go_grown










end Go.Proofs.Ytajddejeglhbhaa

namespace Go.Proofs.Ytajddejeglhbhaa
open Go.ChangeShapes Go.WideShapes Go.ChangeAt Go.RowKit
set_option linter.unusedVariables false

theorem tmod_sign {n d : Int} (h : ¬ n.tmod d = 0) : (n.tmod d < 0 ↔ n < 0) := by
  rcases Int.lt_or_le n 0 with hn | hn
  · have := Int.tmod_nonneg (a := -n) d (by omega)
    rw [Int.neg_tmod] at this
    constructor <;> omega
  · have := Int.tmod_nonneg (a := n) d hn
    constructor <;> omega





/-- The sum of two intervals. -/
def addLo (a b c d : Int) : Int := if Ent a b ∨ Ent c d then -2147483648 else mkLo (a + c) (b + d)
def addHi (a b c d : Int) : Int := if Ent a b ∨ Ent c d then 2147483648 else mkHi (a + c) (b + d)




end Go.Proofs.Ytajddejeglhbhaa
