/-
  A law's argument of type Operands: its numbers' bounds.
-/
import Derived.Test.YtdnndmpdlelliaaRatio
import Derived.Test.YtdnndmpdlelliaaR1
namespace Go.Proofs.Ytdnndmpdlelliaa
open Go.ChangeShapes Go.WideShapes Go.ChangeAt Go.RowKit
set_option linter.unusedVariables false
set_option linter.unusedSimpArgs false
set_option maxRecDepth 100000
theorem has_i64 {x : Int} (h : IntKind.has .i64 x) : -9223372036854775808 ≤ x ∧ x ≤ 9223372036854775807 := by
  have e1 : IntKind.i64.min = -9223372036854775808 := by rfl
  have e2 : IntKind.i64.max = 9223372036854775807 := by rfl
  simpa only [IntKind.has, e1, e2] using h
theorem has_i32 {x : Int} (h : IntKind.has .i32 x) : -2147483648 ≤ x ∧ x ≤ 2147483647 := by
  have e1 : IntKind.i32.min = -2147483648 := by rfl
  have e2 : IntKind.i32.max = 2147483647 := by rfl
  simpa only [IntKind.has, e1, e2] using h
theorem has_u16 {x : Int} (h : IntKind.has .u16 x) : 0 ≤ x ∧ x ≤ 65535 := by
  have e1 : IntKind.u16.min = 0 := by rfl
  have e2 : IntKind.u16.max = 65535 := by rfl
  simpa only [IntKind.has, e1, e2] using h
theorem wf_u32 {x : Int} (h : (Lit.int .u32 x).wf = true) : 0 ≤ x ∧ x < 4294967296 := by
  have e3 : IntKind.u32.min = 0 := by rfl
  have e4 : IntKind.u32.max = 4294967295 := by rfl
  simp only [Lit.wf, Bool.and_eq_true, decide_eq_true_eq, e3, e4] at h
  omega
theorem wf_i64 {x : Int} (h : (Lit.int .i64 x).wf = true) : -9223372036854775808 ≤ x ∧ x ≤ 9223372036854775807 := by
  have e3 : IntKind.i64.min = -9223372036854775808 := by rfl
  have e4 : IntKind.i64.max = 9223372036854775807 := by rfl
  simp only [Lit.wf, Bool.and_eq_true, decide_eq_true_eq, e3, e4] at h
  omega
/-- The two intervals made of the argument, and its ratio. -/
theorem operands {x0 x1 x2 x3 x4 x5 : Int} (h : ∀ p ∈ [(IntKind.i64, x0), (IntKind.i64, x1), (IntKind.i64, x2), (IntKind.i64, x3), (IntKind.i32, x4), (IntKind.u16, x5)], p.1.has p.2) :
    (∃ a b, VI a b ∧ ∀ w, Calls Try.prog 19 #[.agg #[.int .i64 x0, .int .i64 x1]] w fun e w' => e = .returned (.agg #[.int .i64 a, .int .i64 b]) ∧ Below w.heap.size w w') ∧
    (∃ c d, VI c d ∧ ∀ w, Calls Try.prog 19 #[.agg #[.int .i64 x2, .int .i64 x3]] w fun e w' => e = .returned (.agg #[.int .i64 c, .int .i64 d]) ∧ Below w.heap.size w w') ∧
    (∃ n m, -1073741824 < n ∧ n < 1073741824 ∧ 1 ≤ m ∧ m ≤ 65536 ∧ ∀ w, Calls Try.prog 20 #[.agg #[.int .i64 x0, .int .i64 x1, .int .i64 x2, .int .i64 x3, .int .i32 x4, .int .u16 x5]] w fun e w' => e = .returned (.tuple #[.int .i64 n, .int .i64 m]) ∧ Below w.heap.size w w') := by
  have h0 := has_i64 (h (IntKind.i64, x0) (by simp))
  have h1 := has_i64 (h (IntKind.i64, x1) (by simp))
  have h2 := has_i64 (h (IntKind.i64, x2) (by simp))
  have h3 := has_i64 (h (IntKind.i64, x3) (by simp))
  have h4 := has_i32 (h (IntKind.i32, x4) (by simp))
  have h5 := has_u16 (h (IntKind.u16, x5) (by simp))
  simp only at h0 h1 h2 h3 h4 h5
  refine ⟨r2made x0 x1 h0.1 h0.2 h1.1 h1.2, r2made x2 x3 h2.1 h2.2 h3.1 h3.2, x4.tmod 1073741824, 1 + x5, ?_, ?_, by omega, by omega, fun w => law_ratio x0 x1 x2 x3 x4 x5 w h5.1 (by omega) h4.1 h4.2⟩
  · exact Int.lt_tmod_of_pos x4 (by decide)
  · exact Int.tmod_lt_of_pos x4 (by decide)
end Go.Proofs.Ytdnndmpdlelliaa
