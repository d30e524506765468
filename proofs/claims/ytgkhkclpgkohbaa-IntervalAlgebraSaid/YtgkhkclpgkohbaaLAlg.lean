/-
  The law of the algebra.
-/
import Derived.Test.YtgkhkclpgkohbaaLAlg1
import Derived.Test.YtgkhkclpgkohbaaIvMath
import Derived.Test.YtgkhkclpgkohbaaOpnd
namespace Go.Proofs.Ytgkhkclpgkohbaa
open Go.ChangeShapes Go.WideShapes Go.ChangeAt Go.RowKit
set_option linter.unusedVariables false
set_option linter.unusedSimpArgs false
theorem alg (x0 x1 x2 x3 x4 x5 : Int) (h : ∀ p ∈ [(IntKind.i64, x0), (IntKind.i64, x1), (IntKind.i64, x2), (IntKind.i64, x3), (IntKind.i32, x4), (IntKind.u16, x5)], p.1.has p.2) (w : World) :
    Calls Try.prog 7 #[.agg #[.int .i64 x0, .int .i64 x1, .int .i64 x2, .int .i64 x3, .int .i32 x4, .int .u16 x5]] w fun e w' => e = .returned (.bool true) ∧ Below w.heap.size w w' := by
  obtain ⟨⟨a, b, hv, c1⟩, ⟨c, d, hw, c2⟩, n, m, n1, n2, m1, m2, c3⟩ := operands h
  obtain ⟨ha1, ha2, hb1, hb2, hab⟩ := hv.bd
  obtain ⟨hc1, hc2, hd1, hd2, hcd⟩ := hw.bd
  have ho : VI 65536 65536 := by decide
  have hz : VI 0 0 := by decide
  refine alg_walk x0 x1 x2 x3 x4 x5 a b c d n m (mulLo a b c d) (mulHi a b c d) (addLo a b c d) (addHi a b c d) (addLo a b (-d) (-c)) (addHi a b (-d) (-c)) (sqLo a b) (sqHi a b) (divLo a b c d) (divHi a b c d) (mrLo a b n m) (mrHi a b n m) (mulLo a b a b) (mulHi a b a b) w (by omega) (by omega)
    c1 c2 c3 (fun w => iv_mul a b c d w hv hw) (fun w => iv_add a b c d w hv hw) (fun w => is2 (iv_add c d a b w hw hv) (add_comm2 a b c d).1 (add_comm2 a b c d).2)
    (fun w => is2 (iv_mul c d a b w hw hv) (mul_comm2 a b c d).1 (mul_comm2 a b c d).2) (fun w => iv_sub a b c d w hv hw) (fun w => iv_neg c d w ⟨hc1, hc2, hd1, hd2⟩)
    (fun w => iv_add a b (-d) (-c) w hv hw.neg) (fun w => iv_neg a b w ⟨ha1, ha2, hb1, hb2⟩) (fun w => is2 (iv_neg (-b) (-a) w ⟨by omega, by omega, by omega, by omega⟩) (by omega) (by omega))
    (fun w => is2 (iv_mul (-b) (-a) c d w hv.neg hw) (mul_neg2 a b c d).1 (mul_neg2 a b c d).2) (fun w => iv_neg _ _ w ?_)
    (fun w => is2 (iv_square (-b) (-a) w hv.neg) (sq_neg2 a b).1 (sq_neg2 a b).2) (fun w => iv_square a b w hv) (fun w => iv_div a b c d w hv hw)
    (fun w => is2 (iv_div (-b) (-a) c d w hv.neg hw) (div_neg2 a b c d).1 (div_neg2 a b c d).2) (fun w => iv_neg _ _ w ?_)
    (fun w => is2 (iv_div a b (-d) (-c) w hv hw.neg) (div_den2 a b c d).1 (div_den2 a b c d).2)
    (fun w => is2 (iv_mulratio a b (-n) m w hv (by omega) (by omega) m1 (by omega)) (mr_neg2 a b n m).1 (mr_neg2 a b n m).2)
    (fun w => iv_mulratio a b n m w hv (by omega) (by omega) m1 (by omega)) (fun w => iv_neg _ _ w ?_)
    (fun w => is2 (iv_point 65536 w) (by decide) (by decide)) (fun w => is2 (iv_mul a b 65536 65536 w hv ho) (mul_one2 hv).1 (mul_one2 hv).2)
    (fun w => is2 (iv_point 0 w) (by decide) (by decide)) (fun w => is2 (iv_add a b 0 0 w hv hz) (add_zero2 hv).1 (add_zero2 hv).2)
    (fun w => is2 (iv_mulratio a b m m w hv (by omega) (by omega) m1 (by omega)) (mr_same2 hv (by omega)).1 (mr_same2 hv (by omega)).2)
    (fun w => iv_mul a b a b w hv hv) (fun w => iv_subset _ _ _ _ true w (by simp [(sq_sub hv).1, (sq_sub hv).2]))
    (fun w => iv_valid _ _ true w (by simp [mul_vi a b c d])) (fun w => iv_valid _ _ true w (by simp [div_vi (a := a) (b := b) hcd]))
  · have := (mul_vi a b c d).bd; exact ⟨by omega, by omega, by omega, by omega⟩
  · have := (div_vi (a := a) (b := b) hcd).bd; exact ⟨by omega, by omega, by omega, by omega⟩
  · have := (mr_vi (a := a) (b := b) (n := n) (d := m) (by omega)).bd; exact ⟨by omega, by omega, by omega, by omega⟩
end Go.Proofs.Ytgkhkclpgkohbaa
