/-
  The walk of the law FixedMonotonicity.
-/
import Derived.Test.YtjjllfaehipemaaLawM1
import Derived.Test.YtjjllfaehipemaaLawM2
import Derived.Test.YtjjllfaehipemaaLawM3
namespace Go.Proofs.Ytjjllfaehipemaa
open Go.ChangeShapes Go.WideShapes Go.ChangeAt Go.RowKit
set_option linter.unusedVariables false

theorem mono_walk (x1 y1 z1 : Int) (w : World) :
    Calls Try.prog 9 #[.int .i64 x1, .int .i64 y1, .int .i64 z1] w fun e w' => e = .returned (.bool true) ∧ Below w.heap.size w w' := by
  obtain ⟨a, ha1, ha2, hx⟩ := num_ex x1
  obtain ⟨b, hb1, hb2, hy⟩ := num_ex y1
  obtain ⟨z, hz1, hz2, hz⟩ := num_ex z1
  rcases Int.lt_trichotomy a b with hab | hab | hab
  · by_cases hy0 : b < 0
    · rcases Int.lt_trichotomy z 0 with h | h | h
      · exact mono_neg_0_0 x1 y1 z1 a b z w hx hy hz ha1 ha2 hb1 hb2 hz1 hz2 (by omega) (by omega) (by omega) (by omega)
      · exact mono_zero_0_0 x1 y1 z1 a b z w hx hy hz ha1 ha2 hb1 hb2 hz1 hz2 (by omega) (by omega) (by omega) (by omega)
      · exact mono_pos_0_0 x1 y1 z1 a b z w hx hy hz ha1 ha2 hb1 hb2 hz1 hz2 (by omega) (by omega) (by omega) (by omega)
    · by_cases hx0 : a < 0
      · rcases Int.lt_trichotomy z 0 with h | h | h
        · exact mono_neg_1_0 x1 y1 z1 a b z w hx hy hz ha1 ha2 hb1 hb2 hz1 hz2 (by omega) (by omega) (by omega) (by omega)
        · exact mono_zero_1_0 x1 y1 z1 a b z w hx hy hz ha1 ha2 hb1 hb2 hz1 hz2 (by omega) (by omega) (by omega) (by omega)
        · exact mono_pos_1_0 x1 y1 z1 a b z w hx hy hz ha1 ha2 hb1 hb2 hz1 hz2 (by omega) (by omega) (by omega) (by omega)
      · rcases Int.lt_trichotomy z 0 with h | h | h
        · exact mono_neg_2_0 x1 y1 z1 a b z w hx hy hz ha1 ha2 hb1 hb2 hz1 hz2 (by omega) (by omega) (by omega) (by omega)
        · exact mono_zero_2_0 x1 y1 z1 a b z w hx hy hz ha1 ha2 hb1 hb2 hz1 hz2 (by omega) (by omega) (by omega) (by omega)
        · exact mono_pos_2_0 x1 y1 z1 a b z w hx hy hz ha1 ha2 hb1 hb2 hz1 hz2 (by omega) (by omega) (by omega) (by omega)
  · by_cases hy0 : b < 0
    · rcases Int.lt_trichotomy z 0 with h | h | h
      · exact mono_neg_0_2 x1 y1 z1 a b z w hx hy hz ha1 ha2 hb1 hb2 hz1 hz2 (by omega) (by omega) (by omega) (by omega)
      · exact mono_zero_0_2 x1 y1 z1 a b z w hx hy hz ha1 ha2 hb1 hb2 hz1 hz2 (by omega) (by omega) (by omega) (by omega)
      · exact mono_pos_0_2 x1 y1 z1 a b z w hx hy hz ha1 ha2 hb1 hb2 hz1 hz2 (by omega) (by omega) (by omega) (by omega)
    · by_cases hx0 : a < 0
      · omega
      · rcases Int.lt_trichotomy z 0 with h | h | h
        · exact mono_neg_2_2 x1 y1 z1 a b z w hx hy hz ha1 ha2 hb1 hb2 hz1 hz2 (by omega) (by omega) (by omega) (by omega)
        · exact mono_zero_2_2 x1 y1 z1 a b z w hx hy hz ha1 ha2 hb1 hb2 hz1 hz2 (by omega) (by omega) (by omega) (by omega)
        · exact mono_pos_2_2 x1 y1 z1 a b z w hx hy hz ha1 ha2 hb1 hb2 hz1 hz2 (by omega) (by omega) (by omega) (by omega)
  · by_cases hy0 : a < 0
    · rcases Int.lt_trichotomy z 0 with h | h | h
      · exact mono_neg_0_1 x1 y1 z1 a b z w hx hy hz ha1 ha2 hb1 hb2 hz1 hz2 (by omega) (by omega) (by omega) (by omega)
      · exact mono_zero_0_1 x1 y1 z1 a b z w hx hy hz ha1 ha2 hb1 hb2 hz1 hz2 (by omega) (by omega) (by omega) (by omega)
      · exact mono_pos_0_1 x1 y1 z1 a b z w hx hy hz ha1 ha2 hb1 hb2 hz1 hz2 (by omega) (by omega) (by omega) (by omega)
    · by_cases hx0 : b < 0
      · rcases Int.lt_trichotomy z 0 with h | h | h
        · exact mono_neg_1_1 x1 y1 z1 a b z w hx hy hz ha1 ha2 hb1 hb2 hz1 hz2 (by omega) (by omega) (by omega) (by omega)
        · exact mono_zero_1_1 x1 y1 z1 a b z w hx hy hz ha1 ha2 hb1 hb2 hz1 hz2 (by omega) (by omega) (by omega) (by omega)
        · exact mono_pos_1_1 x1 y1 z1 a b z w hx hy hz ha1 ha2 hb1 hb2 hz1 hz2 (by omega) (by omega) (by omega) (by omega)
      · rcases Int.lt_trichotomy z 0 with h | h | h
        · exact mono_neg_2_1 x1 y1 z1 a b z w hx hy hz ha1 ha2 hb1 hb2 hz1 hz2 (by omega) (by omega) (by omega) (by omega)
        · exact mono_zero_2_1 x1 y1 z1 a b z w hx hy hz ha1 ha2 hb1 hb2 hz1 hz2 (by omega) (by omega) (by omega) (by omega)
        · exact mono_pos_2_1 x1 y1 z1 a b z w hx hy hz ha1 ha2 hb1 hb2 hz1 hz2 (by omega) (by omega) (by omega) (by omega)
end Go.Proofs.Ytjjllfaehipemaa
