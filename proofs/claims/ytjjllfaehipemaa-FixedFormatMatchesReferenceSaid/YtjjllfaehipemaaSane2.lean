/-
  The first half of 'sanity': its calls ahead of the last test.
-/
import Derived.Test.YtjjllfaehipemaaSane1
namespace Go.Proofs.Ytjjllfaehipemaa
open Go.ChangeShapes Go.WideShapes Go.ChangeAt Go.RowKit

theorem valid_low (w : World) :
    Calls Try.prog 13 #[.int .i64 (-2147483648)] w fun e w' => e = .returned (.bool false) ∧ w = w' := by
  have h := valid_any (-2147483648) w
  simpa using h

set_option maxRecDepth 100000 in
set_option maxHeartbeats 8000000 in
theorem sanity_any (w : World) :
    Calls Try.prog 12 #[] w fun e w' => e = .returned (.bool true) ∧ Below w.heap.size w w' := by
  go_enter Try.func12, Try.ntmps12
  go_wp2_with (fail)
  refine (mul_is 1 1 0 1 (by decide) (by decide) (by decide) (by decide) (by decide) (by decide) _).mono ?_
  rintro e0 w0 ⟨rfl, hb0⟩
  go_wp2_with (fail)
  refine (mul_is (-98304) 131072 (-196608) (-196608) (by decide) (by decide) (by decide) (by decide) (by decide) (by decide) _).mono ?_
  rintro e1 w1 ⟨rfl, hb1⟩
  have hB1 := Lib.hid (below_then hb0 hb1)
  clear hb0 hb1
  go_wp2_with (fail)
  refine (div_is 65536 196608 21845 21846 (by decide) (by decide) (by decide) (by decide) (by decide) _).mono ?_
  rintro e2 w2 ⟨rfl, hb2⟩
  have hB2 := Lib.hid (below_then hB1.out hb2)
  clear hB1 hb2
  go_wp2_with (fail)
  refine (div_is (-65536) 196608 (-21846) (-21845) (by decide) (by decide) (by decide) (by decide) (by decide) _).mono ?_
  rintro e3 w3 ⟨rfl, hb3⟩
  have hB3 := Lib.hid (below_then hB2.out hb3)
  clear hB2 hb3
  go_wp2_with (fail)
  refine (div_zero 1 _).mono ?_
  rintro e4 w4 ⟨rfl, rfl⟩
  go_wp2_with (fail)
  refine (sqrt_is 131072 92681 92682 (by decide) (by decide) (isq_is (by decide) (by decide) (by decide)) (by decide) _).mono ?_
  rintro e5 w5 ⟨rfl, rfl⟩
  go_wp2_with (fail)
  refine (sqrt_is 262144 131072 131072 (by decide) (by decide) (isq_is (by decide) (by decide) (by decide)) (by decide) _).mono ?_
  rintro e6 w6 ⟨rfl, rfl⟩
  go_wp2_with (fail)
  refine (sqrt_neg (-1) _ (by decide)).mono ?_
  rintro e7 w7 ⟨rfl, rfl⟩
  go_wp2_with (fail)
  refine (ratio_is 7 (-1) 2 (-4) (-3) (by decide) (by decide) (by decide) (by decide) (by decide) (by decide) (by decide) (by decide) _).mono ?_
  rintro e8 w8 ⟨rfl, hb8⟩
  have hB8 := Lib.hid (below_then hB3.out hb8)
  clear hB3 hb8
  go_wp2_with (fail)
  refine (ratio_arg 7 1 0 _ (by decide)).mono ?_
  rintro e9 w9 ⟨rfl, rfl⟩
  go_wp2_with (fail)
  refine (parse_is ⟨#[48, 46, 49]⟩ 6553 6554 0 0 (by decide) ex_parse1 _).mono ?_
  rintro e10 w10 ⟨rfl, hb10⟩
  have hB10 := Lib.hid (below_then hB8.out hb10)
  clear hB8 hb10
  go_wp2_with (fail)
  refine (parse_is ⟨#[45, 49, 46, 53]⟩ (-98304) (-98304) 0 0 (by decide) ex_parse2 _).mono ?_
  rintro e11 w11 ⟨rfl, hb11⟩
  have hB11 := Lib.hid (below_then hB10.out hb11)
  clear hB10 hb11
  go_wp2_with (fail)
  refine (parse_is ⟨#[49, 46]⟩ 0 0 2 10 (by decide) ex_parse3 _).mono ?_
  rintro e12 w12 ⟨rfl, hb12⟩
  have hB12 := Lib.hid (below_then hB11.out hb12)
  clear hB11 hb12
  go_wp2_with (fail)
  refine (parse_is ⟨#[45, 120]⟩ 0 0 1 10 (by decide) ex_parse4 _).mono ?_
  rintro e13 w13 ⟨rfl, hb13⟩
  have hB13 := Lib.hid (below_then hB12.out hb13)
  clear hB12 hb13
  go_wp2_with (fail)
  refine (parse_is ⟨#[51, 50, 55, 54, 56]⟩ 0 0 0 2 (by decide) ex_parse5 _).mono ?_
  rintro e14 w14 ⟨rfl, hb14⟩
  have hB14 := Lib.hid (below_then hB13.out hb14)
  clear hB13 hb14
  go_wp2_with (fail)
  refine (valid_yes 2147483647 _ (by decide) (by decide)).mono ?_
  rintro v0 x0 ⟨rfl, rfl⟩
  go_wp2_with (fail)
  refine (valid_no 2147483648 _ (by decide)).mono ?_
  rintro v1 x1 ⟨rfl, rfl⟩
  go_wp2_with (fail)
  refine (valid_low _).mono ?_
  rintro v2 x2 ⟨rfl, rfl⟩
  go_wp2_with (fail)
  refine (fmt_is (-98304) ⟨#[45, 49, 46, 53]⟩ (by decide) (by decide) ex_fmt1 _).mono ?_
  rintro f1 y1 ⟨rfl, hf1⟩
  have hF1 := Lib.hid (below_then hB14.out hf1)
  clear hB14 hf1
  go_wp2_with (fail)
  refine (fmt_is 0 ⟨#[48]⟩ (by decide) (by decide) ex_fmt2 _).mono ?_
  rintro f2 y2 ⟨rfl, hf2⟩
  have hF2 := Lib.hid (below_then hF1.out hf2)
  clear hF1 hf2
  go_wp2_with (fail)
  refine (fmt_is 1 ⟨#[48, 46, 48, 48, 48, 48, 49, 53, 50, 53, 56, 55, 56, 57, 48, 54, 50, 53]⟩ (by decide) (by decide) ex_fmt3 _).mono ?_
  rintro f3 y3 ⟨rfl, hf3⟩
  have hF3 := Lib.hid (below_then hF2.out hf3)
  clear hF2 hf3
  go_wp2_with (fail)
  go_ret
  exact ⟨rfl, hF3.out⟩
end Go.Proofs.Ytjjllfaehipemaa
