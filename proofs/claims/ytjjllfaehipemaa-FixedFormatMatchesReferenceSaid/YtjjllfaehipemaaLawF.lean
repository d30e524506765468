/-
  The walk of the law FixedFormatMatchesReference.
-/
import Derived.Test.YtjjllfaehipemaaLawQ
import Derived.Test.YtjjllfaehipemaaRParse2
namespace Go.Proofs.Ytjjllfaehipemaa
open Go.ChangeShapes Go.WideShapes Go.ChangeAt Go.RowKit

/-- The text of at most 60 bytes that the law takes. -/
def cut60 (s : ByteArray) : ByteArray := if 60 < s.size then s.extract 0 60 else s
theorem cut60_size (s : ByteArray) : (cut60 s).size ≤ 60 := by
  unfold cut60
  split
  · simp only [ByteArray.size_extract]; omega
  · omega

set_option maxRecDepth 100000 in
set_option maxHeartbeats 2000000 in
theorem format_walk (x : Int) (s : ByteArray) (w : World) (hs : s.size ≤ maxLen) :
    Calls Try.prog 4 #[.int .i64 x, .string s] w fun e w' => e = .returned (.bool true) ∧ Below w.heap.size w w' := by
  obtain ⟨a, ha1, ha2, hx⟩ := num_ex x
  have hT := cut60_size s
  have c1 := fun w => parse_any (cut60 s) w (by unfold maxLen; omega)
  have c2 := fun w => rparse_any (cut60 s) w hT
  have c3 := fun w => fmt_any a w ha1 ha2
  have c4 := fun w => rfmt_any a w ha1 ha2
  obtain ⟨q1, q2, q3, q4, hq⟩ : ∃ q1 q2 q3 q4 : Int, quad (parseV (cut60 s)) = .tuple #[.int .i64 q1, .int .i64 q2, .int .i64 q3, .int .i64 q4] := ⟨_, _, _, _, rfl⟩
  rw [hq] at c1 c2
  clear hq
  unfold maxLen at hs
  generalize strOfNums (fmt a) = S at *
  by_cases hl : 60 < s.size
  · have e : cut60 s = s.extract 0 60 := by unfold cut60; rw [if_pos hl]
    rw [e] at c1 c2
    clear e hT
    go_enter Try.func4, Try.ntmps4
    go_wp2_with (fail)
    refine (sanity_any _).mono ?_
    rintro e0 w0 ⟨rfl, hB⟩
    go_wp2_with (fail)
    refine (hx _).mono ?_
    rintro e1 w1 ⟨rfl, rfl⟩
    go_wp2_with (fail)
    refine (c1 _).mono ?_
    rintro e2 w2 ⟨rfl, hB2⟩
    have B2 := below_then hB hB2
    clear hB hB2
    go_wp2_with (fail)
    refine (c2 _).mono ?_
    rintro e3 w3 ⟨rfl, hB3⟩
    have B3 := below_then B2 hB3
    clear B2 hB3
    go_wp2_with (fail)
    refine (c3 _).mono ?_
    rintro e4 w4 ⟨rfl, hB4⟩
    have B4 := below_then B3 hB4
    clear B3 hB4
    go_wp2_with (fail)
    refine (c4 _).mono ?_
    rintro e5 w5 ⟨rfl, hB5⟩
    have B5 := below_then B4 hB5
    clear B4 hB5
    go_wp2_with (fail)
    go_ret
    exact ⟨rfl, B5⟩
  · have e : cut60 s = s := by unfold cut60; rw [if_neg hl]
    rw [e] at c1 c2
    clear e hT
    go_enter Try.func4, Try.ntmps4
    go_wp2_with (fail)
    refine (sanity_any _).mono ?_
    rintro e0 w0 ⟨rfl, hB⟩
    go_wp2_with (fail)
    refine (hx _).mono ?_
    rintro e1 w1 ⟨rfl, rfl⟩
    go_wp2_with (fail)
    refine (c1 _).mono ?_
    rintro e2 w2 ⟨rfl, hB2⟩
    have B2 := below_then hB hB2
    clear hB hB2
    go_wp2_with (fail)
    refine (c2 _).mono ?_
    rintro e3 w3 ⟨rfl, hB3⟩
    have B3 := below_then B2 hB3
    clear B2 hB3
    go_wp2_with (fail)
    refine (c3 _).mono ?_
    rintro e4 w4 ⟨rfl, hB4⟩
    have B4 := below_then B3 hB4
    clear B3 hB4
    go_wp2_with (fail)
    refine (c4 _).mono ?_
    rintro e5 w5 ⟨rfl, hB5⟩
    have B5 := below_then B4 hB5
    clear B4 hB5
    go_wp2_with (fail)
    go_ret
    exact ⟨rfl, B5⟩
theorem format_all (x : Int) (_ : (Lit.int .i64 x).wf = true) (s : ByteArray) (hs : s.size ≤ maxLen) (w : World) :
    Calls Try.prog 4 #[.int .i64 x, .string s] w fun e w' => e = .returned (.bool true) ∧ Below w.heap.size w w' := format_walk x s w hs
end Go.Proofs.Ytjjllfaehipemaa
