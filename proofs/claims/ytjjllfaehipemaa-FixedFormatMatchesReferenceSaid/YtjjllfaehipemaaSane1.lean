/-
  What the fixed examples of 'sanity' hand back.
-/
import Derived.Test.YtjjllfaehipemaaParse2
import Derived.Test.YtjjllfaehipemaaFmt
namespace Go.Proofs.Ytjjllfaehipemaa
open Go.ChangeShapes Go.WideShapes Go.ChangeAt Go.RowKit

theorem mul_is (a b x y : Int) (h1 : -2147483648 ≤ a) (h2 : a ≤ 2147483648) (h3 : -2147483648 ≤ b) (h4 : b ≤ 2147483648) (hx : dn (a * b) 65536 = x) (hy : up (a * b) 65536 = y) (w : World) :
    Calls Try.prog 16 #[.int .i64 a, .int .i64 b] w fun e w' => e = .returned (.tuple #[.int .i64 x, .int .i64 y]) ∧ Below w.heap.size w w' := by
  subst hx hy; exact mul_any a b w h1 h2 h3 h4
theorem div_is (a b x y : Int) (h1 : -2147483648 ≤ a) (h2 : a ≤ 2147483648) (hb : (b == 0) = false) (hx : dn (a * 65536) b = x) (hy : up (a * 65536) b = y) (w : World) :
    Calls Try.prog 18 #[.int .i64 a, .int .i64 b] w fun e w' => e = .returned (.tuple #[.int .i64 x, .int .i64 y, .int .i64 0]) ∧ Below w.heap.size w w' := by
  subst hx hy; exact div_any a b w h1 h2 hb
theorem ratio_is (a n d x y : Int) (h1 : -2147483648 ≤ a) (h2 : a ≤ 2147483648) (c1 : -1073741824 ≤ n) (c2 : n ≤ 1073741824) (c3 : 1 ≤ d) (c4 : d ≤ 1073741824) (hx : dn (a * n) d = x) (hy : up (a * n) d = y) (w : World) :
    Calls Try.prog 22 #[.int .i64 a, .int .i64 n, .int .i64 d] w fun e w' => e = .returned (.tuple #[.int .i64 x, .int .i64 y, .int .i64 0]) ∧ Below w.heap.size w w' := by
  subst hx hy; exact ratio_any a n d w h1 h2 c1 c2 c3 c4
theorem sqrt_is (a x y : Int) (h0 : 0 ≤ a) (h1 : a ≤ 2147483648) (hx : isq (a * 65536) = x) (hy : (if x * x = a * 65536 then x else x + 1) = y) (w : World) :
    Calls Try.prog 20 #[.int .i64 a] w fun e w' => e = .returned (.tuple #[.int .i64 x, .int .i64 y, .int .i64 0]) ∧ w = w' := by
  have h := sqrt_any a w h0 h1
  have e : usq (a * 65536) = y := by unfold usq; rw [hx, hy]
  rwa [e, hx] at h
theorem parse_is (s : ByteArray) (a b c d : Int) (hs : s.size ≤ maxLen) (h : parseV s = (a, b, c, d)) (w : World) :
    Calls Try.prog 24 #[.string s] w fun e w' => e = .returned (.tuple #[.int .i64 a, .int .i64 b, .int .i64 c, .int .i64 d]) ∧ Below w.heap.size w w' := by
  have := parse_any s w hs
  rwa [h] at this
theorem fmt_is (x : Int) (s : ByteArray) (h0 : -2147483648 < x) (h1 : x < 2147483648) (h : strOfNums (fmt x) = s) (w : World) :
    Calls Try.prog 26 #[.int .i64 x] w fun e w' => e = .returned (.string s) ∧ Below w.heap.size w w' := by
  subst h; exact fmt_any x w h0 h1

theorem ex_parse1 : parseV ⟨#[48, 46, 49]⟩ = (6553, 6554, 0, 0) := by kernel_rfl
theorem ex_parse2 : parseV ⟨#[45, 49, 46, 53]⟩ = ((-98304), (-98304), 0, 0) := by kernel_rfl
theorem ex_parse3 : parseV ⟨#[49, 46]⟩ = (0, 0, 2, 10) := by kernel_rfl
theorem ex_parse4 : parseV ⟨#[45, 120]⟩ = (0, 0, 1, 10) := by kernel_rfl
theorem ex_parse5 : parseV ⟨#[51, 50, 55, 54, 56]⟩ = (0, 0, 0, 2) := by kernel_rfl
theorem ex_fmt1 : strOfNums (fmt (-98304)) = ⟨#[45, 49, 46, 53]⟩ := by kernel_rfl
theorem ex_fmt2 : strOfNums (fmt 0) = ⟨#[48]⟩ := by kernel_rfl
theorem ex_fmt3 : strOfNums (fmt 1) = ⟨#[48, 46, 48, 48, 48, 48, 49, 53, 50, 53, 56, 55, 56, 57, 48, 54, 50, 53]⟩ := by kernel_rfl
end Go.Proofs.Ytjjllfaehipemaa
