/-
  The contract of package fixed's 'appendDigits'.
-/
import Derived.Test.YtjjllfaehipemaaFix4
namespace Go.Proofs.Ytjjllfaehipemaa
open Go.ChangeShapes Go.WideShapes Go.ChangeAt Go.RowKit

/-- The digits that 'appendDigits' appends, in at most k + 1 calls. -/
def dgs : Nat → Int → Int → List Int
  | 0, n, _ => [48 + n % 10]
  | k + 1, n, wd => if 10 ≤ n ∨ 1 < wd then dgs k (n / 10) (wd - 1) ++ [48 + n % 10] else [48 + n % 10]

/-- The call has handed back a slice of its own that holds the bytes xs; nothing below block B has turned. -/
def Bytes (B : Nat) (xs : List Int) (w : World) (e : Ending) (w' : World) : Prop :=
  ∃ v, e = .returned v ∧ w'.ownsRow B 5 1 v xs.length (xs.map (Value.int .u8)) ∧ Below B w w'

theorem info_u8 : (Try.prog.info? 5).map (fun i => (i.zero, i.size, i.bytes)) = some (some (.int .u8 0), 1, 1) := by kernel_rfl

theorem dgs_pos (k : Nat) (n wd : Int) (h : 10 ≤ n ∨ 1 < wd) : dgs (k + 1) n wd = dgs k (n / 10) (wd - 1) ++ [48 + n % 10] := by rw [dgs, if_pos h]
theorem dgs_neg (k : Nat) (n wd : Int) (h : ¬ (10 ≤ n ∨ 1 < wd)) : dgs k n wd = [48 + n % 10] := by cases k <;> simp [dgs, h]
theorem dgs_len : ∀ (k : Nat) (n wd : Int), (dgs k n wd).length ≤ k + 1
  | 0, n, wd => by simp [dgs]
  | k + 1, n, wd => by
    have := dgs_len k (n / 10) (wd - 1)
    unfold dgs
    split <;> simp <;> omega

theorem new_one (w : World) (u : Value) (t : TypeId) : ∀ j x, [u][j]? = some x → (w.alloc (.cells #[u] t)).cell? ((⟨w.heap.size, 0, none⟩ : Addr).add j) = some x := by
  intro j x hj
  match j, hj with
  | 0, hj =>
    simp at hj
    subst hj
    simp [Addr.add]
theorem one_u8 (n : Int) : ∀ u ∈ [Value.int .u8 n], u.oneCell' = true := by
  intro u hu
  simp at hu
  subst hu
  rfl

theorem last_any (n wd : Int) (B : Nat) (v : Value) (xs : List Int) (w : World) (h0 : 0 ≤ n) (h10 : ¬ 10 ≤ n) (hw : ¬ 1 < wd) (hl : xs.length ≤ 1000) (hB : B ≤ w.heap.size)
    (hown : w.ownsRow B 5 1 v xs.length (xs.map (Value.int .u8))) :
    Calls Try.prog 38 #[v, .int .u64 n, .int .i64 wd] w (Bytes B (xs ++ [48 + n % 10]) w) := by
  obtain ⟨i, hi, hz0, hz1, hz2⟩ := info_parts info_u8
  go_enter Try.func38, Try.ntmps38
  go_wp2_with (at_builtin; refine wpList_append_own _ rfl (.tmp 19) (.tmp 24) 58 rfl B 5 i (.int .u8 0) 1 1 Try.underlying58 hi hz0 hz1 hz2 rfl (by decide) v xs.length _ rfl (hown.alloc _) ⟨w.heap.size, 0, none⟩ 1 1 [.int .u8 (48 + n % 10)] rfl rfl (new_one _ _ _) (one_u8 _) (by unfold maxLen; omega) (by omega) (by simp; omega) ?_)
  intro v' w1 hown' hgrow _
  go_wp2_with (fail)
  go_ret
  refine ⟨v', rfl, ?_, ?_⟩
  · simpa using hown'
  · exact Below.grown ((Below.refl _ _).alloc hB _) hgrow (by simp; omega) (fun k hk => (hown.lt k hk).1)

theorem digits_any (k : Nat) : ∀ (n wd : Int) (B : Nat) (v : Value) (xs : List Int) (w : World), 0 ≤ n → n < 10 ^ (k + 1) → n < 1000000000000000000 → -100 + (k : Int) ≤ wd → wd ≤ (k : Int) + 1 → xs.length + k ≤ 1000 → B ≤ w.heap.size →
    w.ownsRow B 5 1 v xs.length (xs.map (Value.int .u8)) →
    Calls Try.prog 38 #[v, .int .u64 n, .int .i64 wd] w (Bytes B (xs ++ dgs k n wd) w) := by
  induction k with
  | zero =>
    intro n wd B v xs w h0 h1 h2 h3 h4 hl hB hown
    exact last_any n wd B v xs w h0 (by omega) (by omega) (by omega) hB hown
  | succ k ih =>
    intro n wd B v xs w h0 h1 h2 h3 h4 hl hB hown
    by_cases hc : 10 ≤ n ∨ 1 < wd
    · have hrec := ih (n / 10) (wd - 1) B v xs w (by omega) (by rw [Int.pow_succ] at h1; omega) (by omega) (by omega) (by omega) (by omega) hB hown
      have hd := Lib.hid (dgs_pos k n wd hc)
      have hlen := dgs_len k (n / 10) (wd - 1)
      obtain ⟨i, hi, hz0, hz1, hz2⟩ := info_parts info_u8
      clear h1 ih
      by_cases h10 : 10 ≤ n
      all_goals
        try (have h1w : 1 < wd := by omega)
        clear hc
        go_enter Try.func38, Try.ntmps38
        go_wp2_with (fail)
        refine hrec.mono ?_
        rintro e w1 ⟨v1, rfl, hown1, hb1⟩
        have hsz := hb1.size
        have hB1 : B ≤ w1.heap.size := by omega
        generalize hys : xs ++ dgs k (n / 10) (wd - 1) = ys at hown1
        have hyl : ys.length ≤ 1001 := by rw [← hys, List.length_append]; omega
        have hY := Lib.hid hys
        clear hys hsz
        go_wp2_with (at_builtin; refine wpList_append_own _ rfl (.tmp 19) (.tmp 24) 58 rfl B 5 i (.int .u8 0) 1 1 Try.underlying58 hi hz0 hz1 hz2 rfl (by decide) v1 ys.length _ rfl (hown1.alloc _) ⟨w1.heap.size, 0, none⟩ 1 1 [.int .u8 (48 + n % 10)] rfl rfl (new_one _ _ _) (one_u8 _) (by unfold maxLen; omega) (by omega) (by simp; omega) ?_)
        intro v' w2 hown' hgrow _
        go_wp2_with (fail)
        go_ret
        refine ⟨v', rfl, ?_, ?_⟩
        · rw [hd.out, ← List.append_assoc, hY.out]
          simpa using hown'
        · exact hb1.trans (Below.grown ((Below.refl _ _).alloc hB1 _) hgrow (by simp; omega) (fun k hk => (hown1.lt k hk).1))
    · have := last_any n wd B v xs w h0 (by omega) (by omega) (by omega) hB hown
      rwa [dgs_neg _ _ _ hc]
end Go.Proofs.Ytjjllfaehipemaa
