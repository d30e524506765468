/-
  Identity for any dimension: the program's and the reference's.
-/
import Derived.Test.YtmcdkbnpcmiojaaRefA
namespace Go.Proofs.Ytmcdkbnpcmiojaa
open Go.ChangeShapes Go.WideShapes Go.ChangeAt Go.RowKit
set_option linter.unusedVariables false
set_option linter.unusedSimpArgs false
set_option maxRecDepth 100000

attribute [local irreducible] Calls
def idM (n : Nat) : List (List (Int × Int)) := if 1 ≤ n ∧ n ≤ 6 then matOf idF n else []
theorem idM_sq {n : Nat} (h1 : 1 ≤ n) (h6 : n ≤ 6) : idM n = matOf idF n := if_pos ⟨h1, h6⟩
theorem mx_nil (w : World) (p : Option Addr) (c : Nat) : Mx w (.slice p 0 c) [] := ⟨Nat.zero_le _, p, c, rfl, fun k x h => by simp at h⟩
set_option maxHeartbeats 2000000 in
theorem ident_any (n : Nat) (w : World) (hn : n ≤ 1000) :
    Calls Try.prog 25 #[.int .i64 (n : Int)] w fun e w' => ∃ u, e = .returned u ∧ Mx w' u (idM n) ∧ Below w.heap.size w w' := by
  by_cases h : 1 ≤ n ∧ n ≤ 6
  · rw [show idM n = matOf idF n from if_pos h]
    exact mx_ident n w h.1 h.2
  · have e : idM n = [] := if_neg h
    rw [e]
    by_cases h0 : 1 ≤ n
    · have d1 : decide ((n : Int) < 1) = false := decide_eq_false (by omega)
      have d2 : decide ((6 : Int) < n) = true := decide_eq_true (by omega)
      go_enter Try.func25, Try.ntmps25
      go_wp2_with (fail)
      go_ret
      exact ⟨_, rfl, mx_nil _ _ _, Below.refl _ _⟩
    · obtain rfl : n = 0 := by omega
      go_enter Try.func25, Try.ntmps25
      go_wp2_with (fail)
      go_ret
      exact ⟨_, rfl, mx_nil _ _ _, Below.refl _ _⟩
end Go.Proofs.Ytmcdkbnpcmiojaa
