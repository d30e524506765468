/-
  law03's magnitude.
  law03's unbounded.
-/
import Derived.Test.YtpepgheocemjdaaBoxes
import Derived.Test.YtpepgheocemjdaaSqd
import Derived.Test.YtpepgheocemjdaaIw1
namespace Go.Proofs.Ytpepgheocemjdaa
open Go.ChangeShapes Go.WideShapes Go.ChangeAt Go.RowKit
set_option linter.unusedVariables false
set_option linter.unusedSimpArgs false
set_option maxRecDepth 100000

attribute [local irreducible] Calls
theorem tmod_small (x : Int) : -16777216 < x.tmod 16777216 ∧ x.tmod 16777216 < 16777216 := by
  refine ⟨?_, Int.tmod_lt_of_pos x (by decide)⟩
  have h := Int.tmod_lt_of_pos (-x) (show (0 : Int) < 16777216 by decide)
  rw [Int.neg_tmod] at h
  omega
theorem r1made (x : Int) (w : World) (h0 : -9223372036854775808 ≤ x) (h1 : x ≤ 9223372036854775807) :
    Calls Try.prog 35 #[.int .i64 x] w fun e w' => e = .returned (.int .i64 (x.tmod 16777216)) ∧ w = w' := by
  go_enter Try.func35, Try.ntmps35
  go_wp2_with (fail)
  go_ret
  exact ⟨rfl, rfl⟩
def mag (x : Int) : Int := max (x.tmod 16777216) (-(x.tmod 16777216))
theorem mag_bd (x : Int) : 0 ≤ mag x ∧ mag x < 16777216 := by
  have := tmod_small x
  unfold mag
  omega
theorem law_mag (x : Int) (w : World) (h0 : -9223372036854775808 ≤ x) (h1 : x ≤ 9223372036854775807) :
    Calls Try.prog 27 #[.int .i64 x] w fun e w' => e = .returned (.int .i64 (mag x)) ∧ w = w' := by
  have c1 := fun w => r1made x w h0 h1
  obtain ⟨q0, q1⟩ := tmod_small x
  unfold mag
  generalize x.tmod 16777216 = q at *
  rcases Int.lt_trichotomy q 0 with h | h | h
  · have h2 : q < -q := by omega
    rw [show max q (-q) = -q by omega]
    go_enter Try.func27, Try.ntmps27
    go_wp2_with (fail)
    refine (c1 _).mono ?_
    rintro e w' ⟨rfl, rfl⟩
    go_wp2_with (fail)
    go_ret
    exact ⟨rfl, rfl⟩
  · subst h
    go_enter Try.func27, Try.ntmps27
    go_wp2_with (fail)
    refine (c1 _).mono ?_
    rintro e w' ⟨rfl, rfl⟩
    go_wp2_with (fail)
    go_ret
    exact ⟨rfl, rfl⟩
  · have h2 : -q < q := by omega
    rw [show max q (-q) = q by omega]
    go_enter Try.func27, Try.ntmps27
    go_wp2_with (fail)
    refine (c1 _).mono ?_
    rintro e w' ⟨rfl, rfl⟩
    go_wp2_with (fail)
    go_ret
    exact ⟨rfl, rfl⟩
end Go.Proofs.Ytpepgheocemjdaa

namespace Go.Proofs.Ytpepgheocemjdaa
open Go.ChangeShapes Go.WideShapes Go.ChangeAt Go.RowKit
set_option linter.unusedVariables false
set_option linter.unusedSimpArgs false
set_option maxRecDepth 100000

attribute [local irreducible] Calls
def unb (l : List (Int × Int)) : Bool := l.any (fun p => decide (Ent p.1 p.2))
set_option maxHeartbeats 1000000 in
theorem law_unb (v : Value) (l : List (Int × Int)) (w : World) (hv : Bx w v l) :
    Calls Try.prog 59 #[v] w fun e w' => e = .returned (.bool (unb l)) ∧ Below w.heap.size w w' := by
  obtain ⟨hl, p, c, rfl, hp⟩ := hv
  unfold maxLen at hl
  go_enter Try.func59, Try.ntmps59
  go_wp2_with (fail)
  go_loopw [3] (fun i wr => ∃ k : Nat, i = .int .i64 k ∧ k ≤ l.length ∧ Hid (∀ p ∈ l.take k, ¬ Ent p.1 p.2) ∧ Below w.heap.size w wr) (fun i _ => l.length - (intOf i).toNat)
  case atStart => exact ⟨0, rfl, Nat.zero_le _, Lib.hid (by simp), Below.refl _ _⟩
  case round =>
    obtain ⟨k, rfl, hk, hz, hB⟩ := hrel
    by_cases hlt : k < l.length
    · obtain ⟨b, o, x, y, rfl, hx, hb, c1, c2⟩ := Bx.at (c := 0) (n := 0) hp hlt hB
      have hlk : (k : Int) < l.length := by omega
      have HX := Lib.hid hx
      have hbw : b < wr.heap.size := Nat.lt_of_lt_of_le hb hB.size
      have hsz := hB.size
      clear hp hx
      by_cases hV : Ent x y
      · have hE : (x == -2147483648 && y == 2147483648) = true := by obtain ⟨rfl, rfl⟩ := hV; rfl
        have HE := Lib.hid hE
        clear hE
        have cv := fun w => iv_isent x y true w (by exact HE.out)
        have HV := Lib.hid hV
        clear hV
        go_wp2_with (fail)
        refine (cv _).mono ?_
        rintro e w5 ⟨rfl, hB5⟩
        go_wp2_with (fail)
        go_ret
        refine ⟨ret_bool ?_, hB.trans (hB5.mono (by omega))⟩
        exact (List.any_eq_true.2 ⟨(x, y), List.mem_of_getElem? HX.out, by simpa using HV.out⟩).symm
      · have hE : (x == -2147483648 && y == 2147483648) = false := by
          rw [Bool.eq_false_iff]
          intro h
          simp at h
          exact hV h
        have HE := Lib.hid hE
        clear hE
        have cv := fun w => iv_isent x y false w (by exact HE.out)
        have HV := Lib.hid hV
        clear hV
        go_wp2_with (fail)
        refine (cv _).mono ?_
        rintro e w5 ⟨rfl, hB5⟩
        go_wp2_with (fail)
        go_roundw
        case rel =>
          refine ⟨k + 1, by go_num, by omega, ?_, hB.trans (hB5.mono (by omega))⟩
          intro p hp
          rw [List.take_add_one, HX.out] at hp
          rcases List.mem_append.1 hp with h | h
          · exact hz.out p h
          · have : p = (x, y) := by simpa using h
            rw [this]
            exact HV.out
        case measure => simp [intOf]; omega
    · obtain rfl : k = l.length := by omega
      have hall : unb l = false := by
        unfold unb
        rw [List.any_eq_false]
        intro p hp
        have := hz.out p (by rw [List.take_of_length_le (Nat.le_refl _)]; exact hp)
        simpa using this
      have HALL := Lib.hid hall
      clear hall hp
      go_wp2_with (fail)
      go_ret
      exact ⟨ret_bool HALL.out.symm, hB⟩
end Go.Proofs.Ytpepgheocemjdaa
