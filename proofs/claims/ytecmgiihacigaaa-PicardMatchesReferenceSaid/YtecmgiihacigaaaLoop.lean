/-
  box.Valid, box.Width.
-/
import Derived.Test.YtecmgiihacigaaaSqd
import Derived.Test.YtecmgiihacigaaaIw1
namespace Go.Proofs.Ytecmgiihacigaaa
open Go.ChangeShapes Go.WideShapes Go.ChangeAt Go.RowKit
set_option linter.unusedVariables false
set_option linter.unusedSimpArgs false
set_option maxRecDepth 100000

attribute [local irreducible] Calls
open Go.BigFrame
attribute [local go_sem ↓] run_max_two run_min_two run_max_three

set_option maxHeartbeats 1000000 in
theorem box_valid (v : Value) (l : List (Int × Int)) (w : World) (hv : Bx w v l) :
    Calls Try.prog 63 #[v] w fun e w' => e = .returned (.bool (l.all (fun p => decide (VI p.1 p.2)) && (decide (1 ≤ l.length) && decide (l.length ≤ 6)))) ∧ Below w.heap.size w w' := by
  obtain ⟨hl, p, c, rfl, hp⟩ := hv
  unfold maxLen at hl
  go_enter Try.func63, Try.ntmps63
  go_wp2_with (fail)
  go_loopw [7] (fun i wr => ∃ k : Nat, i = .int .i64 k ∧ k ≤ l.length ∧ Hid (∀ p ∈ l.take k, VI p.1 p.2) ∧ Below w.heap.size w wr) (fun i _ => l.length - (intOf i).toNat)
  case atStart => exact ⟨0, rfl, Nat.zero_le _, Lib.hid (by simp), Below.refl _ _⟩
  case round =>
    obtain ⟨k, rfl, hk, hz, hB⟩ := hrel
    by_cases hlt : k < l.length
    · obtain ⟨b, o, x, y, rfl, hx, hb, c1, c2⟩ := Bx.at (c := 0) (n := 0) hp hlt hB
      have hlk : (k : Int) < l.length := by omega
      have HX := Lib.hid hx
      have hbw : b < wr.heap.size := Nat.lt_of_lt_of_le hb hB.size
      have hsz := hB.size
      clear hp hx
      by_cases hV : VI x y
      · have cv := fun w => iv_valid x y true w (by simp [hV])
        have HV := Lib.hid hV
        clear hV
        go_wp2_with (fail)
        refine (cv _).mono ?_
        rintro e w5 ⟨rfl, hB5⟩
        go_wp2_with (fail)
        go_roundw
        case rel =>
          refine ⟨k + 1, by go_num, by omega, ?_, (hB.alloc hB.size _).trans (hB5.mono (by simp; omega))⟩
          intro p hp
          rw [List.take_add_one, HX.out] at hp
          rcases List.mem_append.1 hp with h | h
          · exact hz.out p h
          · have : p = (x, y) := by simpa using h
            rw [this]
            exact HV.out
        case measure => simp [intOf]; omega
      · have cv := fun w => iv_valid x y false w (by simp [hV])
        have HV := Lib.hid hV
        clear hV
        go_wp2_with (fail)
        refine (cv _).mono ?_
        rintro e w5 ⟨rfl, hB5⟩
        go_wp2_with (fail)
        go_ret
        refine ⟨ret_bool ?_, (hB.alloc hB.size _).trans (hB5.mono (by simp; omega))⟩
        have : l.all (fun p => decide (VI p.1 p.2)) = false := by
          rw [Bool.eq_false_iff]
          intro h
          have := List.all_eq_true.1 h (x, y) (List.mem_of_getElem? HX.out)
          exact HV.out (by simpa using this)
        rw [this]
        rfl
    · obtain rfl : k = l.length := by omega
      have hall : l.all (fun p => decide (VI p.1 p.2)) = true := by
        rw [List.all_eq_true]
        intro p hp
        have := hz.out p (by rw [List.take_of_length_le (Nat.le_refl _)]; exact hp)
        simpa using this
      have HALL := Lib.hid hall
      clear hall
      by_cases g1 : 1 ≤ l.length
      · by_cases g2 : l.length ≤ 6
        · have i1 : (1 : Int) ≤ l.length := by omega
          have i2 : (l.length : Int) ≤ 6 := by omega
          go_wp2_with (fail)
          go_ret
          exact ⟨ret_bool (by simp [HALL.out, g1, g2] <;> omega), hB⟩
        · have i1 : (1 : Int) ≤ l.length := by omega
          have i2 : (6 : Int) < l.length := by omega
          go_wp2_with (fail)
          go_ret
          exact ⟨ret_bool (by simp [HALL.out, g1, g2] <;> omega), hB⟩
      · have i1 : (l.length : Int) < 1 := by omega
        go_wp2_with (fail)
        go_ret
        exact ⟨ret_bool (by simp [HALL.out, g1]), hB⟩

def wdt (p : Int × Int) : Int := p.2 - p.1
def wmax (l : List (Int × Int)) : Int := l.foldl (fun s p => max s (wdt p)) 0
end Go.Proofs.Ytecmgiihacigaaa
