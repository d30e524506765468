/-
  The contract of package armillaryref01's Format.
-/
import Derived.Test.YtjjllfaehipemaaRfd
import Derived.Test.YtjjllfaehipemaaRInt
namespace Go.Proofs.Ytjjllfaehipemaa
open Go.ChangeShapes Go.WideShapes Go.ChangeAt Go.RowKit

theorem below_then' {a b c : World} (h : Below a.heap.size a b) (k : Below b.heap.size b c) : Below a.heap.size a c := h.trans (k.mono h.size)
theorem rd_len (r : Int) : (rd r).length ≤ 16 := by
  have : ∀ (k : Nat) (r : Int), (refd k r).length ≤ k := by
    intro k
    induction k with
    | zero => intro r; simp [refd]
    | succ k ih =>
      intro r
      unfold refd
      split
      · simp
      · have := ih (r * 10 % 65536); simp; omega
  exact this 16 r

set_option maxHeartbeats 1000000 in
theorem rfmt_pos (x : Int) (w : World) (h0 : 0 ≤ x) (h1 : x < 2147483648) :
    Calls Try.prog 27 #[.int .i64 x] w fun e w' => e = .returned (.string (strOfNums (mag x))) ∧ Below w.heap.size w w' := by
  have cI := fun w => rint_any 4 (by decide) (x / 65536) w (by omega) (by omega) (by omega)
  have lI := dgs_len 4 (x / 65536) 1
  have HM := Lib.hid (mag_rd x)
  generalize hW : dgs 4 (x / 65536) 1 = W at *
  by_cases hr : x % 65536 = 0
  · have hr' : Hid (mag x = W) := by have := HM.out; rw [if_pos hr, List.append_nil] at this; exact this
    have hr0 : ¬ 0 < x % 65536 := by omega
    clear HM hW hr
    go_enter Try.func27, Try.ntmps27
    go_wp2_with (fail)
    refine (cI _).mono ?_
    rintro e1 w1 ⟨rfl, hB1⟩
    go_wp2_with (fail)
    refine wp_loop_rounds 1 ?_
    rw [rounds_succ]
    go_wp2_with (fail)
    go_ret
    exact ⟨ret_str (by rw [hr'.out]), hB1⟩
  · have hr' : Hid (mag x = W ++ 46 :: rd (x % 65536)) := by have := HM.out; rw [if_neg hr] at this; exact this
    have hr0 : 0 < x % 65536 := by omega
    have hr1 : x % 65536 < 65536 := by omega
    have hs1 : (strOfNums W).size + (⟨#[46]⟩ : ByteArray).size ≤ 9223372036854775807 := by rw [str_size]; show W.length + 1 ≤ _; omega
    have ha1 : strOfNums W ++ (⟨#[46]⟩ : ByteArray) = strOfNums (W ++ [46]) := by
      have e : (⟨#[46]⟩ : ByteArray) = strOfNums [46] := rfl
      rw [e, str_app]
    have HA := Lib.hid ha1
    clear HM hW hr
    go_enter Try.func27, Try.ntmps27
    go_wp2_with (fail)
    refine (cI _).mono ?_
    rintro e1 w1 ⟨rfl, hB1⟩
    go_wp2_with (fail)
    clear ha1
    go_loopw [3, 4] (fun o r wr => ∃ (P : List Int) (t : Int), o = .string (strOfNums (W ++ 46 :: P)) ∧ r = .int .i64 t ∧ 0 ≤ t ∧ t < 65536 ∧ Hid (P ++ rd t = rd (x % 65536)) ∧ Below w.heap.size w wr) (fun _ r _ => (rd (intOf r)).length)
    case atStart => exact ⟨[], x % 65536, by first | rfl | rw [HA.out], rfl, by omega, hr1, rfl, hB1⟩
    case round =>
      obtain ⟨P, t, rfl, rfl, t0, t1, hP, hBr⟩ := hrel
      have hPl : P.length ≤ 16 := by
        have := congrArg List.length hP.out
        rw [List.length_append] at this
        have := rd_len (x % 65536)
        omega
      by_cases ht : 0 < t
      · have cS := fun w => rint_small (t * 10 / 65536) w (by omega) (by omega)
        have hs2 : (strOfNums (W ++ 46 :: P)).size + (strOfNums [48 + t * 10 / 65536]).size ≤ 9223372036854775807 := by rw [str_size, str_size]; simp; omega
        have HR := Lib.hid (rd_step t ht t1)
        have HA2 : Hid (strOfNums (W ++ 46 :: P) ++ strOfNums [48 + t * 10 / 65536] = strOfNums (W ++ 46 :: (P ++ [48 + t * 10 / 65536]))) := by rw [str_app, List.append_assoc]; exact rfl
        have hb0 : 0 ≤ t * 10 % 65536 := by omega
        have hb1 : t * 10 % 65536 < 65536 := by omega
        go_wp2_with (fail)
        refine (cS _).mono ?_
        rintro e2 w2 ⟨rfl, hB2⟩
        go_wp2_with (fail)
        go_roundw
        case rel => exact ⟨P ++ [48 + t * 10 / 65536], _, by rw [HA2.out], rfl, hb0, hb1, by rw [List.append_assoc]; have := hP.out; rw [HR.out] at this; exact this, below_then' hBr hB2⟩
        case measure => simp only [intOf]; rw [HR.out]; simp
      · obtain rfl : t = 0 := by omega
        have hP' : Hid (P = rd (x % 65536)) := by have := hP.out; rw [rd_zero, List.append_nil] at this; exact this
        go_wp2_with (fail)
        go_ret
        exact ⟨ret_str (by rw [hr'.out, ← hP'.out]), hBr⟩

theorem str_neg (l : List Int) : (⟨#[45]⟩ : ByteArray) ++ strOfNums l = strOfNums (45 :: l) := by
  have e : (⟨#[45]⟩ : ByteArray) = strOfNums [45] := rfl
  rw [e, str_app]
  rfl
theorem mag_len (m : Int) (h0 : 0 ≤ m) (h1 : m < 2147483648) : (mag m).length ≤ 30 := by
  obtain ⟨W, F, hm, _, _, _, hWl, hFl, _⟩ := mag_parts m h0 h1
  rw [hm, List.length_append]
  split <;> simp <;> omega

theorem rfmt_any (x : Int) (w : World) (h0 : -2147483648 < x) (h1 : x < 2147483648) :
    Calls Try.prog 27 #[.int .i64 x] w fun e w' => e = .returned (.string (strOfNums (fmt x))) ∧ Below w.heap.size w w' := by
  by_cases hx : x < 0
  · have e : fmt x = 45 :: mag (-x) := by unfold fmt; rw [if_pos hx]
    rw [e]
    have c := fun w => rfmt_pos (-x) w (by omega) (by omega)
    have hl := mag_len (-x) (by omega) (by omega)
    have hA := Lib.hid (str_neg (mag (-x)))
    have hs : (⟨#[45]⟩ : ByteArray).size + (strOfNums (mag (-x))).size ≤ 9223372036854775807 := by rw [str_size]; show 1 + _ ≤ _; omega
    go_enter Try.func27, Try.ntmps27
    go_wp2_with (fail)
    refine (c _).mono ?_
    rintro e1 w1 ⟨rfl, hB1⟩
    go_wp2_with (fail)
    go_ret
    exact ⟨ret_str hA.out, hB1⟩
  · have e : fmt x = mag x := by unfold fmt; rw [if_neg hx]
    rw [e]
    exact rfmt_pos x w (by omega) h1
end Go.Proofs.Ytjjllfaehipemaa
