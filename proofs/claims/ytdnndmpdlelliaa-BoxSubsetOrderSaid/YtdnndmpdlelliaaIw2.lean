/-
  Contracts of package interval: bounded, choose, New, Point.
-/
import Derived.Test.YtdnndmpdlelliaaIw1
namespace Go.Proofs.Ytdnndmpdlelliaa
open Go.ChangeShapes Go.WideShapes Go.ChangeAt Go.RowKit
set_option linter.unusedVariables false
set_option linter.unusedSimpArgs false
set_option maxRecDepth 100000

def Bd (a b : Int) : Prop := Num a ∧ Num b ∧ a ≤ b
instance (a b : Int) : Decidable (Bd a b) := inferInstanceAs (Decidable (_ ∧ _))

theorem fx_valid (x : Int) (r : Bool) (w : World) (h : decide (Num x) = r) :
    Calls Try.prog 122 #[.int .i64 x] w fun e w' => e = .returned (.bool r) ∧ w = w' := by
  refine (valid_any x w).mono ?_
  rintro e w' ⟨he, hw⟩
  refine ⟨?_, hw⟩
  rw [he, ← h]
  congr 2
  unfold Num
  by_cases h1 : -2147483648 < x <;> by_cases h2 : x < 2147483648 <;> simp [h1, h2]

theorem iv_bounded (a b : Int) (r : Bool) (w : World) (h : decide (Bd a b) = r) :
    Calls Try.prog 98 #[.agg #[.int .i64 a, .int .i64 b]] w fun e w' => e = .returned (.bool r) ∧ Below w.heap.size w w' := by
  by_cases h1 : Num a
  · have c1 := fun w => fx_valid a true w (by simp [h1])
    by_cases h2 : Num b
    · have c2 := fun w => fx_valid b true w (by simp [h2])
      have hr : decide (a ≤ b) = r := by rw [← h]; unfold Bd; simp [h1, h2]
      clear h h1 h2
      go_enter Try.func98, Try.ntmps98
      go_wp2_with (fail)
      refine (c1 _).mono ?_
      rintro e1 w1 ⟨rfl, rfl⟩
      go_wp2_with (fail)
      refine (c2 _).mono ?_
      rintro e2 w2 ⟨rfl, rfl⟩
      go_wp2_with (fail)
      go_ret
      refine ⟨by first | rfl | simp [hr], ?_⟩
      go_grown
    · have c2 := fun w => fx_valid b false w (by simp [h2])
      have hr : r = false := by rw [← h]; unfold Bd; simp [h2]
      subst hr
      clear h h1 h2
      go_enter Try.func98, Try.ntmps98
      go_wp2_with (fail)
      refine (c1 _).mono ?_
      rintro e1 w1 ⟨rfl, rfl⟩
      go_wp2_with (fail)
      refine (c2 _).mono ?_
      rintro e2 w2 ⟨rfl, rfl⟩
      go_wp2_with (fail)
      go_ret
      refine ⟨rfl, ?_⟩
      go_grown
  · have c1 := fun w => fx_valid a false w (by simp [h1])
    have hr : r = false := by rw [← h]; unfold Bd; simp [h1]
    subst hr
    clear h h1
    go_enter Try.func98, Try.ntmps98
    go_wp2_with (fail)
    refine (c1 _).mono ?_
    rintro e1 w1 ⟨rfl, rfl⟩
    go_wp2_with (fail)
    go_ret
    refine ⟨rfl, ?_⟩
    go_grown

theorem ch_int (c : Bool) (x y : Int) (w : World) :
    Calls Try.prog 104 #[.bool c, .int .i64 x, .int .i64 y] w fun e w' => e = .returned (.int .i64 (if c = true then x else y)) ∧ w = w' := by
  cases c
  all_goals
    go_enter Try.func104, Try.ntmps104
    go_wp2
    go_ret
    exact ⟨rfl, rfl⟩
theorem ch_fun (c : Bool) (f g : FuncId) (w : World) :
    Calls Try.prog 135 #[.bool c, .func (.func f) #[] #[], .func (.func g) #[] #[]] w fun e w' => e = .returned (.func (.func (if c = true then f else g)) #[] #[]) ∧ w = w' := by
  cases c
  all_goals
    go_enter Try.func135, Try.ntmps135
    go_wp2
    go_ret
    exact ⟨rfl, rfl⟩
theorem ch_iv (c : Bool) (x y x' y' : Int) (w : World) :
    Calls Try.prog 105 #[.bool c, .agg #[.int .i64 x, .int .i64 y], .agg #[.int .i64 x', .int .i64 y']] w fun e w' => e = .returned (.agg #[.int .i64 (if c = true then x else x'), .int .i64 (if c = true then y else y')]) ∧ Below w.heap.size w w' := by
  cases c
  · go_enter Try.func105, Try.ntmps105
    go_wp2
    refine bodyPost_ret (v := .agg #[.int .i64 x', .int .i64 y']) (by simp [results, Try.results105, go_sem]) rfl ⟨rfl, ?_⟩
    go_grown
  · go_enter Try.func105, Try.ntmps105
    go_wp2
    refine bodyPost_ret (v := .agg #[.int .i64 x, .int .i64 y]) (by simp [results, Try.results105, go_sem]) rfl ⟨rfl, ?_⟩
    go_grown

theorem iv_new (lo hi : Int) (w : World) (h : lo ≤ hi) :
    Calls Try.prog 46 #[.int .i64 lo, .int .i64 hi] w fun e w' => e = .returned (.agg #[.int .i64 (mkLo lo hi), .int .i64 (mkHi lo hi)]) ∧ Below w.heap.size w w' := by
  obtain ⟨r, hr⟩ : ∃ r, decide (Bd lo hi) = r := ⟨_, rfl⟩
  have e1 : (if r = true then lo else -2147483648) = mkLo lo hi := by
    rw [← hr]; unfold Bd mkLo; by_cases h1 : Num lo <;> by_cases h2 : Num hi <;> simp [h1, h2, h]
  have e2 : (if r = true then hi else 2147483648) = mkHi lo hi := by
    rw [← hr]; unfold Bd mkHi; by_cases h1 : Num lo <;> by_cases h2 : Num hi <;> simp [h1, h2, h]
  have c1 := fun w => iv_bounded lo hi r w hr
  have c2 := fun w => ch_iv r lo hi (-2147483648) 2147483648 w
  rw [e1, e2] at c2
  generalize mkLo lo hi = p at *
  generalize mkHi lo hi = q at *
  clear e1 e2 hr
  go_enter Try.func46, Try.ntmps46
  go_wp2_with (fail)
  refine region_data 5 23 _ (by kernel_rfl) new_iv (by kernel_rfl) ?_
  refine data_op _ rfl (RQ_load rfl rfl (load_iv (x := lo) (y := hi) (by simp) (by simp [go_sem]) (by simp [go_sem]))) ?_
  refine data_op _ rfl (RQ_call c1 (fun _ => by simp [go_sem])) ?_
  refine data_op _ rfl (RQ_load rfl rfl (load_iv (x := lo) (y := hi) (by simp) (by simp [go_sem]) (by simp [go_sem]))) ?_
  refine data_op _ rfl (RQ_call iv_entire (fun _ => by simp [go_sem])) ?_
  refine data_op _ rfl (RQ_call c2 (fun _ => by simp [go_sem])) ?_
  refine data_end ?_
  intro w' hB
  obtain ⟨kc, kf⟩ := bcell hB
  have hz := hB.size
  simp only [World.size_alloc] at hz
  have hs0 : w.heap.size < w'.heap.size := by omega
  have hs1 : w.heap.size + 1 < w'.heap.size := by omega
  have q0 : w'.cell? ⟨w.heap.size, 0, none⟩ = some (.int .i64 0) := (kc _ _ (by simp; omega)).trans (by simp [go_sem])
  have q1 : w'.cell? ⟨w.heap.size, 1, none⟩ = some (.int .i64 0) := (kc _ _ (by simp; omega)).trans (by simp [go_sem])
  simp only [Act.put, List.drop_succ_cons, List.drop_zero, List.take_succ_cons, List.take_zero, alDsts, List.filterMap_cons, List.filterMap_nil, isAl, Bool.false_eq_true, if_false, finK]
  go_wp2_with (fail)
  refine bodyPost_ret (v := .agg #[.int .i64 p, .int .i64 q]) (by simp [results, Try.results46, go_sem, q0, q1]) rfl ⟨rfl, ?_⟩
  have hB' := below_then (((Below.refl w.heap.size w).alloc (Nat.le_refl _) _).alloc (by simp) _) hB
  go_grown

theorem iv_point (x : Int) (w : World) :
    Calls Try.prog 44 #[.int .i64 x] w fun e w' => e = .returned (.agg #[.int .i64 (mkLo x x), .int .i64 (mkHi x x)]) ∧ Below w.heap.size w w' := by
  have c := fun w => iv_new x x w (Int.le_refl _)
  generalize mkLo x x = p at *
  generalize mkHi x x = q at *
  go_enter Try.func44, Try.ntmps44
  go_wp2_with (fail)
  refine (c _).mono ?_
  rintro e1 w1 ⟨rfl, hB1⟩
  obtain ⟨kc1, kf1⟩ := bcell hB1
  have hz1 := hB1.size
  simp only [World.size_alloc] at hz1
  have hs10 : w.heap.size < w1.heap.size := by omega
  go_wp2_with (fail)
  refine bodyPost_ret (v := .agg #[.int .i64 p, .int .i64 q]) (by simp [results, Try.results44, go_sem, kc1, hs10]) rfl ⟨rfl, ?_⟩
  have hB' := below_then ((Below.refl w.heap.size w).alloc (Nat.le_refl _) _) hB1
  go_grown
end Go.Proofs.Ytdnndmpdlelliaa
