/-
  Contracts of package armillaryref02: a region that loads beside calls that make memory.
-/
import Derived.Test.YtecmgiihacigaaaIv
import Derived.Deep.RegionWith
namespace Go.Proofs.Ytecmgiihacigaaa
open Go.ChangeShapes Go.WideShapes Go.ChangeAt Go.RowKit
set_option linter.unusedVariables false

set_option maxHeartbeats 1000000 in
theorem r2sub (a b c d : Int) (w : World) (ha1 : -2147483648 ≤ a) (ha2 : a ≤ 2147483648) (hb1 : -2147483648 ≤ b) (hb2 : b ≤ 2147483648) (hc1 : -2147483648 ≤ c) (hc2 : c ≤ 2147483648) (hd1 : -2147483648 ≤ d) (hd2 : d ≤ 2147483648) :
    Calls Try.prog 98 #[.agg #[.int .i64 a, .int .i64 b], .agg #[.int .i64 c, .int .i64 d]] w fun e w' => e = .returned (.agg #[.int .i64 (addLo a b (-d) (-c)), .int .i64 (addHi a b (-d) (-c))]) ∧ Below w.heap.size w w' := by
  have c1 := fun w => r2neg c d w hc1 hc2 hd1 hd2
  have c2 := fun w => r2add a b (-d) (-c) w ha1 ha2 hb1 hb2 (by omega) (by omega) (by omega) (by omega)
  generalize addLo a b (-d) (-c) = p at *
  generalize addHi a b (-d) (-c) = q at *
  go_enter Try.func98, Try.ntmps98
  go_wp2_with (fail)
  go_region_with (first
    | (go_at_call 95; refine (c1 _).mono ?_; rintro e w' ⟨rfl, hB⟩; obtain ⟨kc, kf⟩ := bcell hB; have hz := hB.size; simp only [World.size_alloc, World.size_drew] at hz; have k0 : w.heap.size < w'.heap.size := by omega
       have k1 : w.heap.size + 1 < w'.heap.size := by omega
       have k2 : w.heap.size + 1 + 1 < w'.heap.size := by omega)
    | (go_at_call 31; refine (c2 _).mono ?_; rintro e w'' ⟨rfl, hB2⟩; obtain ⟨kc2, kf2⟩ := bcell hB2))
  all_goals go_wp2_with (fail)
  all_goals
    have q0 := kc2 (w.heap.size + 1 + 1) 0 k2
    have q1 := kc2 (w.heap.size + 1 + 1) 1 k2
    have q2 := kc (w.heap.size + 1 + 1) 0 (by simp)
    have q3 := kc (w.heap.size + 1 + 1) 1 (by simp)
    rw [World.cell?_drew, World.cell?_alloc_at _ _ _ _ (by simp)] at q2 q3
    refine bodyPost_ret (v := .agg #[.int .i64 p, .int .i64 q]) (by simp [results, Try.results98, go_sem, q0, q1, q2, q3]) rfl ⟨rfl, ?_⟩
    go_grown
    refine Below.trans (Below.trans ?_ (hB.mono ?_)) (hB2.mono (by omega))
    · go_grown
    · simp only [World.size_alloc, World.size_drew]; omega
end Go.Proofs.Ytecmgiihacigaaa
