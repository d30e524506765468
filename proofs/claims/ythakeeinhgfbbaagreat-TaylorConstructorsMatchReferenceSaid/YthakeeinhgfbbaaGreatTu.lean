/-
  Package poly: termRange, truncated.
-/
import Derived.Test.YthakeeinhgfbbaaGreatTs
namespace Go.Proofs.YthakeeinhgfbbaaGreat
open Go.ChangeShapes Go.WideShapes Go.ChangeAt Go.RowKit
set_option linter.unusedVariables false
set_option linter.unusedSimpArgs false
set_option maxRecDepth 100000

attribute [local irreducible] Calls
/-- The range of a term over [-1, 1]. -/
def trg (t : Tm) : Int × Int := if degE t.2 = 0 then (t.1, t.1) else if evenE t.2 = true then (min t.1 0, max t.1 0) else (-max t.1 (-t.1), max t.1 (-t.1))
set_option maxHeartbeats 4000000 in
theorem trg_ok (k a0 a1 a2 a3 a4 a5 : Int) (w : World) (h : TV (k, [a0, a1, a2, a3, a4, a5])) (hk : Num k) :
    Calls Tryz.prog 107 #[.agg #[.int .i64 k, .int .u8 a0, .int .u8 a1, .int .u8 a2, .int .u8 a3, .int .u8 a4, .int .u8 a5]] w fun e w' => e = .returned (.agg #[.int .i64 (trg (k, [a0, a1, a2, a3, a4, a5])).1, .int .i64 (trg (k, [a0, a1, a2, a3, a4, a5])).2]) ∧ Below w.heap.size w w' := by
  unfold Num at hk
  have HD := Lib.hid (fun w => degree_ok [a0, a1, a2, a3, a4, a5] w h.1)
  have HE := Lib.hid (fun w => even_ok [a0, a1, a2, a3, a4, a5] w h.1)
  rw [show valE [a0, a1, a2, a3, a4, a5] = .agg #[.int .u8 a0, .int .u8 a1, .int .u8 a2, .int .u8 a3, .int .u8 a4, .int .u8 a5] from rfl] at HD HE
  have Wn := wrap_i64 (-k) (by omega) (by omega)
  have Wm := wrap_i64 (-max k (-k)) (by omega) (by omega)
  have em : (if k < -k then -k else k) = max k (-k) := by omega
  have em2 : (if -k < k then k else -k) = max k (-k) := by omega
  unfold trg
  dsimp only
  clear h
  obtain ⟨D, hD⟩ : ∃ D, degE [a0, a1, a2, a3, a4, a5] = D := ⟨_, rfl⟩
  obtain ⟨E, hE⟩ : ∃ E, evenE [a0, a1, a2, a3, a4, a5] = E := ⟨_, rfl⟩
  rw [hD] at HD ⊢
  rw [hE] at HE ⊢
  clear hD hE
  by_cases h0 : D = 0
  · subst h0
    rw [if_pos rfl]
    go_enter Tryz.func107, Tryz.ntmps107
    go_wp2_with (fail)
    refine (HD.out _).mono ?_
    rintro e1 w1 ⟨rfl, hB1⟩
    obtain ⟨kc1, kf1⟩ := bcell hB1
    have hz1 := hB1.size
    simp only [World.size_alloc] at hz1
    have hs10 : w.heap.size < w1.heap.size := by omega
    have hs11 : w.heap.size + 1 < w1.heap.size := by omega
    have hB' := below_then (((Below.refl w.heap.size w).alloc (Nat.le_refl _) _).alloc (by simp) _) hB1
    have r0 := kc1 w.heap.size 0 (by simp only [World.size_alloc]; omega)
    have r1 := kc1 w.heap.size 1 (by simp only [World.size_alloc]; omega)
    have r2 := kc1 w.heap.size 2 (by simp only [World.size_alloc]; omega)
    have r3 := kc1 w.heap.size 3 (by simp only [World.size_alloc]; omega)
    have r4 := kc1 w.heap.size 4 (by simp only [World.size_alloc]; omega)
    have r5 := kc1 w.heap.size 5 (by simp only [World.size_alloc]; omega)
    have r6 := kc1 w.heap.size 6 (by simp only [World.size_alloc]; omega)
    have q0 := kc1 (w.heap.size + 1) 0 (by simp only [World.size_alloc]; omega)
    have q1 := kc1 (w.heap.size + 1) 1 (by simp only [World.size_alloc]; omega)
    have z0 := kf1 (w.heap.size + 1) 0 (by simp only [World.size_alloc]; omega)
    have z1 := kf1 (w.heap.size + 1) 1 (by simp only [World.size_alloc]; omega)
    simp [go_sem] at r0 r1 r2 r3 r4 r5 r6 q0 q1 z0 z1
    go_wp2_with (fail)
    refine bodyPost_ret (v := .agg #[.int .i64 k, .int .i64 k]) (by simp [results, Tryz.results107, go_sem, q0, q1]) rfl ⟨rfl, ?_⟩
    go_grown
  · rw [if_neg h0]
    have hne : (D == 0) = false := by simpa using h0
    cases E with
    | true =>
      rw [if_pos rfl]
      go_enter Tryz.func107, Tryz.ntmps107
      go_wp2_with (fail)
      refine (HD.out _).mono ?_
      rintro e1 w1 ⟨rfl, hB1⟩
      obtain ⟨kc1, kf1⟩ := bcell hB1
      have hz1 := hB1.size
      simp only [World.size_alloc] at hz1
      have hs10 : w.heap.size < w1.heap.size := by omega
      have hs11 : w.heap.size + 1 < w1.heap.size := by omega
      have hB' := below_then (((Below.refl w.heap.size w).alloc (Nat.le_refl _) _).alloc (by simp) _) hB1
      have r0 := kc1 w.heap.size 0 (by simp only [World.size_alloc]; omega)
      have r1 := kc1 w.heap.size 1 (by simp only [World.size_alloc]; omega)
      have r2 := kc1 w.heap.size 2 (by simp only [World.size_alloc]; omega)
      have r3 := kc1 w.heap.size 3 (by simp only [World.size_alloc]; omega)
      have r4 := kc1 w.heap.size 4 (by simp only [World.size_alloc]; omega)
      have r5 := kc1 w.heap.size 5 (by simp only [World.size_alloc]; omega)
      have r6 := kc1 w.heap.size 6 (by simp only [World.size_alloc]; omega)
      have q0 := kc1 (w.heap.size + 1) 0 (by simp only [World.size_alloc]; omega)
      have q1 := kc1 (w.heap.size + 1) 1 (by simp only [World.size_alloc]; omega)
      have z0 := kf1 (w.heap.size + 1) 0 (by simp only [World.size_alloc]; omega)
      have z1 := kf1 (w.heap.size + 1) 1 (by simp only [World.size_alloc]; omega)
      simp [go_sem] at r0 r1 r2 r3 r4 r5 r6 q0 q1 z0 z1
      go_wp2_with (fail)
      refine (HE.out _).mono ?_
      rintro e2 w2 ⟨rfl, hB2⟩
      obtain ⟨kc2, kf2⟩ := bcell hB2
      have hz2 := hB2.size
      have hs20 : w.heap.size < w2.heap.size := by omega
      have hs21 : w.heap.size + 1 < w2.heap.size := by omega
      have hB2' := below_then hB' hB2
      have y0 := kc2 w.heap.size 0 (by omega)
      have y1 := kc2 w.heap.size 1 (by omega)
      have y2 := kc2 w.heap.size 2 (by omega)
      have y3 := kc2 w.heap.size 3 (by omega)
      have y4 := kc2 w.heap.size 4 (by omega)
      have y5 := kc2 w.heap.size 5 (by omega)
      have y6 := kc2 w.heap.size 6 (by omega)
      rw [r0] at y0
      rw [r1] at y1
      rw [r2] at y2
      rw [r3] at y3
      rw [r4] at y4
      rw [r5] at y5
      rw [r6] at y6
      have p0 := kc2 (w.heap.size + 1) 0 (by omega)
      have p1 := kc2 (w.heap.size + 1) 1 (by omega)
      rw [q0] at p0
      rw [q1] at p1
      have u0 := kf2 (w.heap.size + 1) 0 (by omega)
      have u1 := kf2 (w.heap.size + 1) 1 (by omega)
      rw [z0] at u0
      rw [z1] at u1
      go_wp2_with (fail)
      all_goals (
        refine bodyPost_ret (v := .agg #[.int .i64 (min k 0), .int .i64 (max k 0)]) (by simp [results, Tryz.results107, go_sem, p0, p1] <;> omega) rfl ⟨rfl, ?_⟩
        go_grown)
    | false =>
      rw [if_neg (by decide)]
      go_enter Tryz.func107, Tryz.ntmps107
      go_wp2_with (fail)
      refine (HD.out _).mono ?_
      rintro e1 w1 ⟨rfl, hB1⟩
      obtain ⟨kc1, kf1⟩ := bcell hB1
      have hz1 := hB1.size
      simp only [World.size_alloc] at hz1
      have hs10 : w.heap.size < w1.heap.size := by omega
      have hs11 : w.heap.size + 1 < w1.heap.size := by omega
      have hB' := below_then (((Below.refl w.heap.size w).alloc (Nat.le_refl _) _).alloc (by simp) _) hB1
      have r0 := kc1 w.heap.size 0 (by simp only [World.size_alloc]; omega)
      have r1 := kc1 w.heap.size 1 (by simp only [World.size_alloc]; omega)
      have r2 := kc1 w.heap.size 2 (by simp only [World.size_alloc]; omega)
      have r3 := kc1 w.heap.size 3 (by simp only [World.size_alloc]; omega)
      have r4 := kc1 w.heap.size 4 (by simp only [World.size_alloc]; omega)
      have r5 := kc1 w.heap.size 5 (by simp only [World.size_alloc]; omega)
      have r6 := kc1 w.heap.size 6 (by simp only [World.size_alloc]; omega)
      have q0 := kc1 (w.heap.size + 1) 0 (by simp only [World.size_alloc]; omega)
      have q1 := kc1 (w.heap.size + 1) 1 (by simp only [World.size_alloc]; omega)
      have z0 := kf1 (w.heap.size + 1) 0 (by simp only [World.size_alloc]; omega)
      have z1 := kf1 (w.heap.size + 1) 1 (by simp only [World.size_alloc]; omega)
      simp [go_sem] at r0 r1 r2 r3 r4 r5 r6 q0 q1 z0 z1
      go_wp2_with (fail)
      refine (HE.out _).mono ?_
      rintro e2 w2 ⟨rfl, hB2⟩
      obtain ⟨kc2, kf2⟩ := bcell hB2
      have hz2 := hB2.size
      have hs20 : w.heap.size < w2.heap.size := by omega
      have hs21 : w.heap.size + 1 < w2.heap.size := by omega
      have hB2' := below_then hB' hB2
      have y0 := kc2 w.heap.size 0 (by omega)
      have y1 := kc2 w.heap.size 1 (by omega)
      have y2 := kc2 w.heap.size 2 (by omega)
      have y3 := kc2 w.heap.size 3 (by omega)
      have y4 := kc2 w.heap.size 4 (by omega)
      have y5 := kc2 w.heap.size 5 (by omega)
      have y6 := kc2 w.heap.size 6 (by omega)
      rw [r0] at y0
      rw [r1] at y1
      rw [r2] at y2
      rw [r3] at y3
      rw [r4] at y4
      rw [r5] at y5
      rw [r6] at y6
      have p0 := kc2 (w.heap.size + 1) 0 (by omega)
      have p1 := kc2 (w.heap.size + 1) 1 (by omega)
      rw [q0] at p0
      rw [q1] at p1
      have u0 := kf2 (w.heap.size + 1) 0 (by omega)
      have u1 := kf2 (w.heap.size + 1) 1 (by omega)
      rw [z0] at u0
      rw [z1] at u1
      go_wp2_with (fail)
      refine bodyPost_ret (v := .agg #[.int .i64 (-max k (-k)), .int .i64 (max k (-k))]) (by simp [results, Tryz.results107, go_sem, p0, p1]) rfl ⟨rfl, ?_⟩
      go_grown
end Go.Proofs.YthakeeinhgfbbaaGreat
