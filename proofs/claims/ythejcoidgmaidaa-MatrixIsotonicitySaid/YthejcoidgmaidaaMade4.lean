/-
  law04's made: its two matrices lie apart.
-/
import Derived.Test.YthejcoidgmaidaaL4A
import Derived.Test.YthejcoidgmaidaaPredJ
namespace Go.Proofs.Ythejcoidgmaidaa
open Go.ChangeShapes Go.WideShapes Go.ChangeAt Go.RowKit
set_option linter.unusedVariables false
set_option linter.unusedSimpArgs false
set_option maxRecDepth 100000

attribute [local irreducible] Calls
def grpM (t : Tmp) : Nat := if t = 12 ∨ t = 2 then 1 else if t = 16 ∨ t = 3 then 2 else 0
theorem grpM_cases (s : Tmp) (h : grpM s ≠ 0) : s = 12 ∨ s = 2 ∨ s = 16 ∨ s = 3 := by
  unfold grpM at h
  split at h
  · rename_i h'; rcases h' with e | e <;> simp [e]
  · split at h
    · rename_i h'; rcases h' with e | e <;> simp [e]
    · exact absurd rfl h
set_option maxHeartbeats 4000000 in
theorem law4made2 (vA vB vC : Value) (la lb lc : List (Int × Int)) (n : Int) (k : Nat) (w : World) (hA : Bx w vA la) (hB : Bx w vB lb) (hC : Bx w vC lc) (ba : I64 la) (bb : I64 lb) (bc : I64 lc) (hn0 : 0 ≤ n) (hn1 : n < 256) (hk : 1 + n % 4 = (k : Int)) :
    Calls Try.prog 21 #[.agg #[vA, vB, vC, .int .u8 n]] w fun e w' => ∃ u v x c, e = .returned (.tuple #[u, v, x]) ∧ SMat VB k w.heap.size u w' ∧ SMat VB k w.heap.size v w' ∧ c.length = k ∧ (∀ p ∈ c, VB p) ∧ Bx w' x c ∧ (∀ b, u.ownBlock = some b → v.ownBlock ≠ some b) ∧ Below w.heap.size w w' := by
  have HA := Lib.hid hA
  have HB := Lib.hid hB
  have HC := Lib.hid hC
  have BA := Lib.hid ba
  have BB := Lib.hid bb
  have BC := Lib.hid bc
  have hk1 : 1 ≤ k := by omega
  have hk6 : k ≤ 6 := by omega
  have hdim := fun w => r4dim n w hn0 hn1
  rw [hk] at hdim
  have HD := Lib.hid hdim
  clear hA hB hC ba bb bc hdim hk
  go_enter Try.func21, Try.ntmps21
  go_wp2_with (fail)
  refine (HD.out _).mono ?_
  rintro e w' ⟨rfl, rfl⟩
  go_wp2_with (fail)
  generalize hW0 : World.alloc w _ = W0
  have hBW : Below w.heap.size w W0 := by subst hW0; exact ((Below.refl w.heap.size w).alloc (by go_size) _)
  have Y0 : w.heap.size < W0.heap.size := by subst hW0; simp <;> omega
  have F0_0 : ∀ g : Grown W0, g.w.cell? ⟨w.heap.size, 0, none⟩ = some vA := fun g => (g.cell Y0).trans (by subst hW0; simp [go_sem])
  have F0_1 : ∀ g : Grown W0, g.w.cell? ⟨w.heap.size, 1, none⟩ = some vB := fun g => (g.cell Y0).trans (by subst hW0; simp [go_sem])
  have F0_2 : ∀ g : Grown W0, g.w.cell? ⟨w.heap.size, 2, none⟩ = some vC := fun g => (g.cell Y0).trans (by subst hW0; simp [go_sem])
  clear hW0
  refine region_pred_j (lk [(9, fun u _ => u = .pointer (some ⟨w.heap.size, 0, none⟩)), (10, fun u _ => u = vA), (11, fun u _ => u = .int .i64 (k : Int)), (12, SMat VB k w.heap.size), (13, fun u _ => u = .pointer (some ⟨w.heap.size, 1, none⟩)), (14, fun u _ => u = vB), (15, fun u _ => u = .int .i64 (k : Int)), (16, SMat VB k w.heap.size), (17, fun u _ => u = .pointer (some ⟨w.heap.size, 2, none⟩)), (18, fun u _ => u = vC), (19, fun u _ => u = .int .i64 (k : Int)), (20, SBox VB k), (2, SMat VB k w.heap.size), (3, SMat VB k w.heap.size), (4, SBox VB k)])
    rfl (by kernel_rfl) (lk_steady _ ⟨steady_eq _, steady_eq _, steady_eq _, steady_mat VB k w.heap.size, steady_eq _, steady_eq _, steady_eq _, steady_mat VB k w.heap.size, steady_eq _, steady_eq _, steady_eq _, steady_box VB k, steady_mat VB k w.heap.size, steady_mat VB k w.heap.size, steady_box VB k, trivial⟩) ?_ grpM (eachO_at ?_) ?_ ?_
  · have hA := HA.out
    have hB := HB.out
    have hC := HC.out
    have ba := BA.out
    have bb := BB.out
    have bc := BC.out
    have hBW := hBW
    refine ⟨?_, ?_, ?_, ?_, ?_, ?_, ?_, ?_, ?_, ?_, ?_, ?_, ?_, ?_, ?_, trivial⟩
    · refine ob_plain [1] rfl rfl fun aa g h => ?_
      have e5 := getD_of (seen_out (v := .pointer (some ⟨w.heap.size, 0, none⟩)) rfl rfl h.1)
      exact upon_value (v := .pointer (some ⟨w.heap.size, 0, none⟩)) (by simp [go_sem, e5]) (Below.refl _ _) rfl
    · refine ob_plain [9] rfl rfl fun aa g h => ?_
      obtain ⟨_, r5, rfl⟩ := seen_in rfl h.1
      have e5 := getD_of r5
      have hc := F0_0 g
      exact upon_value (v := vA) (by simp [go_sem, e5, r5, hc]) (Below.refl _ _) rfl
    · refine ob_plain [5] rfl rfl fun aa g h => ?_
      have e5 := getD_of (seen_out (v := .int .i64 (k : Int)) rfl rfl h.1)
      exact upon_value (v := .int .i64 (k : Int)) (by simp [go_sem, e5]) (Below.refl _ _) rfl
    · refine ob_plain [10, 11] rfl rfl fun aa g h => ?_
      obtain ⟨v5, r5, p5⟩ := seen_in rfl h.1
      have p6 : v5 = vA := p5
      rw [p6] at r5
      have e5 := getD_of r5
      obtain ⟨_, r6, rfl⟩ := seen_in rfl h.2.1
      have e6 := getD_of r6
      refine upon_enter (f := 54) (args := #[vA, .int .i64 (k : Int)]) (by simp [go_sem, e5, r5, e6, r6]) rfl ?_
      exact (r4made vA _ k g.w ((hA.grow hBW).grow g.h) hk1 hk6 ba).mono fun e w' ⟨u, us, M, he, h1, h2, h3⟩ => ⟨u, he, h3, g.w.heap.size, us, M, Nat.le_trans hBW.size g.h.size, h1, h2⟩
    · refine ob_plain [1] rfl rfl fun aa g h => ?_
      have e5 := getD_of (seen_out (v := .pointer (some ⟨w.heap.size, 0, none⟩)) rfl rfl h.1)
      exact upon_value (v := .pointer (some ⟨w.heap.size, 1, none⟩)) (by simp [go_sem, e5]) (Below.refl _ _) rfl
    · refine ob_plain [13] rfl rfl fun aa g h => ?_
      obtain ⟨_, r5, rfl⟩ := seen_in rfl h.1
      have e5 := getD_of r5
      have hc := F0_1 g
      exact upon_value (v := vB) (by simp [go_sem, e5, r5, hc]) (Below.refl _ _) rfl
    · refine ob_plain [5] rfl rfl fun aa g h => ?_
      have e5 := getD_of (seen_out (v := .int .i64 (k : Int)) rfl rfl h.1)
      exact upon_value (v := .int .i64 (k : Int)) (by simp [go_sem, e5]) (Below.refl _ _) rfl
    · refine ob_plain [14, 15] rfl rfl fun aa g h => ?_
      obtain ⟨v5, r5, p5⟩ := seen_in rfl h.1
      have p6 : v5 = vB := p5
      rw [p6] at r5
      have e5 := getD_of r5
      obtain ⟨_, r6, rfl⟩ := seen_in rfl h.2.1
      have e6 := getD_of r6
      refine upon_enter (f := 54) (args := #[vB, .int .i64 (k : Int)]) (by simp [go_sem, e5, r5, e6, r6]) rfl ?_
      exact (r4made vB _ k g.w ((hB.grow hBW).grow g.h) hk1 hk6 bb).mono fun e w' ⟨u, us, M, he, h1, h2, h3⟩ => ⟨u, he, h3, g.w.heap.size, us, M, Nat.le_trans hBW.size g.h.size, h1, h2⟩
    · refine ob_plain [1] rfl rfl fun aa g h => ?_
      have e5 := getD_of (seen_out (v := .pointer (some ⟨w.heap.size, 0, none⟩)) rfl rfl h.1)
      exact upon_value (v := .pointer (some ⟨w.heap.size, 2, none⟩)) (by simp [go_sem, e5]) (Below.refl _ _) rfl
    · refine ob_plain [17] rfl rfl fun aa g h => ?_
      obtain ⟨_, r5, rfl⟩ := seen_in rfl h.1
      have e5 := getD_of r5
      have hc := F0_2 g
      exact upon_value (v := vC) (by simp [go_sem, e5, r5, hc]) (Below.refl _ _) rfl
    · refine ob_plain [5] rfl rfl fun aa g h => ?_
      have e5 := getD_of (seen_out (v := .int .i64 (k : Int)) rfl rfl h.1)
      exact upon_value (v := .int .i64 (k : Int)) (by simp [go_sem, e5]) (Below.refl _ _) rfl
    · refine ob_plain [18, 19] rfl rfl fun aa g h => ?_
      obtain ⟨v5, r5, p5⟩ := seen_in rfl h.1
      have p6 : v5 = vC := p5
      rw [p6] at r5
      have e5 := getD_of r5
      obtain ⟨_, r6, rfl⟩ := seen_in rfl h.2.1
      have e6 := getD_of r6
      refine upon_enter (f := 55) (args := #[vC, .int .i64 (k : Int)]) (by simp [go_sem, e5, r5, e6, r6]) rfl ?_
      exact (r3made vC _ k g.w ((hC.grow hBW).grow g.h) hk6 bc).mono fun e w' ⟨u, m, he, h1, h2, h3, h4⟩ => ⟨u, he, h4, m, h1, h2, h3⟩
    · refine ob_plain [12] rfl rfl fun aa g h => ?_
      obtain ⟨u5, r5, p5⟩ := seen_in rfl h.1
      have e5 := getD_of r5
      exact upon_value (v := u5) (by simp [go_sem, e5, r5]) (Below.refl _ _) p5
    · refine ob_plain [16] rfl rfl fun aa g h => ?_
      obtain ⟨u5, r5, p5⟩ := seen_in rfl h.1
      have e5 := getD_of r5
      exact upon_value (v := u5) (by simp [go_sem, e5, r5]) (Below.refl _ _) p5
    · refine ob_plain [20] rfl rfl fun aa g h => ?_
      obtain ⟨u5, r5, p5⟩ := seen_in rfl h.1
      have e5 := getD_of r5
      exact upon_value (v := u5) (by simp [go_sem, e5, r5]) (Below.refl _ _) p5
  · have hA := HA.out
    have hB := HB.out
    have ba := BA.out
    have bb := BB.out
    have hBW := hBW
    refine ⟨?_, ?_, ?_, ?_, ?_, ?_, ?_, ?_, ?_, ?_, ?_, ?_, ?_, ?_, ?_, trivial⟩
    · rintro ⟨d, hd, hg⟩
      simp at hd
      subst hd
      exact absurd rfl hg
    · rintro ⟨d, hd, hg⟩
      simp at hd
      subst hd
      exact absurd rfl hg
    · rintro ⟨d, hd, hg⟩
      simp at hd
      subst hd
      exact absurd rfl hg
    · intro _
      refine obf_plain [10, 11] rfl rfl fun aa g h => ?_
      obtain ⟨v5, r5, p5⟩ := seen_in rfl h.1
      have p6 : v5 = vA := p5
      rw [p6] at r5
      have e5 := getD_of r5
      obtain ⟨_, r6, rfl⟩ := seen_in rfl h.2.1
      have e6 := getD_of r6
      refine upon_enter (f := 54) (args := #[vA, .int .i64 (k : Int)]) (by simp [go_sem, e5, r5, e6, r6]) rfl ?_
      exact (r4made vA _ k g.w ((hA.grow hBW).grow g.h) hk1 hk6 ba).mono fun e w' ⟨u, us, M, he, h1, h2, h3⟩ => ⟨u, he, h3, ⟨g.w.heap.size, us, M, Nat.le_trans hBW.size g.h.size, h1, h2⟩, fun d hd => .inl fun b hb => h2.out.lt b hb⟩
    · rintro ⟨d, hd, hg⟩
      simp at hd
      subst hd
      exact absurd rfl hg
    · rintro ⟨d, hd, hg⟩
      simp at hd
      subst hd
      exact absurd rfl hg
    · rintro ⟨d, hd, hg⟩
      simp at hd
      subst hd
      exact absurd rfl hg
    · intro _
      refine obf_plain [14, 15] rfl rfl fun aa g h => ?_
      obtain ⟨v5, r5, p5⟩ := seen_in rfl h.1
      have p6 : v5 = vB := p5
      rw [p6] at r5
      have e5 := getD_of r5
      obtain ⟨_, r6, rfl⟩ := seen_in rfl h.2.1
      have e6 := getD_of r6
      refine upon_enter (f := 54) (args := #[vB, .int .i64 (k : Int)]) (by simp [go_sem, e5, r5, e6, r6]) rfl ?_
      exact (r4made vB _ k g.w ((hB.grow hBW).grow g.h) hk1 hk6 bb).mono fun e w' ⟨u, us, M, he, h1, h2, h3⟩ => ⟨u, he, h3, ⟨g.w.heap.size, us, M, Nat.le_trans hBW.size g.h.size, h1, h2⟩, fun d hd => .inl fun b hb => h2.out.lt b hb⟩
    · rintro ⟨d, hd, hg⟩
      simp at hd
      subst hd
      exact absurd rfl hg
    · rintro ⟨d, hd, hg⟩
      simp at hd
      subst hd
      exact absurd rfl hg
    · rintro ⟨d, hd, hg⟩
      simp at hd
      subst hd
      exact absurd rfl hg
    · rintro ⟨d, hd, hg⟩
      simp at hd
      subst hd
      exact absurd rfl hg
    · intro _
      refine obf_plain [12] rfl rfl fun aa g h => ?_
      obtain ⟨u5, r5, p5⟩ := seen_in rfl h.1
      have e5 := getD_of r5
      exact upon_value (v := u5) (by simp [go_sem, e5, r5]) (Below.refl _ _) ⟨p5, fun d hd => .inr ⟨12, by simp at hd; subst hd; rfl, e5.symm⟩⟩
    · intro _
      refine obf_plain [16] rfl rfl fun aa g h => ?_
      obtain ⟨u5, r5, p5⟩ := seen_in rfl h.1
      have e5 := getD_of r5
      exact upon_value (v := u5) (by simp [go_sem, e5, r5]) (Below.refl _ _) ⟨p5, fun d hd => .inr ⟨16, by simp at hd; subst hd; rfl, e5.symm⟩⟩
    · rintro ⟨d, hd, hg⟩
      simp at hd
      subst hd
      exact absurd rfl hg
  · refine ⟨fun s hs b h => ?_, fun s t hs ht hst b h => ?_⟩
    · exfalso
      rcases grpM_cases s hs with rfl | rfl | rfl | rfl <;> (have h' : (none : Option Nat) = some b := h; cases h')
    · exfalso
      rcases grpM_cases s hs with rfl | rfl | rfl | rfl <;> (have h' : (none : Option Nat) = some b := h; cases h')
  · intro aa gg J hdf hsz hold hval
    obtain ⟨u, hu, hpu⟩ := hval 2 (by decide)
    obtain ⟨v, hv, hpv⟩ := hval 3 (by decide)
    obtain ⟨x, hx, c, c1, c2, c3⟩ := hval 4 (by decide)
    have hap : ∀ b, u.ownBlock = some b → v.ownBlock ≠ some b := fun b hb => by
      have := J.2 2 3 (by decide) (by decide) (by decide) b (by rw [getD_of hu]; exact hb)
      rw [getD_of hv] at this
      exact this
    rename_i K hK
    exact hK _ _ (wp_ret (bodyPost_ret (v := .tuple #[u, v, x]) (by simp [results, Try.results21, go_sem, hu, hv, hx]) hdf ⟨u, v, x, c, rfl, hpu, hpv, c1, c2, c3, hap, below_then hBW gg.h⟩))
end Go.Proofs.Ythejcoidgmaidaa
