/-
  The reference's Range and Eval of models.
  The reference's insert into an empty slice.
  The reference's normalized, for any row; Truncate.
  The reference's insert and Add of polynomials, for any first row.
  The reference's Add of models.
  The reference's Mul of models.
  The reference's Const and MulInterval of models.
  The reference's MulInterval of models.
  The reference's Neg and Sub of models.
  The reference's Var of models.
-/
import Derived.Test.YthakeeinhgfbbaaGreatYe
import Derived.Test.YthakeeinhgfbbaaGreatRz6
import Derived.Test.YthakeeinhgfbbaaGreatRz1
import Derived.Test.YthakeeinhgfbbaaGreatRzM
import Derived.Test.YthakeeinhgfbbaaGreatYl
import Derived.Test.YthakeeinhgfbbaaGreatR6
namespace Go.Proofs.YthakeeinhgfbbaaGreat
open Go.ChangeShapes Go.WideShapes Go.ChangeAt Go.RowKit
set_option linter.unusedVariables false
set_option linter.unusedSimpArgs false
set_option maxRecDepth 100000
attribute [local irreducible] Calls
theorem r2addv (a b c d : Int) (w : World) (h : VB2 (a, b)) (k : VB2 (c, d)) :
    Calls Tryz.prog 60 #[.agg #[.int .i64 a, .int .i64 b], .agg #[.int .i64 c, .int .i64 d]] w fun e w' => e = .returned (.agg #[.int .i64 (addLo a b c d), .int .i64 (addHi a b c d)]) ∧ Below w.heap.size w w' := by
  have h1 := vb_bdY h
  have h2 := vb_bdY k
  dsimp only at h1 h2
  exact r2add a b c d w h1.1 h1.2.1 h1.2.2.1 h1.2.2.2 h2.1 h2.2.1 h2.2.2.1 h2.2.2.2
set_option maxHeartbeats 8000000 in
theorem rrange6_ok (u : Value) (a0 a1 : Int) (l : List Tm) (w : World) (hu : Tx w u l) (nu : ∀ t ∈ l, TV t ∧ Num t.1) (su : l.length ≤ 100) (hv : VB2 (a0, a1)) :
    Calls Tryz.prog 30 #[.agg #[u, .int .i64 a0, .int .i64 a1]] w fun e w' => e = .returned (.agg #[.int .i64 (rangeM (l, (a0, a1))).1, .int .i64 (rangeM (l, (a0, a1))).2]) ∧ Below w.heap.size w w' := by
  obtain ⟨pu, cu, rfl⟩ := hu.cut
  have hrv := rng_vb (l := l) fun t ht => (nu t ht).2
  have HU := Lib.hid hu
  have KR := Lib.hid (fun w h => rrange_ok (.slice pu l.length cu) l w h nu (by omega))
  unfold rangeM
  unfold rngP at hrv ⊢
  obtain ⟨⟨r0, r1⟩, hr⟩ : ∃ R, newR (sumR l) = R := ⟨_, rfl⟩
  rw [hr] at KR hrv
  dsimp only
  rw [hr]
  unfold addI2
  dsimp only at KR ⊢
  have KA := Lib.hid (fun w => r2addv r0 r1 a0 a1 w hrv hv)
  obtain ⟨n0, h0⟩ : ∃ z, addLo r0 r1 a0 a1 = z := ⟨_, rfl⟩
  obtain ⟨n1, h1⟩ : ∃ z, addHi r0 r1 a0 a1 = z := ⟨_, rfl⟩
  rw [h0, h1] at KA ⊢
  have hba : Below w.heap.size w ((w.alloc (.cells #[(.slice pu l.length cu), .int .i64 a0, .int .i64 a1] 26)).alloc (.cells #[.int .i64 0, .int .i64 0] 24)) := (((Below.refl _ _).alloc (Nat.le_refl _) _).alloc (by simp) _)
  have hc0 : MoC ((w.alloc (.cells #[(.slice pu l.length cu), .int .i64 a0, .int .i64 a1] 26)).alloc (.cells #[.int .i64 0, .int .i64 0] 24)) (w.heap.size) ((.slice pu l.length cu)) (a0, a1) := by
    have e := MoC.new w (.slice pu l.length cu) a0 a1
    exact (e.alloc _)
  have hc1 : IvC ((w.alloc (.cells #[(.slice pu l.length cu), .int .i64 a0, .int .i64 a1] 26)).alloc (.cells #[.int .i64 0, .int .i64 0] 24)) (w.heap.size + 1) (0, 0) := by
    have e := IvC.new (w.alloc (.cells #[(.slice pu l.length cu), .int .i64 a0, .int .i64 a1] 26)) 0 0
    simp only [World.size_alloc] at e
    exact e
  have HC0 := Lib.hid hc0
  have HC1 := Lib.hid hc1
  have HBA := Lib.hid hba
  clear hba hc0 hc1 hu nu su hv hrv hr h0 h1
  go_enter Tryz.func30, Tryz.ntmps30
  go_wp2_with (fail)
  generalize hW0 : World.alloc (World.alloc w _) _ = W0 at *
  clear hW0
  have k0 := fun g : Grown W0 => (HC0.out.grow g.h).c0
  have k1 := fun g : Grown W0 => (HC0.out.grow g.h).c1
  have k2 := fun g : Grown W0 => (HC0.out.grow g.h).c2
  dsimp only at k0 k1 k2
  refine region_pred_l (lk [(3, fun z_ _ => z_ = .pointer (some ⟨w.heap.size, 0, none⟩)), (4, fun z_ _ => z_ = (.slice pu l.length cu)), (5, fun z_ _ => z_ = .agg #[.int .i64 r0, .int .i64 r1]), (6, fun z_ _ => z_ = .pointer (some ⟨w.heap.size, 1, none⟩)), (7, fun z_ _ => z_ = .agg #[.int .i64 a0, .int .i64 a1]), (8, fun z_ _ => z_ = .agg #[.int .i64 n0, .int .i64 n1])]) 6 _ rfl (by kernel_rfl) (by kernel_rfl) (by kernel_rfl) (lk_steady _ ⟨steady_eq _, steady_eq _, steady_eq _, steady_eq _, steady_eq _, steady_eq _, trivial⟩) ?_ ?_
  · refine ⟨?_, ?_, ?_, ?_, ?_, ?_, ?_, trivial⟩
    · intro _
      refine ob_plain [1] rfl rfl fun aa g h => ?_
      have yy0 := seen_out (v := .pointer (some ⟨w.heap.size, 0, none⟩)) rfl rfl h.1
      have ee0 := getD_of yy0
      exact tupon_value (v := .pointer (some ⟨w.heap.size, 0, none⟩)) (by simp [go_sem, ee0, yy0]) (Below.refl _ _) rfl
    · intro _
      refine ob_plain [3] rfl rfl fun aa g h => ?_
      obtain ⟨_, yy0, rfl⟩ := seen_in rfl h.1
      have ee0 := getD_of yy0
      exact tupon_value (v := (.slice pu l.length cu)) (by simp [go_sem, ee0, yy0, k0 g]) (Below.refl _ _) rfl
    · intro _
      refine ob_plain [4] rfl rfl fun aa g h => ?_
      obtain ⟨_, yy0, rfl⟩ := seen_in rfl h.1
      have ee0 := getD_of yy0
      refine tupon_enter (f := 69) (args := #[(.slice pu l.length cu)]) (by simp [go_sem, ee0, yy0]) rfl ?_
      exact (KR.out g.w (HU.out.grow (below_then HBA.out g.h))).mono fun e w' ⟨he, hB⟩ => ⟨_, he, hB, rfl⟩
    · intro _
      refine ob_plain [1] rfl rfl fun aa g h => ?_
      have yy0 := seen_out (v := .pointer (some ⟨w.heap.size, 0, none⟩)) rfl rfl h.1
      have ee0 := getD_of yy0
      exact tupon_value (v := .pointer (some ⟨w.heap.size, 1, none⟩)) (by simp [go_sem, ee0, yy0]) (Below.refl _ _) rfl
    · intro _
      refine ob_plain [6] rfl rfl fun aa g h => ?_
      obtain ⟨_, yy0, rfl⟩ := seen_in rfl h.1
      have ee0 := getD_of yy0
      exact tupon_value (v := .agg #[.int .i64 a0, .int .i64 a1]) (by simp [go_sem, ee0, yy0, k1 g, k2 g]) (Below.refl _ _) rfl
    · intro _
      refine ob_plain [5, 7] rfl rfl fun aa g h => ?_
      obtain ⟨_, yy0, rfl⟩ := seen_in rfl h.1
      have ee0 := getD_of yy0
      obtain ⟨_, yy1, rfl⟩ := seen_in rfl h.2.1
      have ee1 := getD_of yy1
      refine tupon_enter (f := 60) (args := #[.agg #[.int .i64 r0, .int .i64 r1], .agg #[.int .i64 a0, .int .i64 a1]]) (by simp [go_sem, ee0, yy0, ee1, yy1]) rfl ?_
      exact (KA.out g.w).mono fun e w' ⟨he, hB⟩ => ⟨_, he, hB, rfl⟩
    · exact fun h => absurd rfl h
  rintro w5 hB5 _ rfl _ rfl _ rfl _ rfl _ rfl _ rfl
  simp only [Act.put, List.setIfInBounds_toArray, List.set_cons_succ, List.set_cons_zero]
  have hB6 := below_then HBA.out hB5
  have hR5 := HC1.out.grow hB5
  have q0 := hR5.c0
  have q1 := hR5.c1
  have z0 := hR5.frozen 0
  have z1 := hR5.frozen 1
  dsimp only at q0 q1
  refine ⟨_, by simp [go_sem, q0, q1, z0, z1]; rfl, ?_⟩
  clear k0 k1 k2
  go_wp2_with (fail)
  refine bodyPost_ret (v := .agg #[.int .i64 n0, .int .i64 n1]) (by simp [results, Tryz.results30, go_sem, q0, q1]) rfl ⟨rfl, ?_⟩
  exact (hB6.setCell (p := ⟨w.heap.size + 1, 0, none⟩) (by dsimp only; omega) _).setCell (p := ⟨w.heap.size + 1, 1, none⟩) (by dsimp only; omega) _
set_option maxHeartbeats 8000000 in
theorem reval6_ok (u vb : Value) (a0 a1 : Int) (l : List Tm) (box : List (Int × Int)) (w : World) (hu : Tx w u l) (nu : ∀ t ∈ l, TV t ∧ Num t.1) (su : l.length ≤ 100) (hv : VB2 (a0, a1)) (hb : Bx w vb box) (hbv : ∀ p ∈ box, VB2 p) :
    Calls Tryz.prog 38 #[.agg #[u, .int .i64 a0, .int .i64 a1], vb] w fun e w' => e = .returned (.agg #[.int .i64 (evalM (l, (a0, a1)) box).1, .int .i64 (evalM (l, (a0, a1)) box).2]) ∧ Below w.heap.size w w' := by
  obtain ⟨pu, cu, rfl⟩ := hu.cut
  obtain ⟨pb, cb, rfl⟩ : ∃ p c, vb = .slice p box.length c := ⟨_, _, hb.2.choose_spec.choose_spec.1⟩
  have hrv := evalP_vb box l
  have HU := Lib.hid hu
  have HBX := Lib.hid hb
  have KR := Lib.hid (fun w h h2 => reval_ok (.slice pu l.length cu) (.slice pb box.length cb) l box w h h2 (fun t ht => (nu t ht).1) hbv (by omega))
  unfold evalM
  dsimp only
  obtain ⟨⟨r0, r1⟩, hr⟩ : ∃ R, evalP box l = R := ⟨_, rfl⟩
  rw [hr] at KR hrv ⊢
  unfold addI2
  dsimp only at KR ⊢
  have KA := Lib.hid (fun w => r2addv r0 r1 a0 a1 w hrv hv)
  obtain ⟨n0, h0⟩ : ∃ z, addLo r0 r1 a0 a1 = z := ⟨_, rfl⟩
  obtain ⟨n1, h1⟩ : ∃ z, addHi r0 r1 a0 a1 = z := ⟨_, rfl⟩
  rw [h0, h1] at KA ⊢
  have hba : Below w.heap.size w ((w.alloc (.cells #[(.slice pu l.length cu), .int .i64 a0, .int .i64 a1] 26)).alloc (.cells #[.int .i64 0, .int .i64 0] 24)) := (((Below.refl _ _).alloc (Nat.le_refl _) _).alloc (by simp) _)
  have hc0 : MoC ((w.alloc (.cells #[(.slice pu l.length cu), .int .i64 a0, .int .i64 a1] 26)).alloc (.cells #[.int .i64 0, .int .i64 0] 24)) (w.heap.size) ((.slice pu l.length cu)) (a0, a1) := by
    have e := MoC.new w (.slice pu l.length cu) a0 a1
    exact (e.alloc _)
  have hc1 : IvC ((w.alloc (.cells #[(.slice pu l.length cu), .int .i64 a0, .int .i64 a1] 26)).alloc (.cells #[.int .i64 0, .int .i64 0] 24)) (w.heap.size + 1) (0, 0) := by
    have e := IvC.new (w.alloc (.cells #[(.slice pu l.length cu), .int .i64 a0, .int .i64 a1] 26)) 0 0
    simp only [World.size_alloc] at e
    exact e
  have HC0 := Lib.hid hc0
  have HC1 := Lib.hid hc1
  have HBA := Lib.hid hba
  clear hba hc0 hc1 hu nu su hv hrv hr h0 h1 hb hbv
  go_enter Tryz.func38, Tryz.ntmps38
  go_wp2_with (fail)
  generalize hW0 : World.alloc (World.alloc w _) _ = W0 at *
  clear hW0
  have k0 := fun g : Grown W0 => (HC0.out.grow g.h).c0
  have k1 := fun g : Grown W0 => (HC0.out.grow g.h).c1
  have k2 := fun g : Grown W0 => (HC0.out.grow g.h).c2
  dsimp only at k0 k1 k2
  refine region_pred_l (lk [(5, fun z_ _ => z_ = .pointer (some ⟨w.heap.size, 0, none⟩)), (6, fun z_ _ => z_ = (.slice pu l.length cu)), (7, fun z_ _ => z_ = (.slice pb box.length cb)), (8, fun z_ _ => z_ = .agg #[.int .i64 r0, .int .i64 r1]), (9, fun z_ _ => z_ = .pointer (some ⟨w.heap.size, 1, none⟩)), (10, fun z_ _ => z_ = .agg #[.int .i64 a0, .int .i64 a1]), (11, fun z_ _ => z_ = .agg #[.int .i64 n0, .int .i64 n1])]) 7 _ rfl (by kernel_rfl) (by kernel_rfl) (by kernel_rfl) (lk_steady _ ⟨steady_eq _, steady_eq _, steady_eq _, steady_eq _, steady_eq _, steady_eq _, steady_eq _, trivial⟩) ?_ ?_
  · refine ⟨?_, ?_, ?_, ?_, ?_, ?_, ?_, ?_, trivial⟩
    · intro _
      refine ob_plain [2] rfl rfl fun aa g h => ?_
      have yy0 := seen_out (v := .pointer (some ⟨w.heap.size, 0, none⟩)) rfl rfl h.1
      have ee0 := getD_of yy0
      exact tupon_value (v := .pointer (some ⟨w.heap.size, 0, none⟩)) (by simp [go_sem, ee0, yy0]) (Below.refl _ _) rfl
    · intro _
      refine ob_plain [5] rfl rfl fun aa g h => ?_
      obtain ⟨_, yy0, rfl⟩ := seen_in rfl h.1
      have ee0 := getD_of yy0
      exact tupon_value (v := (.slice pu l.length cu)) (by simp [go_sem, ee0, yy0, k0 g]) (Below.refl _ _) rfl
    · intro _
      refine ob_plain [1] rfl rfl fun aa g h => ?_
      have yy0 := seen_out (v := (.slice pb box.length cb)) rfl rfl h.1
      have ee0 := getD_of yy0
      exact tupon_value (v := (.slice pb box.length cb)) (by simp [go_sem, ee0, yy0]) (Below.refl _ _) rfl
    · intro _
      refine ob_plain [6, 7] rfl rfl fun aa g h => ?_
      obtain ⟨_, yy0, rfl⟩ := seen_in rfl h.1
      have ee0 := getD_of yy0
      obtain ⟨_, yy1, rfl⟩ := seen_in rfl h.2.1
      have ee1 := getD_of yy1
      refine tupon_enter (f := 86) (args := #[(.slice pu l.length cu), (.slice pb box.length cb)]) (by simp [go_sem, ee0, yy0, ee1, yy1]) rfl ?_
      exact (KR.out g.w (HU.out.grow (below_then HBA.out g.h)) (HBX.out.grow (below_then HBA.out g.h))).mono fun e w' ⟨he, hB⟩ => ⟨_, he, hB, rfl⟩
    · intro _
      refine ob_plain [2] rfl rfl fun aa g h => ?_
      have yy0 := seen_out (v := .pointer (some ⟨w.heap.size, 0, none⟩)) rfl rfl h.1
      have ee0 := getD_of yy0
      exact tupon_value (v := .pointer (some ⟨w.heap.size, 1, none⟩)) (by simp [go_sem, ee0, yy0]) (Below.refl _ _) rfl
    · intro _
      refine ob_plain [9] rfl rfl fun aa g h => ?_
      obtain ⟨_, yy0, rfl⟩ := seen_in rfl h.1
      have ee0 := getD_of yy0
      exact tupon_value (v := .agg #[.int .i64 a0, .int .i64 a1]) (by simp [go_sem, ee0, yy0, k1 g, k2 g]) (Below.refl _ _) rfl
    · intro _
      refine ob_plain [8, 10] rfl rfl fun aa g h => ?_
      obtain ⟨_, yy0, rfl⟩ := seen_in rfl h.1
      have ee0 := getD_of yy0
      obtain ⟨_, yy1, rfl⟩ := seen_in rfl h.2.1
      have ee1 := getD_of yy1
      refine tupon_enter (f := 60) (args := #[.agg #[.int .i64 r0, .int .i64 r1], .agg #[.int .i64 a0, .int .i64 a1]]) (by simp [go_sem, ee0, yy0, ee1, yy1]) rfl ?_
      exact (KA.out g.w).mono fun e w' ⟨he, hB⟩ => ⟨_, he, hB, rfl⟩
    · exact fun h => absurd rfl h
  rintro w5 hB5 _ rfl _ rfl _ rfl _ rfl _ rfl _ rfl _ rfl
  simp only [Act.put, List.setIfInBounds_toArray, List.set_cons_succ, List.set_cons_zero]
  have hB6 := below_then HBA.out hB5
  have hR5 := HC1.out.grow hB5
  have q0 := hR5.c0
  have q1 := hR5.c1
  have z0 := hR5.frozen 0
  have z1 := hR5.frozen 1
  dsimp only at q0 q1
  refine ⟨_, by simp [go_sem, q0, q1, z0, z1]; rfl, ?_⟩
  clear k0 k1 k2
  go_wp2_with (fail)
  refine bodyPost_ret (v := .agg #[.int .i64 n0, .int .i64 n1]) (by simp [results, Tryz.results38, go_sem, q0, q1]) rfl ⟨rfl, ?_⟩
  exact (hB6.setCell (p := ⟨w.heap.size + 1, 0, none⟩) (by dsimp only; omega) _).setCell (p := ⟨w.heap.size + 1, 1, none⟩) (by dsimp only; omega) _
end Go.Proofs.YthakeeinhgfbbaaGreat

namespace Go.Proofs.YthakeeinhgfbbaaGreat
open Go.ChangeShapes Go.WideShapes Go.ChangeAt Go.RowKit
set_option linter.unusedVariables false
set_option linter.unusedSimpArgs false
set_option maxRecDepth 100000
attribute [local irreducible] Calls
set_option maxHeartbeats 32000000 in
theorem insert_none (x : Tm) (w : World) (hx : TV x ∧ Small62 x) :
    Calls Tryz.prog 100 #[.slice none 0 0, valT x] w fun e w' => ∃ r, e = .returned r ∧ Tx w' r [x] ∧ SomeS r ∧ NewB w.heap.size r ∧ Below w.heap.size w w' := by
  obtain ⟨i0, hi, hz0, hz1, hz2⟩ := info_parts info_t
  obtain ⟨kx, x0, x1, x2, x3, x4, x5, rfl⟩ := six_at hx.1
  rw [show valT (kx, [x0, x1, x2, x3, x4, x5]) = .agg #[.int .i64 kx, .int .u8 x0, .int .u8 x1, .int .u8 x2, .int .u8 x3, .int .u8 x4, .int .u8 x5] from rfl]
  have HXV := Lib.hid hx
  have hB1 : Below w.heap.size w (w.alloc (.cells #[.int .i64 kx, .int .u8 x0, .int .u8 x1, .int .u8 x2, .int .u8 x3, .int .u8 x4, .int .u8 x5] 63)) := (Below.refl _ _).alloc (Nat.le_refl _) _
  have hX1 : (w.alloc (.cells #[.int .i64 kx, .int .u8 x0, .int .u8 x1, .int .u8 x2, .int .u8 x3, .int .u8 x4, .int .u8 x5] 63)).heap[w.heap.size]? = some (.cells #[.int .i64 kx, .int .u8 x0, .int .u8 x1, .int .u8 x2, .int .u8 x3, .int .u8 x4, .int .u8 x5] 63 (0, 0)) := World.alloc_heap_new w _
  clear hx
  go_enter Tryz.func100, Tryz.ntmps100
  go_wp2_with (fail)
  obtain ⟨W1, hW1⟩ : ∃ W, w.alloc (.cells #[.int .i64 kx, .int .u8 x0, .int .u8 x1, .int .u8 x2, .int .u8 x3, .int .u8 x4, .int .u8 x5] 63) = W := ⟨_, rfl⟩
  have hs1 : w.heap.size < W1.heap.size := by rw [← hW1]; simp
  rw [hW1] at hB1 hX1
  rw [hW1]
  clear hW1
  have HX1 := Lib.hid hX1
  go_loopw [5] (fun i wr => i = .int .i64 0 ∧ ∃ g : Grown W1, wr = g.w) (fun _ _ => 0)
  case atStart => exact ⟨rfl, ⟨W1, Below.refl _ _⟩, rfl⟩
  obtain ⟨rfl, g0, rfl⟩ := hrel
  have y1 := hX1
  have y2 := hX1
  have y3 := hX1
  have y4 := hX1
  have y5 := hX1
  have y6 := hX1
  go_wp2_with (fail)
  refine region_quiet' g0 (by kernel_rfl) (by kernel_rfl) ?_
  repeat (go_big_quiet_step (fail))
  refine wpQuiet_nil ?_
  rintro _ ⟨g1, rfl⟩
  clear y1 y2 y3 y4 y5 y6
  have h6k : ∀ t ∈ ([] : List Tm), t.2.length = 6 := fun t ht => by cases ht
  have hW2 : Below g1.w.heap.size g1.w (g1.w.alloc (.cells #[] 63)) := (Below.refl _ _).alloc (Nat.le_refl _) _
  have hown0 := own_empty g1.w
  have htk : Tx (g1.w.alloc (.cells #[] 63)) (.slice none ([] : List Tm).length 0) [] := Tx.nil _ _ _
  go_wp2_with (at_builtin; refine wpList_append_tx rfl (.tmp 24) (.tmp 27) rfl g1.w.heap.size (.slice (some ⟨g1.w.heap.size, 0, none⟩) 0 0) 0 [] rfl hown0 none 0 [] rfl htk h6k (fun _ => rfl) (by decide) (by decide) (by simp) ?_)
  intro v3 w3 hown3 hg3
  have hB3 : Below g1.w.heap.size g1.w w3 := Below.grown hW2 hg3 hW2.size (fun j hj => by simp [Value.ownBlock] at hj; omega)
  have hB13 := g1.h.trans (hB3.mono g1.h.size)
  try simp only [List.nil_append, Nat.zero_add] at hown3
  have HO3 := Lib.hid hown3
  have HB3 := Lib.hid hB13
  have hle3 : W1.heap.size ≤ g1.w.heap.size := g1.h.size
  have hle4 : g1.w.heap.size ≤ w3.heap.size := hB3.size
  clear hown3 hg3 hown0 htk h6k hW2 hB3 hB13
  obtain ⟨q0, hq0⟩ : ∃ g : Grown w3, w3 = g.w := ⟨⟨w3, Below.refl _ _⟩, rfl⟩
  rw [hq0]
  go_wp2_with (fail)
  refine region_quiet' q0 (by kernel_rfl) (by kernel_rfl) ?_
  repeat (go_big_quiet_step (fail))
  refine wpQuiet_nil ?_
  rintro _ ⟨g5, rfl⟩
  have hrow5 := own_keptT HO3.out g5.h
  have z0 := heapT_cell (((HB3.out.trans (g5.h.mono HB3.out.size)).block w.heap.size hs1).trans HX1.out) (k := 0) rfl
  have z1 := heapT_cell (((HB3.out.trans (g5.h.mono HB3.out.size)).block w.heap.size hs1).trans HX1.out) (k := 1) rfl
  have z2 := heapT_cell (((HB3.out.trans (g5.h.mono HB3.out.size)).block w.heap.size hs1).trans HX1.out) (k := 2) rfl
  have z3 := heapT_cell (((HB3.out.trans (g5.h.mono HB3.out.size)).block w.heap.size hs1).trans HX1.out) (k := 3) rfl
  have z4 := heapT_cell (((HB3.out.trans (g5.h.mono HB3.out.size)).block w.heap.size hs1).trans HX1.out) (k := 4) rfl
  have z5 := heapT_cell (((HB3.out.trans (g5.h.mono HB3.out.size)).block w.heap.size hs1).trans HX1.out) (k := 5) rfl
  have z6 := heapT_cell (((HB3.out.trans (g5.h.mono HB3.out.size)).block w.heap.size hs1).trans HX1.out) (k := 6) rfl
  have hB5 := HB3.out.trans (g5.h.mono HB3.out.size)
  have hW5 : g1.w.heap.size ≤ g5.w.heap.size := Nat.le_trans hle4 g5.h.size
  go_wp2_with (at_builtin; refine wpList_append_own _ rfl (.tmp 55) (.tmp 57) 22 rfl g1.w.heap.size 63 i0 (.agg #[.int .i64 0, .int .u8 0, .int .u8 0, .int .u8 0, .int .u8 0, .int .u8 0, .int .u8 0]) 7 16 Tryz.underlying22 hi hz0 hz1 hz2 rfl (by decide) v3 0 _ rfl (hrow5.alloc _) ⟨g5.w.heap.size, 0, none⟩ 1 1 [.int .i64 kx, .int .u8 x0, .int .u8 x1, .int .u8 x2, .int .u8 x3, .int .u8 x4, .int .u8 x5] rfl rfl (new_t _ _ _ _ _ _ _ _) (one_t _ _ _ _ _ _ _) (by unfold maxLen; omega) (by omega) (by simp only [World.size_alloc]; omega) ?_)
  intro v6 w6 hown6 hg6 _
  have hB6 : Below W1.heap.size W1 w6 := Below.grown (hB5.alloc hB5.size _) hg6 (by simp only [World.size_alloc]; exact Nat.le_succ_of_le hB5.size) (fun j hj => by have := (hrow5.lt j hj).1; omega)
  obtain ⟨gg6, cc6, rfl⟩ := ownsRow_succ hown6
  have hle6 : g1.w.heap.size ≤ w6.heap.size := by have := hg6.size; simp only [World.size_alloc] at this; omega
  have HO6 := Lib.hid hown6
  have HB6 := Lib.hid hB6
  clear hown6 hg6 hB6 hrow5 z0 z1 z2 z3 z4 z5 z6 hB5
  have htd : Tx w6 (.slice none ([] : List Tm).length 0) [] := Tx.nil _ _ _
  have h6d : ∀ t ∈ ([] : List Tm), t.2.length = 6 := fun t ht => by cases ht
  skip
  go_wp2_with (at_builtin; refine wpList_append_tx rfl (.tmp 59) (.tmp 62) rfl g1.w.heap.size (.slice (some ⟨gg6, 0, none⟩) 1 cc6) 1 _ rfl HO6.out none 0 [] rfl htd h6d (fun _ => rfl) (by decide) (by decide) (by omega) ?_)
  intro v7 w7 hown7 hg7
  have hB7 : Below W1.heap.size W1 w7 := Below.grown HB6.out hg7 HB6.out.size (fun j hj => by have := (HO6.out.lt j hj).1; omega)
  have hown8 : w7.ownsRow g1.w.heap.size 63 7 v7 1 (ct [(kx, [x0, x1, x2, x3, x4, x5])]) := by simpa [ct, encT] using hown7
  have h6i : ∀ t ∈ [(kx, [x0, x1, x2, x3, x4, x5])], t.2.length = 6 := fun t ht => by simp only [List.mem_singleton] at ht; subst ht; rfl
  have htx := Tx.own (l := [(kx, [x0, x1, x2, x3, x4, x5])]) hown8 (by simp [maxLen]) h6i
  have hcap := capok_own hown8
  have hnw : NewB w.heap.size v7 := ⟨hcap, fun j hj => by have := (hown8.lt j hj).1; omega⟩
  have hsm := some_own hown8 (by decide)
  clear hown7 hown8 hg7
  go_wp2_with (fail)
  go_ret
  exact ⟨_, rfl, htx, hsm, hnw, below_then hB1 hB7⟩
end Go.Proofs.YthakeeinhgfbbaaGreat

namespace Go.Proofs.YthakeeinhgfbbaaGreat
open Go.ChangeShapes Go.WideShapes Go.ChangeAt Go.RowKit
set_option linter.unusedVariables false
set_option linter.unusedSimpArgs false
set_option maxRecDepth 100000
attribute [local irreducible] Calls
set_option maxHeartbeats 4000000 in
theorem norm_tx (u : Value) (a b : Int) (l : List Tm) (w : World) (hu : Tx w u l) (hl : ∀ t ∈ l, TV t) :
    Calls Tryz.prog 59 #[u, .agg #[.int .i64 a, .int .i64 b]] w fun e w' => ∃ r, e = .returned (.agg #[r, .int .i64 (normM l (a, b)).2.1, .int .i64 (normM l (a, b)).2.2]) ∧ Tx w' r (normM l (a, b)).1 ∧ Below w.heap.size w w' := by
  obtain ⟨pu, cu, rfl⟩ := hu.cut
  have HU := Lib.hid hu
  have HL := Lib.hid hl
  by_cases hE : Ent a b
  · rw [show normM l (a, b) = ([], (-2147483648, 2147483648)) by unfold normM; rw [if_pos (by simp [entR, hE.1, hE.2])]]
    obtain ⟨rfl, rfl⟩ := hE
    dsimp only
    have hba : Below w.heap.size w ((w.alloc (.cells #[.int .i64 (-2147483648), .int .i64 2147483648] 24)).alloc (.cells #[.slice none 0 0, .int .i64 0, .int .i64 0] 26)) := (((Below.refl _ _).alloc (Nat.le_refl _) _).alloc (by simp) _)
    have hc0 : IvC ((w.alloc (.cells #[.int .i64 (-2147483648), .int .i64 2147483648] 24)).alloc (.cells #[.slice none 0 0, .int .i64 0, .int .i64 0] 26)) (w.heap.size) ((-2147483648), 2147483648) := by
      have e := IvC.new w (-2147483648) 2147483648
      exact (e.alloc _)
    have hc1 : MoC ((w.alloc (.cells #[.int .i64 (-2147483648), .int .i64 2147483648] 24)).alloc (.cells #[.slice none 0 0, .int .i64 0, .int .i64 0] 26)) (w.heap.size + 1) (.slice none 0 0) (0, 0) := by
      have e := MoC.new (w.alloc (.cells #[.int .i64 (-2147483648), .int .i64 2147483648] 24)) (.slice none 0 0) 0 0
      simp only [World.size_alloc] at e
      exact e
    have HC0 := Lib.hid hc0
    have HC1 := Lib.hid hc1
    have HBA := Lib.hid hba
    clear hba hc0 hc1 hu hl
    go_enter Tryz.func59, Tryz.ntmps59
    go_wp2_with (fail)
    generalize hW0 : World.alloc (World.alloc w _) _ = W0 at *
    clear hW0
    have k0 := HC0.out.c0
    have k1 := HC0.out.c1
    dsimp only at k0 k1
    go_wp2_with (fail)
    refine (r2ent_yes _).mono ?_
    rintro e w1 ⟨rfl, hB1⟩
    have hR5 := HC1.out.grow hB1
    have hI5 := HC0.out.grow hB1
    have hB6 := below_then HBA.out hB1
    have l0 := hI5.c0
    have l1 := hI5.c1
    have q0 := hR5.c0
    have q1 := hR5.c1
    have q2 := hR5.c2
    have z0 := hR5.frozen 0
    have z1 := hR5.frozen 1
    have z2 := hR5.frozen 2
    dsimp only at l0 l1 q0 q1 q2
    clear k0 k1
    go_wp2_with (fail)
    have hbe := ((hB6.setCell (p := ⟨w.heap.size + 1, 0, none⟩) (by dsimp only; omega) (.slice none 0 0)).setCell (p := ⟨w.heap.size + 1, 1, none⟩) (by dsimp only; omega) (.int .i64 (-2147483648))).setCell (p := ⟨w.heap.size + 1, 2, none⟩) (by dsimp only; omega) (.int .i64 2147483648)
    refine bodyPost_ret (v := .agg #[.slice none 0 0, .int .i64 (-2147483648), .int .i64 2147483648]) (by simp [results, Tryz.results59, go_sem, q0, q1, q2]) rfl ⟨_, rfl, ?_, hbe⟩
    exact Tx.nil _ _ _
  · rw [show normM l (a, b) = (l, (a, b)) by unfold normM; rw [if_neg (by simp only [entR, Bool.and_eq_true, beq_iff_eq]; exact hE)]]
    dsimp only
    have KE := Lib.hid (fun w => r2ent_no a b w hE)
    clear hE
    have hba : Below w.heap.size w ((w.alloc (.cells #[.int .i64 a, .int .i64 b] 24)).alloc (.cells #[.slice none 0 0, .int .i64 0, .int .i64 0] 26)) := (((Below.refl _ _).alloc (Nat.le_refl _) _).alloc (by simp) _)
    have hc0 : IvC ((w.alloc (.cells #[.int .i64 a, .int .i64 b] 24)).alloc (.cells #[.slice none 0 0, .int .i64 0, .int .i64 0] 26)) (w.heap.size) (a, b) := by
      have e := IvC.new w a b
      exact (e.alloc _)
    have hc1 : MoC ((w.alloc (.cells #[.int .i64 a, .int .i64 b] 24)).alloc (.cells #[.slice none 0 0, .int .i64 0, .int .i64 0] 26)) (w.heap.size + 1) (.slice none 0 0) (0, 0) := by
      have e := MoC.new (w.alloc (.cells #[.int .i64 a, .int .i64 b] 24)) (.slice none 0 0) 0 0
      simp only [World.size_alloc] at e
      exact e
    have HC0 := Lib.hid hc0
    have HC1 := Lib.hid hc1
    have HBA := Lib.hid hba
    clear hba hc0 hc1 hu hl
    go_enter Tryz.func59, Tryz.ntmps59
    go_wp2_with (fail)
    generalize hW0 : World.alloc (World.alloc w _) _ = W0 at *
    clear hW0
    have k0 := HC0.out.c0
    have k1 := HC0.out.c1
    dsimp only at k0 k1
    go_wp2_with (fail)
    refine (KE.out _).mono ?_
    rintro e w1 ⟨rfl, hB1⟩
    have hR5 := HC1.out.grow hB1
    have hI5 := HC0.out.grow hB1
    have hB6 := below_then HBA.out hB1
    have l0 := hI5.c0
    have l1 := hI5.c1
    have q0 := hR5.c0
    have q1 := hR5.c1
    have q2 := hR5.c2
    have z0 := hR5.frozen 0
    have z1 := hR5.frozen 1
    have z2 := hR5.frozen 2
    dsimp only at l0 l1 q0 q1 q2
    clear k0 k1
    go_wp2_with (fail)
    have hbe := ((hB6.setCell (p := ⟨w.heap.size + 1, 0, none⟩) (by dsimp only; omega) (.slice pu l.length cu)).setCell (p := ⟨w.heap.size + 1, 1, none⟩) (by dsimp only; omega) (.int .i64 a)).setCell (p := ⟨w.heap.size + 1, 2, none⟩) (by dsimp only; omega) (.int .i64 b)
    refine bodyPost_ret (v := .agg #[.slice pu l.length cu, .int .i64 a, .int .i64 b]) (by simp [results, Tryz.results59, go_sem, q0, q1, q2]) rfl ⟨_, rfl, ?_, hbe⟩
    exact tx_moff (HU.out.grow (below_then HBA.out hB1)) HL.out hR5 _ _ _
theorem nz_all {l : List Tm} (h : ∀ t ∈ l, t.1 ≠ 0) : nzT l = l := List.filter_eq_self.2 fun t ht => by simp [h t ht]
set_option maxHeartbeats 8000000 in
theorem rtrunc6_ok (u : Value) (a0 a1 d : Int) (l : List Tm) (w : World) (hu : Tx w u l) (nu : ∀ t ∈ l, TV t ∧ Num t.1) (nz : ∀ t ∈ l, t.1 ≠ 0) (su : l.length ≤ 100) (hd : d ≤ 6) (hv : VB2 (a0, a1)) :
    Calls Tryz.prog 28 #[.agg #[u, .int .i64 a0, .int .i64 a1], .int .i64 d] w fun e w' => ∃ r, e = .returned (.agg #[r, .int .i64 (truncM (l, (a0, a1)) d).2.1, .int .i64 (truncM (l, (a0, a1)) d).2.2]) ∧ Tx w' r (truncM (l, (a0, a1)) d).1 ∧ Below w.heap.size w w' := by
  obtain ⟨pu, cu, rfl⟩ := hu.cut
  have hrv := trunc_vb (l := l) (D := d) (m := (0, 0)) (Int.le_refl _)
  have KR := Lib.hid (fun w h => rtrunc_ok (.slice pu l.length cu) l d w h (fun t ht => (nu t ht).1) (by omega))
  rw [nz_all nz, show min d 6 = d by omega] at KR
  unfold truncM
  rw [addI2_comm]
  have htv : ∀ t ∈ (truncP l d (0, 0)).1, TV t := truncP_tvY fun t ht => (nu t ht).1
  obtain ⟨⟨P, p0, p1⟩, hr⟩ : ∃ R, truncP l d (0, 0) = R := ⟨_, rfl⟩
  rw [hr] at KR hrv htv ⊢
  have KA := Lib.hid (fun w => r2addv a0 a1 p0 p1 w hv hrv)
  unfold addI2
  try dsimp only at KR ⊢
  obtain ⟨n0, h0⟩ : ∃ z, addLo a0 a1 p0 p1 = z := ⟨_, rfl⟩
  obtain ⟨n1, h1⟩ : ∃ z, addHi a0 a1 p0 p1 = z := ⟨_, rfl⟩
  rw [h0, h1] at KA ⊢
  have KN := Lib.hid (fun (u : Value) w h => norm_tx u n0 n1 P w h htv)
  have HQV := Lib.hid (normM_tv (p := (n0, n1)) htv)
  obtain ⟨⟨Q, q0, q1⟩, hq⟩ : ∃ R, normM P (n0, n1) = R := ⟨_, rfl⟩
  rw [hq] at KN HQV ⊢
  try dsimp only at KN HQV ⊢
  have hba : Below w.heap.size w ((w.alloc (.cells #[.slice pu l.length cu, .int .i64 a0, .int .i64 a1] 26)).alloc (.cells #[.slice none 0 0, .int .i64 0, .int .i64 0] 26)) := (((Below.refl _ _).alloc (Nat.le_refl _) _).alloc (by simp) _)
  have hc0 : MoC ((w.alloc (.cells #[.slice pu l.length cu, .int .i64 a0, .int .i64 a1] 26)).alloc (.cells #[.slice none 0 0, .int .i64 0, .int .i64 0] 26)) (w.heap.size) (.slice pu l.length cu) (a0, a1) := (MoC.new w (.slice pu l.length cu) a0 a1).alloc _
  have hc1 : MoC ((w.alloc (.cells #[.slice pu l.length cu, .int .i64 a0, .int .i64 a1] 26)).alloc (.cells #[.slice none 0 0, .int .i64 0, .int .i64 0] 26)) (w.heap.size + 1) (.slice none 0 0) (0, 0) := by
    have e := MoC.new (w.alloc (.cells #[.slice pu l.length cu, .int .i64 a0, .int .i64 a1] 26)) (.slice none 0 0) 0 0
    simp only [World.size_alloc] at e
    exact e
  have HU := Lib.hid (hu.grow hba)
  have HC0 := Lib.hid hc0
  have HC1 := Lib.hid hc1
  have HBA := Lib.hid hba
  clear hba hc0 hc1 hu nu nz su hv hrv htv hr h0 h1 hq hd
  go_enter Tryz.func28, Tryz.ntmps28
  go_wp2_with (fail)
  generalize hW0 : World.alloc (World.alloc w _) _ = W0 at *
  clear hW0
  have k0 := HC0.out.c0
  try dsimp only at k0
  go_wp2_with (fail)
  refine (KR.out _ HU.out).mono ?_
  rintro e w1 ⟨rt, rfl, txt, hnb, hB⟩
  clear k0 hnb KR
  have hg := (Below.refl w1.heap.size w1).alloc (Nat.le_refl _) (.cells #[.int .i64 p0, .int .i64 p1] 24)
  replace HBA := Lib.hid (below_then (below_then HBA.out hB) hg)
  replace HC0 := Lib.hid ((HC0.out.grow hB).grow hg)
  replace HC1 := Lib.hid ((HC1.out.grow hB).grow hg)
  have HT := Lib.hid (txt.grow hg)
  have HI := Lib.hid (IvC.new w1 p0 p1)
  clear hB hg txt HU
  obtain ⟨W1, hW1⟩ : ∃ W, w1.alloc (.cells #[.int .i64 p0, .int .i64 p1] 24) = W := ⟨_, rfl⟩
  rw [hW1] at HBA HC0 HC1 HT HI
  have k1 := HC0.out.c1
  have k2 := HC0.out.c2
  have j0 := HI.out.c0
  have j1 := HI.out.c1
  dsimp only at k1 k2 j0 j1
  go_wp2_with (fail)
  try rw [hW1]
  clear hW1
  refine (KA.out _).mono ?_
  rintro e w2 ⟨rfl, hB⟩
  replace HBA := Lib.hid (below_then HBA.out hB)
  replace HC1 := Lib.hid (HC1.out.grow hB)
  replace HT := Lib.hid (HT.out.grow hB)
  clear k1 k2 j0 j1 hB KA
  go_wp2_with (fail)
  refine (KN.out _ _ HT.out).mono ?_
  rintro e w3 ⟨rq, rfl, txq, hB⟩
  have hB3 := below_then HBA.out hB
  have hR := HC1.out.grow hB
  have q0_ := hR.c0
  have q1_ := hR.c1
  have q2_ := hR.c2
  have z0 := hR.frozen 0
  have z1 := hR.frozen 1
  have z2 := hR.frozen 2
  dsimp only at q0_ q1_ q2_
  clear hB KN HT
  obtain ⟨pq, cq, rfl⟩ := txq.cut
  go_wp2_with (fail)
  refine bodyPost_ret (v := .agg #[.slice pq Q.length cq, .int .i64 q0, .int .i64 q1]) (by simp [results, Tryz.results28, go_sem, q0_, q1_, q2_]) rfl ⟨_, rfl, tx_moff txq HQV.out hR _ _ _, ?_⟩
  exact ((hB3.setCell (p := ⟨w.heap.size + 1, 0, none⟩) (by dsimp only; omega) _).setCell (p := ⟨w.heap.size + 1, 1, none⟩) (by dsimp only; omega) _).setCell (p := ⟨w.heap.size + 1, 2, none⟩) (by dsimp only; omega) _
end Go.Proofs.YthakeeinhgfbbaaGreat

namespace Go.Proofs.YthakeeinhgfbbaaGreat
open Go.ChangeShapes Go.WideShapes Go.ChangeAt Go.RowKit
set_option linter.unusedVariables false
set_option linter.unusedSimpArgs false
set_option maxRecDepth 100000
attribute [local irreducible] Calls
def ShS (v : Value) : Prop := v = .slice none 0 0 ∨ ∃ b o n c, v = .slice (some ⟨b, o, none⟩) n c ∧ n ≤ c
theorem insert_any (q : Option Addr) (c : Nat) (l : List Tm) (x : Tm) (w : World) (hv : Tx w (.slice q l.length c) l) (hc : ShS (.slice q l.length c)) (hl : ∀ t ∈ l, TV t ∧ Small62 t) (hx : TV x ∧ Small62 x) (hsm : l.length ≤ 1000000) :
    Calls Tryz.prog 100 #[.slice q l.length c, valT x] w fun e w' => ∃ r, e = .returned r ∧ Tx w' r (insT x l) ∧ SomeS r ∧ NewB w.heap.size r ∧ Below w.heap.size w w' := by
  rcases hc with h | ⟨b, o, n, c', h, hle⟩
  · simp only [Value.slice.injEq] at h
    obtain ⟨rfl, h0, rfl⟩ := h
    obtain rfl : l = [] := List.length_eq_zero_iff.1 h0
    exact insert_none x w hx
  · simp only [Value.slice.injEq] at h
    obtain ⟨rfl, h0, rfl⟩ := h
    exact insert_ok b o c l x w hv (by omega) hl hx hsm
set_option maxHeartbeats 16000000 in
theorem radd6_ok (q : Option Addr) (c : Nat) (v : Value) (l m : List Tm) (w : World) (hu : Tx w (.slice q l.length c) l) (hs : ShS (.slice q l.length c)) (hv : Tx w v m) (hl : ∀ t ∈ l, TV t ∧ Num t.1) (hm : ∀ t ∈ m, TV t ∧ Num t.1) (s1 : l.length ≤ 1000) (s2 : m.length ≤ 1000) :
    Calls Tryz.prog 58 #[.slice q l.length c, v] w fun e w' => ∃ u, e = .returned (.tuple #[u, .agg #[.int .i64 (truncP (nzT (foldI l m)) 6 (0, 0)).2.1, .int .i64 (truncP (nzT (foldI l m)) 6 (0, 0)).2.2]]) ∧ Tx w' u (truncP (nzT (foldI l m)) 6 (0, 0)).1 ∧ Below w.heap.size w w' := by
  obtain ⟨R, hR⟩ : ∃ R, truncP (nzT (foldI l m)) 6 (0, 0) = R := ⟨_, rfl⟩
  rw [hR]
  obtain ⟨Rl, n0, n1⟩ := R
  dsimp only
  have HRR := Lib.hid hR
  clear hR
  obtain ⟨p, cv, rfl⟩ := hv.cut
  have HU := Lib.hid hu
  have HV := Lib.hid hv
  have HLN := Lib.hid hl
  have HMN := Lib.hid hm
  have hba : Below w.heap.size w (w.alloc (.cells #[.int .i64 0, .int .i64 0] 24)) := (Below.refl _ _).alloc (Nat.le_refl _) _
  have hI1 : IvC (w.alloc (.cells #[.int .i64 0, .int .i64 0] 24)) w.heap.size (0, 0) := World.alloc_heap_new w _
  have HU1 := Lib.hid (hu.grow hba)
  have HI := Lib.hid hI1
  have HBA := Lib.hid hba
  clear hu hv hl hm hba hI1
  go_enter Tryz.func58, Tryz.ntmps58
  go_wp2_with (fail)
  generalize hW0 : World.alloc w _ = W0 at *
  clear hW0
  go_loopw [6, 7] (fun u i wr => ∃ (k c' : Nat) (q' : Option Addr), u = .slice q' (foldI l (m.take k)).length c' ∧ ShS (.slice q' (foldI l (m.take k)).length c') ∧ i = .int .i64 k ∧ k ≤ m.length ∧ Hid (Bdd (2147483648 * ((k : Int) + 1)) (foldI l (m.take k))) ∧ Hid (Tx wr (.slice q' (foldI l (m.take k)).length c') (foldI l (m.take k))) ∧ ∃ g : Grown W0, wr = g.w) (fun _ i _ => m.length - (intOf i).toNat)
  case atStart => exact ⟨0, c, q, rfl, hs, rfl, Nat.zero_le _, Lib.hid (bdd_num HLN.out), HU1, ⟨W0, Below.refl _ _⟩, rfl⟩
  case round =>
    obtain ⟨k, c', q', rfl, hc', rfl, hk, HB, HT, g0, rfl⟩ := hrel
    by_cases hlt : k < m.length
    · have i1 : (k : Int) < m.length := by omega
      obtain ⟨t, hx⟩ : ∃ t, m[k]? = some t := ⟨_, List.getElem?_eq_getElem hlt⟩
      have tx := HMN.out t (List.mem_of_getElem? hx)
      have hs := foldI_snoc (l := l) hx
      have hbt := bdd_num HMN.out t (List.mem_of_getElem? hx)
      have hb1 := ins_bdd (x := t) (A := 2147483648 * ((k : Int) + 1)) (B := 2147483648) (by omega) (by decide) hbt HB.out
      rw [← hs] at hb1
      have hfl := foldI_len l (m.take k)
      rw [List.length_take] at hfl
      obtain ⟨ka, a0, a1, a2, a3, a4, a5, rfl⟩ := six_at tx.1
      obtain ⟨b2, o2, hp, hbb, rd⟩ := HV.out.rd7 hx
      subst hp
      obtain ⟨f0, f1, f2, f3, f4, f5, f6⟩ := rd ⟨g0.w, below_then HBA.out g0.h⟩
      dsimp only at f0 f1 f2 f3 f4 f5 f6
      have HIN := Lib.hid (insert_any q' c' (foldI l (m.take k)) (ka, [a0, a1, a2, a3, a4, a5]) g0.w HT.out hc' (bdd_ts HB.out (by omega)) ⟨tx.1, by have := tx.2; unfold Num at this; unfold Small62; omega⟩ (by omega))
      rw [show valT (ka, [a0, a1, a2, a3, a4, a5]) = .agg #[.int .i64 ka, .int .u8 a0, .int .u8 a1, .int .u8 a2, .int .u8 a3, .int .u8 a4, .int .u8 a5] from rfl, ← hs] at HIN
      have HB1 : Hid (Bdd (2147483648 * (((k + 1 : Nat) : Int) + 1)) (foldI l (m.take (k + 1)))) := Lib.hid (by
        have e : 2147483648 * (((k + 1 : Nat) : Int) + 1) = 2147483648 * ((k : Int) + 1) + 2147483648 := by push_cast; omega
        rw [e]
        exact hb1)
      clear hx tx hs hbt hb1 rd hfl
      go_wp2_with (fail)
      refine HIN.out.mono ?_
      rintro e w5 ⟨r, rfl, h1, ⟨b5, o5, n5, c5, rfl, h2⟩, _, h4⟩
      obtain rfl : n5 = (foldI l (m.take (k + 1))).length := by
        obtain ⟨_, _, _, e, _⟩ := h1
        simp only [Value.slice.injEq] at e
        exact e.2.1
      obtain ⟨g5, hg5⟩ : ∃ g : Grown W0, w5 = g.w := grow g0 h4
      have HT5 := Lib.hid h1
      clear h1 h4 f0 f1 f2 f3 f4 f5 f6
      subst hg5
      go_wp2_with (fail)
      exact ⟨⟨k + 1, c5, some ⟨b5, o5, none⟩, rfl, .inr ⟨_, _, _, _, rfl, h2⟩, by go_num, by omega, HB1, HT5, g5, rfl⟩, by simp [intOf]; omega⟩
    · obtain rfl : k = m.length := by omega
      have i1 : ¬ (m.length : Int) < m.length := by omega
      rw [List.take_length] at HB HT hc' ⊢
      have hfl := foldI_len l m
      have K := Lib.hid (rfin_ok (.slice q' (foldI l m).length c') (foldI l m) 6 0 0 g0.w HT.out (fun t ht => (bdd_ts HB.out (by omega) t ht).1) (by unfold FB; decide) (by omega))
      rw [show min (6 : Int) 6 = 6 by decide] at K
      rw [HRR.out] at K
      dsimp only at K
      have hI0 := HI.out.grow g0.h
      have hB0 := below_then HBA.out g0.h
      have hls := HI.out.lt
      have hgs := g0.h.size
      go_wp2_with (fail)
      refine K.out.mono ?_
      rintro e w2 ⟨u, rfl, h1, h2, h3⟩
      have hI2 := hI0.grow h3
      have hB2 := below_then hB0 h3
      have c2 : IvC (w2.alloc (.cells #[.int .i64 n0, .int .i64 n1] 24)) w2.heap.size (n0, n1) := World.alloc_heap_new w2 _
      have ha2 : Below w2.heap.size w2 (w2.alloc (.cells #[.int .i64 n0, .int .i64 n1] 24)) := (Below.refl _ _).alloc (Nat.le_refl _) _
      have hI3 := hI2.grow ha2
      have hB3 := below_then hB2 ha2
      have hX3 := h1.grow ha2
      have y0 := c2.c0
      have y1 := c2.c1
      have q0 := hI3.c0
      have q1 := hI3.c1
      have z0 := hI3.frozen 0
      have z1 := hI3.frozen 1
      have hlt5 := hI3.lt
      dsimp only at y0 y1 q0 q1
      clear hI0 hI2 c2 ha2 h1 h3
      go_wp2_with (fail)
      generalize hW2 : World.alloc w2 _ = W2 at *
      go_region
      go_wp2_with (fail)
      refine bodyPost_ret (v := .tuple #[u, .agg #[.int .i64 n0, .int .i64 n1]]) (by simp [results, Tryz.results58, go_sem, q0, q1]) rfl ⟨_, rfl, ?_, ?_⟩
      · exact (hX3.off h2 (by omega) hlt5 _ _).grow ((Below.refl _ _).drew)
      · exact ((hB3.setCell (p := ⟨w.heap.size, 0, none⟩) (Nat.le_refl _) _).setCell (p := ⟨w.heap.size, 1, none⟩) (Nat.le_refl _) _).drew
end Go.Proofs.YthakeeinhgfbbaaGreat

namespace Go.Proofs.YthakeeinhgfbbaaGreat
open Go.ChangeShapes Go.WideShapes Go.ChangeAt Go.RowKit
set_option linter.unusedVariables false
set_option linter.unusedSimpArgs false
set_option maxRecDepth 100000

attribute [local irreducible] Calls
end Go.Proofs.YthakeeinhgfbbaaGreat

namespace Go.Proofs.YthakeeinhgfbbaaGreat
open Go.ChangeShapes Go.WideShapes Go.ChangeAt Go.RowKit
set_option linter.unusedVariables false
set_option linter.unusedSimpArgs false
set_option maxRecDepth 100000
attribute [local irreducible] Calls
set_option maxHeartbeats 16000000 in
theorem radd6m_ok (u v : Value) (a0 a1 b0 b1 : Int) (l m : List Tm) (w : World) (hu : Tx w u l) (nu : ∀ t ∈ l, TV t ∧ Num t.1) (vpu : VP l) (su : l.length ≤ 100) (hsu : ShS u) (hv : Tx w v m) (nv : ∀ t ∈ m, TV t ∧ Num t.1) (vpv : VP m) (sv : m.length ≤ 100) (ha : VB2 (a0, a1)) (hb : VB2 (b0, b1)) :
    Calls Tryz.prog 18 #[.agg #[u, .int .i64 a0, .int .i64 a1], .agg #[v, .int .i64 b0, .int .i64 b1]] w fun e w' => ∃ r, e = .returned (.agg #[r, .int .i64 (addM (l, (a0, a1)) (m, (b0, b1))).2.1, .int .i64 (addM (l, (a0, a1)) (m, (b0, b1))).2.2]) ∧ Tx w' r (addM (l, (a0, a1)) (m, (b0, b1))).1 ∧ Below w.heap.size w w' := by
  obtain ⟨pu, cu, rfl⟩ := hu.cut
  obtain ⟨pv, cv, rfl⟩ := hv.cut
  have KR := Lib.hid (fun w h1 h2 => radd6_ok pu cu (.slice pv m.length cv) l m w h1 hsu h2 nu nv (by omega) (by omega))
  rw [fold_merge vpu vpv] at KR
  have hrv := merge_vb l m
  have htv : ∀ t ∈ (truncP (mergeP l m) 6 (0, 0)).1, TV t := truncP_tvY (merge_tv nu nv)
  unfold addM
  rw [addI2_comm]
  have hsv := addI2_vb ha hb
  obtain ⟨⟨P, p0, p1⟩, hr⟩ : ∃ R, truncP (mergeP l m) 6 (0, 0) = R := ⟨_, rfl⟩
  rw [hr] at KR hrv htv ⊢
  have KA := Lib.hid (fun w => r2addv a0 a1 b0 b1 w ha hb)
  obtain ⟨⟨s0, s1⟩, hs⟩ : ∃ R, addI2 (a0, a1) (b0, b1) = R := ⟨_, rfl⟩
  dsimp only
  rw [hs] at hsv ⊢
  have e0 : addLo a0 a1 b0 b1 = s0 := congrArg Prod.fst hs
  have e1 : addHi a0 a1 b0 b1 = s1 := congrArg Prod.snd hs
  rw [e0, e1] at KA
  have KB := Lib.hid (fun w => r2addv s0 s1 p0 p1 w hsv hrv)
  obtain ⟨⟨n0, n1⟩, hn⟩ : ∃ R, addI2 (s0, s1) (p0, p1) = R := ⟨_, rfl⟩
  rw [hn]
  have e2 : addLo s0 s1 p0 p1 = n0 := congrArg Prod.fst hn
  have e3 : addHi s0 s1 p0 p1 = n1 := congrArg Prod.snd hn
  rw [e2, e3] at KB
  have KN := Lib.hid (fun (u : Value) w h => norm_tx u n0 n1 P w h htv)
  have HQV := Lib.hid (normM_tv (p := (n0, n1)) htv)
  obtain ⟨⟨Q, q0, q1⟩, hq⟩ : ∃ R, normM P (n0, n1) = R := ⟨_, rfl⟩
  rw [hq] at KN HQV ⊢
  try dsimp only at KR KN HQV ⊢
  have hba : Below w.heap.size w (((w.alloc (.cells #[.slice pu l.length cu, .int .i64 a0, .int .i64 a1] 26)).alloc (.cells #[.slice pv m.length cv, .int .i64 b0, .int .i64 b1] 26)).alloc (.cells #[.slice none 0 0, .int .i64 0, .int .i64 0] 26)) := (((Below.refl _ _).alloc (Nat.le_refl _) _).alloc (by simp) _).alloc (by simp; omega) _
  have hc0 : MoC (((w.alloc (.cells #[.slice pu l.length cu, .int .i64 a0, .int .i64 a1] 26)).alloc (.cells #[.slice pv m.length cv, .int .i64 b0, .int .i64 b1] 26)).alloc (.cells #[.slice none 0 0, .int .i64 0, .int .i64 0] 26)) (w.heap.size) (.slice pu l.length cu) (a0, a1) := ((MoC.new w (.slice pu l.length cu) a0 a1).alloc _).alloc _
  have hc1 : MoC (((w.alloc (.cells #[.slice pu l.length cu, .int .i64 a0, .int .i64 a1] 26)).alloc (.cells #[.slice pv m.length cv, .int .i64 b0, .int .i64 b1] 26)).alloc (.cells #[.slice none 0 0, .int .i64 0, .int .i64 0] 26)) (w.heap.size + 1) (.slice pv m.length cv) (b0, b1) := by
    have e := (MoC.new (w.alloc (.cells #[.slice pu l.length cu, .int .i64 a0, .int .i64 a1] 26)) (.slice pv m.length cv) b0 b1).alloc (.cells #[.slice none 0 0, .int .i64 0, .int .i64 0] 26)
    simp only [World.size_alloc] at e
    exact e
  have hc2 : MoC (((w.alloc (.cells #[.slice pu l.length cu, .int .i64 a0, .int .i64 a1] 26)).alloc (.cells #[.slice pv m.length cv, .int .i64 b0, .int .i64 b1] 26)).alloc (.cells #[.slice none 0 0, .int .i64 0, .int .i64 0] 26)) (w.heap.size + 2) (.slice none 0 0) (0, 0) := by
    have e := MoC.new ((w.alloc (.cells #[.slice pu l.length cu, .int .i64 a0, .int .i64 a1] 26)).alloc (.cells #[.slice pv m.length cv, .int .i64 b0, .int .i64 b1] 26)) (.slice none 0 0) 0 0
    simp only [World.size_alloc] at e
    exact e
  have HU := Lib.hid (hu.grow hba)
  have HV := Lib.hid (hv.grow hba)
  have HC0 := Lib.hid hc0
  have HC1 := Lib.hid hc1
  have HC2 := Lib.hid hc2
  have HBA := Lib.hid hba
  clear hba hc0 hc1 hc2
  clear hu hv nu nv vpu vpv su sv hsu ha hb hrv htv hr hs hn hq hsv e0 e1 e2 e3
  go_enter Tryz.func18, Tryz.ntmps18
  go_wp2_with (fail)
  generalize hW0 : World.alloc (World.alloc (World.alloc w _) _) _ = W0 at *
  clear hW0
  have k0 := HC0.out.c0
  have j0 := HC1.out.c0
  go_wp2_with (fail)
  refine (KR.out _ HU.out HV.out).mono ?_
  rintro e w1 ⟨rt, rfl, txt, hB⟩
  obtain ⟨pt, ct_, rfl⟩ := txt.cut
  clear k0 j0 KR
  have hg := (Below.refl w1.heap.size w1).alloc (Nat.le_refl _) (.cells #[.int .i64 p0, .int .i64 p1] 24)
  replace HBA := Lib.hid (below_then (below_then HBA.out hB) hg)
  replace HC0 := Lib.hid ((HC0.out.grow hB).grow hg)
  replace HC1 := Lib.hid ((HC1.out.grow hB).grow hg)
  replace HC2 := Lib.hid ((HC2.out.grow hB).grow hg)
  have HT := Lib.hid (txt.grow hg)
  have HI := Lib.hid (IvC.new w1 p0 p1)
  clear hB hg txt HU HV
  obtain ⟨W1, hW1⟩ : ∃ W, w1.alloc (.cells #[.int .i64 p0, .int .i64 p1] 24) = W := ⟨_, rfl⟩
  rw [hW1] at HBA HC0 HC1 HC2 HT HI
  go_wp2_with (fail)
  try rw [hW1]
  clear hW1
  have k1 := fun g : Grown W1 => (HC0.out.grow g.h).c1
  have k2 := fun g : Grown W1 => (HC0.out.grow g.h).c2
  have j1 := fun g : Grown W1 => (HC1.out.grow g.h).c1
  have j2 := fun g : Grown W1 => (HC1.out.grow g.h).c2
  have i0 := fun g : Grown W1 => (HI.out.grow g.h).c0
  have i1 := fun g : Grown W1 => (HI.out.grow g.h).c1
  dsimp only at k1 k2 j1 j2 i0 i1
  refine region_pred_l (lk [(15, fun z_ _ => z_ = .slice pt P.length ct_), (16, fun z_ _ => z_ = .pointer (some ⟨w.heap.size, 1, none⟩)), (17, fun z_ _ => z_ = .agg #[.int .i64 a0, .int .i64 a1]), (18, fun z_ _ => z_ = .pointer (some ⟨w.heap.size + 1, 1, none⟩)), (19, fun z_ _ => z_ = .agg #[.int .i64 b0, .int .i64 b1]), (20, fun z_ _ => z_ = .agg #[.int .i64 s0, .int .i64 s1]), (21, fun z_ _ => z_ = .agg #[.int .i64 p0, .int .i64 p1]), (22, fun z_ _ => z_ = .agg #[.int .i64 n0, .int .i64 n1]), (23, fun z_ w' => ∃ p_ n_ c_, z_ = .agg #[.slice p_ n_ c_, .int .i64 q0, .int .i64 q1] ∧ Tx w' (.slice p_ n_ c_) Q)]) 9 _ rfl (by kernel_rfl) (by kernel_rfl) (by kernel_rfl) (lk_steady _ ⟨steady_eq _, steady_eq _, steady_eq _, steady_eq _, steady_eq _, steady_eq _, steady_eq _, steady_eq _, fun u w1 w2 hb ⟨p, n, c, e, h⟩ => ⟨p, n, c, e, h.grow hb⟩, trivial⟩) ?_ ?_
  · refine ⟨?_, ?_, ?_, ?_, ?_, ?_, ?_, ?_, ?_, ?_, trivial⟩
    · intro _
      refine ob_plain [5] rfl rfl fun aa g h => ?_
      have yy0 := seen_out (v := .slice pt P.length ct_) rfl rfl h.1
      have ee0 := getD_of yy0
      exact tupon_value (v := .slice pt P.length ct_) (by simp [go_sem, ee0, yy0]) (Below.refl _ _) rfl
    · intro _
      refine ob_plain [2] rfl rfl fun aa g h => ?_
      have yy0 := seen_out (v := .pointer (some ⟨w.heap.size, 0, none⟩)) rfl rfl h.1
      have ee0 := getD_of yy0
      exact tupon_value (v := .pointer (some ⟨w.heap.size, 1, none⟩)) (by simp [go_sem, ee0, yy0]) (Below.refl _ _) rfl
    · intro _
      refine ob_plain [16] rfl rfl fun aa g h => ?_
      obtain ⟨_, yy0, rfl⟩ := seen_in rfl h.1
      have ee0 := getD_of yy0
      exact tupon_value (v := .agg #[.int .i64 a0, .int .i64 a1]) (by simp [go_sem, ee0, yy0, k1 g, k2 g]) (Below.refl _ _) rfl
    · intro _
      refine ob_plain [3] rfl rfl fun aa g h => ?_
      have yy0 := seen_out (v := .pointer (some ⟨w.heap.size + 1, 0, none⟩)) rfl rfl h.1
      have ee0 := getD_of yy0
      exact tupon_value (v := .pointer (some ⟨w.heap.size + 1, 1, none⟩)) (by simp [go_sem, ee0, yy0]) (Below.refl _ _) rfl
    · intro _
      refine ob_plain [18] rfl rfl fun aa g h => ?_
      obtain ⟨_, yy0, rfl⟩ := seen_in rfl h.1
      have ee0 := getD_of yy0
      exact tupon_value (v := .agg #[.int .i64 b0, .int .i64 b1]) (by simp [go_sem, ee0, yy0, j1 g, j2 g]) (Below.refl _ _) rfl
    · intro _
      refine ob_plain [17, 19] rfl rfl fun aa g h => ?_
      obtain ⟨_, yy0, rfl⟩ := seen_in rfl h.1
      have ee0 := getD_of yy0
      obtain ⟨_, yy1, rfl⟩ := seen_in rfl h.2.1
      have ee1 := getD_of yy1
      refine tupon_enter (f := 60) (args := #[.agg #[.int .i64 a0, .int .i64 a1], .agg #[.int .i64 b0, .int .i64 b1]]) (by simp [go_sem, ee0, yy0, ee1, yy1]) rfl ?_
      exact (KA.out g.w).mono fun e w' ⟨he, hB⟩ => ⟨_, he, hB, rfl⟩
    · intro _
      refine ob_plain [6] rfl rfl fun aa g h => ?_
      have yy0 := seen_out (v := .pointer (some ⟨w1.heap.size, 0, none⟩)) rfl rfl h.1
      have ee0 := getD_of yy0
      exact tupon_value (v := .agg #[.int .i64 p0, .int .i64 p1]) (by simp [go_sem, ee0, yy0, i0 g, i1 g]) (Below.refl _ _) rfl
    · intro _
      refine ob_plain [20, 21] rfl rfl fun aa g h => ?_
      obtain ⟨_, yy0, rfl⟩ := seen_in rfl h.1
      have ee0 := getD_of yy0
      obtain ⟨_, yy1, rfl⟩ := seen_in rfl h.2.1
      have ee1 := getD_of yy1
      refine tupon_enter (f := 60) (args := #[.agg #[.int .i64 s0, .int .i64 s1], .agg #[.int .i64 p0, .int .i64 p1]]) (by simp [go_sem, ee0, yy0, ee1, yy1]) rfl ?_
      exact (KB.out g.w).mono fun e w' ⟨he, hB⟩ => ⟨_, he, hB, rfl⟩
    · intro _
      refine ob_plain [15, 22] rfl rfl fun aa g h => ?_
      obtain ⟨_, yy0, rfl⟩ := seen_in rfl h.1
      have ee0 := getD_of yy0
      obtain ⟨_, yy1, rfl⟩ := seen_in rfl h.2.1
      have ee1 := getD_of yy1
      refine tupon_enter (f := 59) (args := #[.slice pt P.length ct_, .agg #[.int .i64 n0, .int .i64 n1]]) (by simp [go_sem, ee0, yy0, ee1, yy1]) rfl ?_
      exact (KN.out (.slice pt P.length ct_) g.w (HT.out.grow g.h)).mono fun e w' ⟨r, he, hx, hB⟩ => ⟨_, he, hB, (by obtain ⟨p, c, e1⟩ := hx.cut; subst e1; exact ⟨p, _, c, rfl, hx⟩)⟩
    · exact fun h => absurd rfl h
  rintro w9 hB9 _ rfl _ rfl _ rfl _ rfl _ rfl _ rfl _ rfl _ rfl _ ⟨p23, n23, c23, rfl, tx23⟩
  simp only [Act.put, List.setIfInBounds_toArray, List.set_cons_succ, List.set_cons_zero, List.filterMap_nil, finP]
  have hB10 := below_then HBA.out hB9
  have hR := HC2.out.grow hB9
  have y0 := hR.c0
  have y1 := hR.c1
  have y2 := hR.c2
  have z0 := hR.frozen 0
  have z1 := hR.frozen 1
  have z2 := hR.frozen 2
  dsimp only at y0 y1 y2
  refine ⟨_, by simp [go_sem, y0, y1, y2, z0, z1, z2]; rfl, ?_⟩
  clear k1 k2 j1 j2 i0 i1 KA KB KN HT
  go_wp2_with (fail)
  refine bodyPost_ret (v := .agg #[.slice p23 n23 c23, .int .i64 q0, .int .i64 q1]) (by simp [results, Tryz.results18, go_sem, y0, y1, y2]) rfl ⟨_, rfl, tx_moff tx23 HQV.out hR _ _ _, ?_⟩
  exact ((hB10.setCell (p := ⟨w.heap.size + 2, 0, none⟩) (by dsimp only; omega) _).setCell (p := ⟨w.heap.size + 2, 1, none⟩) (by dsimp only; omega) _).setCell (p := ⟨w.heap.size + 2, 2, none⟩) (by dsimp only; omega) _
end Go.Proofs.YthakeeinhgfbbaaGreat

namespace Go.Proofs.YthakeeinhgfbbaaGreat
open Go.ChangeShapes Go.WideShapes Go.ChangeAt Go.RowKit
set_option linter.unusedVariables false
set_option linter.unusedSimpArgs false
set_option maxRecDepth 100000
attribute [local irreducible] Calls
theorem mulM_ent {a b : Mo} (d : Int) (h : Ent a.2.1 a.2.2 ∨ Ent b.2.1 b.2.2) : mulM a b d = ([], (-2147483648, 2147483648)) := by
  have e : Ent (mulI2 a.2 b.2).1 (mulI2 a.2 b.2).2 := by
    unfold mulI2 mulLo mulHi
    dsimp only
    rw [if_pos h, if_pos h]
    exact ⟨rfl, rfl⟩
  have f := add_ent_r (p := addI2 (addI2 (mulR a.1 b.1 d).2 (mulI2 (rngP a.1) b.2)) (mulI2 (rngP b.1) a.2)) e
  unfold mulM normM
  rw [if_pos (by simp only [entR, Bool.and_eq_true, beq_iff_eq]; exact f)]
theorem r2mulv (a b c d : Int) (w : World) (h : VB2 (a, b)) (k : VB2 (c, d)) :
    Calls Tryz.prog 68 #[.agg #[.int .i64 a, .int .i64 b], .agg #[.int .i64 c, .int .i64 d]] w fun e w' => e = .returned (.agg #[.int .i64 (mulI2 (a, b) (c, d)).1, .int .i64 (mulI2 (a, b) (c, d)).2]) ∧ Below w.heap.size w w' := by
  exact r2mul a b c d w h k
theorem r2addp (p q : Int × Int) (w : World) (h : VB2 p) (k : VB2 q) :
    Calls Tryz.prog 60 #[.agg #[.int .i64 p.1, .int .i64 p.2], .agg #[.int .i64 q.1, .int .i64 q.2]] w fun e w' => e = .returned (.agg #[.int .i64 (addI2 p q).1, .int .i64 (addI2 p q).2]) ∧ Below w.heap.size w w' := r2addv p.1 p.2 q.1 q.2 w h k
set_option maxHeartbeats 32000000 in
theorem rmul6_ok (u v : Value) (a0 a1 b0 b1 d : Int) (l m : List Tm) (w : World) (hu : Tx w u l) (nu : ∀ t ∈ l, TV t ∧ Num t.1) (su : l.length ≤ 100) (hv : Tx w v m) (nv : ∀ t ∈ m, TV t ∧ Num t.1) (sv : m.length ≤ 100) (ha : VB2 (a0, a1)) (hb : VB2 (b0, b1)) :
    Calls Tryz.prog 24 #[.agg #[u, .int .i64 a0, .int .i64 a1], .agg #[v, .int .i64 b0, .int .i64 b1], .int .i64 d] w fun e w' => ∃ r, e = .returned (.agg #[r, .int .i64 (mulM (l, (a0, a1)) (m, (b0, b1)) d).2.1, .int .i64 (mulM (l, (a0, a1)) (m, (b0, b1)) d).2.2]) ∧ Tx w' r (mulM (l, (a0, a1)) (m, (b0, b1)) d).1 ∧ Below w.heap.size w w' := by
  obtain ⟨pu, cu, rfl⟩ := hu.cut
  obtain ⟨pv, cv, rfl⟩ := hv.cut
  have hlm : l.length * m.length ≤ 10000 := Nat.le_trans (Nat.mul_le_mul su sv) (by decide)
  have KP := Lib.hid (fun w h1 h2 => rmul_ok (.slice pu l.length cu) (.slice pv m.length cv) l m d w h1 h2 nu nv hlm)
  have hmv := mulR_vb l m d
  have htv : ∀ t ∈ (mulR l m d).1, TV t := truncP_tvY (mulP_tv nu nv hlm)
  have hr1 := rng_vb (l := l) fun t ht => (nu t ht).2
  have hr2 := rng_vb (l := m) fun t ht => (nv t ht).2
  have KG := Lib.hid (fun w h => rrange_ok (.slice pu l.length cu) l w h nu (by omega))
  have KH := Lib.hid (fun w h => rrange_ok (.slice pv m.length cv) m w h nv (by omega))
  rw [show newR (sumR l) = rngP l from rfl] at KG
  rw [show newR (sumR m) = rngP m from rfl] at KH
  have hme := mulM_ent (a := (l, (a0, a1))) (b := (m, (b0, b1))) d
  have hba : Below w.heap.size w (((w.alloc (.cells #[.slice pu l.length cu, .int .i64 a0, .int .i64 a1] 26)).alloc (.cells #[.slice pv m.length cv, .int .i64 b0, .int .i64 b1] 26)).alloc (.cells #[.slice none 0 0, .int .i64 0, .int .i64 0] 26)) := (((Below.refl _ _).alloc (Nat.le_refl _) _).alloc (by simp) _).alloc (by simp; omega) _
  have hc0 : MoC (((w.alloc (.cells #[.slice pu l.length cu, .int .i64 a0, .int .i64 a1] 26)).alloc (.cells #[.slice pv m.length cv, .int .i64 b0, .int .i64 b1] 26)).alloc (.cells #[.slice none 0 0, .int .i64 0, .int .i64 0] 26)) (w.heap.size) (.slice pu l.length cu) (a0, a1) := ((MoC.new w (.slice pu l.length cu) a0 a1).alloc _).alloc _
  have hc1 : MoC (((w.alloc (.cells #[.slice pu l.length cu, .int .i64 a0, .int .i64 a1] 26)).alloc (.cells #[.slice pv m.length cv, .int .i64 b0, .int .i64 b1] 26)).alloc (.cells #[.slice none 0 0, .int .i64 0, .int .i64 0] 26)) (w.heap.size + 1) (.slice pv m.length cv) (b0, b1) := by
    have e := (MoC.new (w.alloc (.cells #[.slice pu l.length cu, .int .i64 a0, .int .i64 a1] 26)) (.slice pv m.length cv) b0 b1).alloc (.cells #[.slice none 0 0, .int .i64 0, .int .i64 0] 26)
    simp only [World.size_alloc] at e
    exact e
  have hc2 : MoC (((w.alloc (.cells #[.slice pu l.length cu, .int .i64 a0, .int .i64 a1] 26)).alloc (.cells #[.slice pv m.length cv, .int .i64 b0, .int .i64 b1] 26)).alloc (.cells #[.slice none 0 0, .int .i64 0, .int .i64 0] 26)) (w.heap.size + 2) (.slice none 0 0) (0, 0) := by
    have e := MoC.new ((w.alloc (.cells #[.slice pu l.length cu, .int .i64 a0, .int .i64 a1] 26)).alloc (.cells #[.slice pv m.length cv, .int .i64 b0, .int .i64 b1] 26)) (.slice none 0 0) 0 0
    simp only [World.size_alloc] at e
    exact e
  have HU := Lib.hid (hu.grow hba)
  have HV := Lib.hid (hv.grow hba)
  have HC0 := Lib.hid hc0
  have HC1 := Lib.hid hc1
  have HC2 := Lib.hid hc2
  have HBA := Lib.hid hba
  clear hba hc0 hc1 hc2
  have HA := Lib.hid ha
  have HB := Lib.hid hb
  clear hu hv nu nv su sv ha hb hlm
  by_cases hE : Ent a0 a1 ∨ Ent b0 b1
  · rw [hme hE]
    clear hme KP KG KH hmv htv hr1 hr2
    by_cases hE1 : Ent a0 a1
    · obtain ⟨rfl, rfl⟩ := hE1
      go_enter Tryz.func24, Tryz.ntmps24
      go_wp2_with (fail)
      generalize hW0 : World.alloc (World.alloc (World.alloc w _) _) _ = W0 at *
      clear hW0 hE
      have k1 := HC0.out.c1
      have k2 := HC0.out.c2
      dsimp only at k1 k2
      go_wp2_with (fail)
      refine (r2ent_yes _).mono ?_
      rintro e w1 ⟨rfl, hB⟩
      replace HBA := Lib.hid (below_then HBA.out hB)
      replace HC2 := Lib.hid (HC2.out.grow hB)
      clear hB k1 k2
      go_wp2_with (fail)
      refine (r2entire _).mono ?_
      rintro e w2 ⟨rfl, hB⟩
      have hB10 := below_then HBA.out hB
      have hR := HC2.out.grow hB
      have y0 := hR.c0
      have y1 := hR.c1
      have y2 := hR.c2
      have z0 := hR.frozen 0
      have z1 := hR.frozen 1
      have z2 := hR.frozen 2
      dsimp only at y0 y1 y2
      clear hB
      go_wp2_with (fail)
      refine bodyPost_ret (v := .agg #[.slice none 0 0, .int .i64 (-2147483648), .int .i64 2147483648]) (by simp [results, Tryz.results24, go_sem, y0, y1, y2]) rfl ⟨_, rfl, Tx.nil _ _ _, ?_⟩
      exact ((hB10.setCell (p := ⟨w.heap.size + 2, 0, none⟩) (by dsimp only; omega) _).setCell (p := ⟨w.heap.size + 2, 1, none⟩) (by dsimp only; omega) _).setCell (p := ⟨w.heap.size + 2, 2, none⟩) (by dsimp only; omega) _
    · have KE := Lib.hid (fun w => r2ent_no a0 a1 w hE1)
      obtain ⟨rfl, rfl⟩ := hE.resolve_left hE1
      clear hE hE1
      go_enter Tryz.func24, Tryz.ntmps24
      go_wp2_with (fail)
      generalize hW0 : World.alloc (World.alloc (World.alloc w _) _) _ = W0 at *
      clear hW0
      have k1 := HC0.out.c1
      have k2 := HC0.out.c2
      dsimp only at k1 k2
      go_wp2_with (fail)
      refine (KE.out _).mono ?_
      rintro e w1 ⟨rfl, hB⟩
      replace HBA := Lib.hid (below_then HBA.out hB)
      replace HC1 := Lib.hid (HC1.out.grow hB)
      replace HC2 := Lib.hid (HC2.out.grow hB)
      clear hB k1 k2 KE
      have j1 := HC1.out.c1
      have j2 := HC1.out.c2
      dsimp only at j1 j2
      go_wp2_with (fail)
      refine (r2ent_yes _).mono ?_
      rintro e w2 ⟨rfl, hB⟩
      replace HBA := Lib.hid (below_then HBA.out hB)
      replace HC2 := Lib.hid (HC2.out.grow hB)
      clear hB j1 j2
      go_wp2_with (fail)
      refine (r2entire _).mono ?_
      rintro e w3 ⟨rfl, hB⟩
      have hB10 := below_then HBA.out hB
      have hR := HC2.out.grow hB
      have y0 := hR.c0
      have y1 := hR.c1
      have y2 := hR.c2
      have z0 := hR.frozen 0
      have z1 := hR.frozen 1
      have z2 := hR.frozen 2
      dsimp only at y0 y1 y2
      clear hB
      go_wp2_with (fail)
      refine bodyPost_ret (v := .agg #[.slice none 0 0, .int .i64 (-2147483648), .int .i64 2147483648]) (by simp [results, Tryz.results24, go_sem, y0, y1, y2]) rfl ⟨_, rfl, Tx.nil _ _ _, ?_⟩
      exact ((hB10.setCell (p := ⟨w.heap.size + 2, 0, none⟩) (by dsimp only; omega) _).setCell (p := ⟨w.heap.size + 2, 1, none⟩) (by dsimp only; omega) _).setCell (p := ⟨w.heap.size + 2, 2, none⟩) (by dsimp only; omega) _
  have KE := Lib.hid (fun w => r2ent_no a0 a1 w fun h => hE (.inl h))
  have KF := Lib.hid (fun w => r2ent_no b0 b1 w fun h => hE (.inr h))
  clear hE hme
  unfold mulM
  dsimp only
  obtain ⟨⟨P, p0, p1⟩, hp⟩ : ∃ R, mulR l m d = R := ⟨_, rfl⟩
  rw [hp] at KP hmv htv ⊢
  obtain ⟨⟨g0, g1⟩, hg⟩ : ∃ R, rngP l = R := ⟨_, rfl⟩
  rw [hg] at KG hr1 ⊢
  obtain ⟨⟨h0, h1⟩, hh⟩ : ∃ R, rngP m = R := ⟨_, rfl⟩
  rw [hh] at KH hr2 ⊢
  dsimp only at KP KG KH hmv htv ⊢
  have KM1 := Lib.hid (fun w => r2mulv g0 g1 b0 b1 w hr1 HB.out)
  have v1 := mulI2_vb (g0, g1) (b0, b1)
  obtain ⟨⟨x0, x1⟩, hx⟩ : ∃ R, mulI2 (g0, g1) (b0, b1) = R := ⟨_, rfl⟩
  rw [hx] at KM1 v1 ⊢
  have KA1 := Lib.hid (fun w => r2addp (p0, p1) (x0, x1) w hmv v1)
  have t1 := addI2_vb hmv v1
  obtain ⟨⟨y0, y1⟩, hy⟩ : ∃ R, addI2 (p0, p1) (x0, x1) = R := ⟨_, rfl⟩
  rw [hy] at KA1 t1 ⊢
  have KM2 := Lib.hid (fun w => r2mulv h0 h1 a0 a1 w hr2 HA.out)
  have v2 := mulI2_vb (h0, h1) (a0, a1)
  obtain ⟨⟨s0, s1⟩, hs⟩ : ∃ R, mulI2 (h0, h1) (a0, a1) = R := ⟨_, rfl⟩
  rw [hs] at KM2 v2 ⊢
  have KA2 := Lib.hid (fun w => r2addp (y0, y1) (s0, s1) w t1 v2)
  have t2 := addI2_vb t1 v2
  obtain ⟨⟨e0, e1⟩, he⟩ : ∃ R, addI2 (y0, y1) (s0, s1) = R := ⟨_, rfl⟩
  rw [he] at KA2 t2 ⊢
  have KM3 := Lib.hid (fun w => r2mulv a0 a1 b0 b1 w HA.out HB.out)
  have v3 := mulI2_vb (a0, a1) (b0, b1)
  obtain ⟨⟨f0, f1⟩, hf⟩ : ∃ R, mulI2 (a0, a1) (b0, b1) = R := ⟨_, rfl⟩
  rw [hf] at KM3 v3 ⊢
  have KA3 := Lib.hid (fun w => r2addp (e0, e1) (f0, f1) w t2 v3)
  obtain ⟨⟨n0, n1⟩, hn⟩ : ∃ R, addI2 (e0, e1) (f0, f1) = R := ⟨_, rfl⟩
  rw [hn] at KA3 ⊢
  have KN := Lib.hid (fun (u : Value) w h => norm_tx u n0 n1 P w h htv)
  have HQV := Lib.hid (normM_tv (p := (n0, n1)) htv)
  obtain ⟨⟨Q, q0, q1⟩, hq⟩ : ∃ R, normM P (n0, n1) = R := ⟨_, rfl⟩
  rw [hq] at KN HQV ⊢
  dsimp only at KM1 KA1 KM2 KA2 KM3 KA3 KN HQV ⊢
  clear hp hg hh hx hy hs he hf hn hq hmv htv hr1 hr2 v1 t1 v2 t2 v3 HA HB
  go_enter Tryz.func24, Tryz.ntmps24
  go_wp2_with (fail)
  generalize hW0 : World.alloc (World.alloc (World.alloc w _) _) _ = W0 at *
  clear hW0
  have k1 := HC0.out.c1
  have k2 := HC0.out.c2
  dsimp only at k1 k2
  go_wp2_with (fail)
  refine (KE.out _).mono ?_
  rintro e w1 ⟨rfl, hB⟩
  replace HBA := Lib.hid (below_then HBA.out hB)
  replace HC0 := Lib.hid (HC0.out.grow hB)
  replace HC1 := Lib.hid (HC1.out.grow hB)
  replace HC2 := Lib.hid (HC2.out.grow hB)
  replace HU := Lib.hid (HU.out.grow hB)
  replace HV := Lib.hid (HV.out.grow hB)
  clear hB k1 k2 KE
  have j1 := HC1.out.c1
  have j2 := HC1.out.c2
  dsimp only at j1 j2
  go_wp2_with (fail)
  refine (KF.out _).mono ?_
  rintro e w2 ⟨rfl, hB⟩
  replace HBA := Lib.hid (below_then HBA.out hB)
  replace HC0 := Lib.hid (HC0.out.grow hB)
  replace HC1 := Lib.hid (HC1.out.grow hB)
  replace HC2 := Lib.hid (HC2.out.grow hB)
  replace HU := Lib.hid (HU.out.grow hB)
  replace HV := Lib.hid (HV.out.grow hB)
  clear hB j1 j2 KF
  have k0 := HC0.out.c0
  have j0 := HC1.out.c0
  go_wp2_with (fail)
  refine (KP.out _ HU.out HV.out).mono ?_
  rintro e w3 ⟨rt, rfl, txt, hnb, hB⟩
  obtain ⟨pt, ct_, rfl⟩ := txt.cut
  replace HBA := Lib.hid (below_then HBA.out hB)
  replace HC0 := Lib.hid (HC0.out.grow hB)
  replace HC1 := Lib.hid (HC1.out.grow hB)
  replace HC2 := Lib.hid (HC2.out.grow hB)
  replace HU := Lib.hid (HU.out.grow hB)
  replace HV := Lib.hid (HV.out.grow hB)
  have HT := Lib.hid txt
  have hsz := HC2.out.lt
  have HF := Lib.hid ((Below.refl w3.heap.size w3).alloc (Nat.le_refl _) (.cells #[.int .i64 p0, .int .i64 p1] 24))
  have HI := Lib.hid (IvC.new w3 p0 p1)
  clear hB txt hnb k0 j0 KP
  obtain ⟨V1, hV1⟩ : ∃ W, w3.alloc (.cells #[.int .i64 p0, .int .i64 p1] 24) = W := ⟨_, rfl⟩
  rw [hV1] at HF HI
  go_wp2_with (fail)
  try rw [hV1]
  clear hV1
  have k0 := fun g : Grown V1 => (HC0.out.grow (HF.out.trans (g.h.mono HF.out.size))).c0
  have k1 := fun g : Grown V1 => (HC0.out.grow (HF.out.trans (g.h.mono HF.out.size))).c1
  have k2 := fun g : Grown V1 => (HC0.out.grow (HF.out.trans (g.h.mono HF.out.size))).c2
  have j0 := fun g : Grown V1 => (HC1.out.grow (HF.out.trans (g.h.mono HF.out.size))).c0
  have j1 := fun g : Grown V1 => (HC1.out.grow (HF.out.trans (g.h.mono HF.out.size))).c1
  have j2 := fun g : Grown V1 => (HC1.out.grow (HF.out.trans (g.h.mono HF.out.size))).c2
  have i0 := fun g : Grown V1 => (HI.out.grow g.h).c0
  have i1 := fun g : Grown V1 => (HI.out.grow g.h).c1
  dsimp only at k0 k1 k2 j0 j1 j2 i0 i1
  refine region_pred_l (lk [(28, fun z_ _ => z_ = .agg #[.int .i64 p0, .int .i64 p1]), (29, fun z_ _ => z_ = .pointer (some ⟨w.heap.size, 0, none⟩)), (30, fun z_ _ => z_ = .slice pu l.length cu), (31, fun z_ _ => z_ = .agg #[.int .i64 g0, .int .i64 g1]), (32, fun z_ _ => z_ = .pointer (some ⟨w.heap.size + 1, 1, none⟩)), (33, fun z_ _ => z_ = .agg #[.int .i64 b0, .int .i64 b1]), (34, fun z_ _ => z_ = .agg #[.int .i64 x0, .int .i64 x1]), (35, fun z_ _ => z_ = .agg #[.int .i64 y0, .int .i64 y1])]) 8 _ rfl (by kernel_rfl) (by kernel_rfl) (by kernel_rfl) (lk_steady _ ⟨steady_eq _, steady_eq _, steady_eq _, steady_eq _, steady_eq _, steady_eq _, steady_eq _, steady_eq _, trivial⟩) ?_ ?_
  · refine ⟨?_, ?_, ?_, ?_, ?_, ?_, ?_, ?_, ?_, trivial⟩
    · intro _
      refine ob_plain [8] rfl rfl fun aa g h => ?_
      have yy0 := seen_out (v := .pointer (some ⟨w3.heap.size, 0, none⟩)) rfl rfl h.1
      have ee0 := getD_of yy0
      exact tupon_value (v := .agg #[.int .i64 p0, .int .i64 p1]) (by simp [go_sem, ee0, yy0, i0 g, i1 g]) (Below.refl _ _) rfl
    · intro _
      refine ob_plain [3] rfl rfl fun aa g h => ?_
      have yy0 := seen_out (v := .pointer (some ⟨w.heap.size, 0, none⟩)) rfl rfl h.1
      have ee0 := getD_of yy0
      exact tupon_value (v := .pointer (some ⟨w.heap.size, 0, none⟩)) (by simp [go_sem, ee0, yy0]) (Below.refl _ _) rfl
    · intro _
      refine ob_plain [29] rfl rfl fun aa g h => ?_
      obtain ⟨_, yy0, rfl⟩ := seen_in rfl h.1
      have ee0 := getD_of yy0
      exact tupon_value (v := .slice pu l.length cu) (by simp [go_sem, ee0, yy0, k0 g]) (Below.refl _ _) rfl
    · intro _
      refine ob_plain [30] rfl rfl fun aa g h => ?_
      obtain ⟨_, yy0, rfl⟩ := seen_in rfl h.1
      have ee0 := getD_of yy0
      refine tupon_enter (f := 69) (args := #[.slice pu l.length cu]) (by simp [go_sem, ee0, yy0]) rfl ?_
      exact (KG.out g.w (HU.out.grow (HF.out.trans (g.h.mono HF.out.size)))).mono fun e w' ⟨he, hB⟩ => ⟨_, he, hB, rfl⟩
    · intro _
      refine ob_plain [4] rfl rfl fun aa g h => ?_
      have yy0 := seen_out (v := .pointer (some ⟨w.heap.size + 1, 0, none⟩)) rfl rfl h.1
      have ee0 := getD_of yy0
      exact tupon_value (v := .pointer (some ⟨w.heap.size + 1, 1, none⟩)) (by simp [go_sem, ee0, yy0]) (Below.refl _ _) rfl
    · intro _
      refine ob_plain [32] rfl rfl fun aa g h => ?_
      obtain ⟨_, yy0, rfl⟩ := seen_in rfl h.1
      have ee0 := getD_of yy0
      exact tupon_value (v := .agg #[.int .i64 b0, .int .i64 b1]) (by simp [go_sem, ee0, yy0, j1 g, j2 g]) (Below.refl _ _) rfl
    · intro _
      refine ob_plain [31, 33] rfl rfl fun aa g h => ?_
      obtain ⟨_, yy0, rfl⟩ := seen_in rfl h.1
      have ee0 := getD_of yy0
      obtain ⟨_, yy1, rfl⟩ := seen_in rfl h.2.1
      have ee1 := getD_of yy1
      refine tupon_enter (f := 68) (args := #[.agg #[.int .i64 g0, .int .i64 g1], .agg #[.int .i64 b0, .int .i64 b1]]) (by simp [go_sem, ee0, yy0, ee1, yy1]) rfl ?_
      exact (KM1.out g.w).mono fun e w' ⟨he, hB⟩ => ⟨_, he, hB, rfl⟩
    · intro _
      refine ob_plain [28, 34] rfl rfl fun aa g h => ?_
      obtain ⟨_, yy0, rfl⟩ := seen_in rfl h.1
      have ee0 := getD_of yy0
      obtain ⟨_, yy1, rfl⟩ := seen_in rfl h.2.1
      have ee1 := getD_of yy1
      refine tupon_enter (f := 60) (args := #[.agg #[.int .i64 p0, .int .i64 p1], .agg #[.int .i64 x0, .int .i64 x1]]) (by simp [go_sem, ee0, yy0, ee1, yy1]) rfl ?_
      exact (KA1.out g.w).mono fun e w' ⟨he, hB⟩ => ⟨_, he, hB, rfl⟩
    · exact fun h => absurd rfl h
  rintro w4 hB _ rfl _ rfl _ rfl _ rfl _ rfl _ rfl _ rfl _ rfl
  simp only [Act.put, List.setIfInBounds_toArray, List.set_cons_succ, List.set_cons_zero, List.filterMap_nil, finP]
  have hI := HI.out.grow hB
  have y0_ := hI.c0
  have y1_ := hI.c1
  have z0 := hI.frozen 0
  have z1 := hI.frozen 1
  dsimp only at y0_ y1_
  replace HF := Lib.hid (((HF.out.trans (hB.mono HF.out.size)).setCell (p := ⟨w3.heap.size, 0, none⟩) (Nat.le_refl _) (.int .i64 y0)).setCell (p := ⟨w3.heap.size, 1, none⟩) (Nat.le_refl _) (.int .i64 y1))
  replace HI := Lib.hid (hI.set y0 y1)
  refine ⟨_, by simp [go_sem, y0_, y1_, z0, z1]; rfl, ?_⟩
  clear k0 k1 k2 j0 j1 j2 i0 i1 y0_ y1_ z0 z1 hI hB
  obtain ⟨V2, hV2⟩ : ∃ W, (w4.setCell ⟨w3.heap.size, 0, none⟩ (.int .i64 y0)).setCell ⟨w3.heap.size, 1, none⟩ (.int .i64 y1) = W := ⟨_, rfl⟩
  rw [hV2] at HF HI
  rw [hV2]
  clear hV2
  go_wp2_with (fail)
  have k0 := fun g : Grown V2 => (HC0.out.grow (HF.out.trans (g.h.mono HF.out.size))).c0
  have k1 := fun g : Grown V2 => (HC0.out.grow (HF.out.trans (g.h.mono HF.out.size))).c1
  have k2 := fun g : Grown V2 => (HC0.out.grow (HF.out.trans (g.h.mono HF.out.size))).c2
  have j0 := fun g : Grown V2 => (HC1.out.grow (HF.out.trans (g.h.mono HF.out.size))).c0
  have j1 := fun g : Grown V2 => (HC1.out.grow (HF.out.trans (g.h.mono HF.out.size))).c1
  have j2 := fun g : Grown V2 => (HC1.out.grow (HF.out.trans (g.h.mono HF.out.size))).c2
  have i0 := fun g : Grown V2 => (HI.out.grow g.h).c0
  have i1 := fun g : Grown V2 => (HI.out.grow g.h).c1
  dsimp only at k0 k1 k2 j0 j1 j2 i0 i1
  refine region_pred_l (lk [(36, fun z_ _ => z_ = .agg #[.int .i64 y0, .int .i64 y1]), (37, fun z_ _ => z_ = .pointer (some ⟨w.heap.size + 1, 0, none⟩)), (38, fun z_ _ => z_ = .slice pv m.length cv), (39, fun z_ _ => z_ = .agg #[.int .i64 h0, .int .i64 h1]), (40, fun z_ _ => z_ = .pointer (some ⟨w.heap.size, 1, none⟩)), (41, fun z_ _ => z_ = .agg #[.int .i64 a0, .int .i64 a1]), (42, fun z_ _ => z_ = .agg #[.int .i64 s0, .int .i64 s1]), (43, fun z_ _ => z_ = .agg #[.int .i64 e0, .int .i64 e1])]) 8 _ rfl (by kernel_rfl) (by kernel_rfl) (by kernel_rfl) (lk_steady _ ⟨steady_eq _, steady_eq _, steady_eq _, steady_eq _, steady_eq _, steady_eq _, steady_eq _, steady_eq _, trivial⟩) ?_ ?_
  · refine ⟨?_, ?_, ?_, ?_, ?_, ?_, ?_, ?_, ?_, trivial⟩
    · intro _
      refine ob_plain [8] rfl rfl fun aa g h => ?_
      have yy0 := seen_out (v := .pointer (some ⟨w3.heap.size, 0, none⟩)) rfl rfl h.1
      have ee0 := getD_of yy0
      exact tupon_value (v := .agg #[.int .i64 y0, .int .i64 y1]) (by simp [go_sem, ee0, yy0, i0 g, i1 g]) (Below.refl _ _) rfl
    · intro _
      refine ob_plain [4] rfl rfl fun aa g h => ?_
      have yy0 := seen_out (v := .pointer (some ⟨w.heap.size + 1, 0, none⟩)) rfl rfl h.1
      have ee0 := getD_of yy0
      exact tupon_value (v := .pointer (some ⟨w.heap.size + 1, 0, none⟩)) (by simp [go_sem, ee0, yy0]) (Below.refl _ _) rfl
    · intro _
      refine ob_plain [37] rfl rfl fun aa g h => ?_
      obtain ⟨_, yy0, rfl⟩ := seen_in rfl h.1
      have ee0 := getD_of yy0
      exact tupon_value (v := .slice pv m.length cv) (by simp [go_sem, ee0, yy0, j0 g]) (Below.refl _ _) rfl
    · intro _
      refine ob_plain [38] rfl rfl fun aa g h => ?_
      obtain ⟨_, yy0, rfl⟩ := seen_in rfl h.1
      have ee0 := getD_of yy0
      refine tupon_enter (f := 69) (args := #[.slice pv m.length cv]) (by simp [go_sem, ee0, yy0]) rfl ?_
      exact (KH.out g.w (HV.out.grow (HF.out.trans (g.h.mono HF.out.size)))).mono fun e w' ⟨he, hB⟩ => ⟨_, he, hB, rfl⟩
    · intro _
      refine ob_plain [3] rfl rfl fun aa g h => ?_
      have yy0 := seen_out (v := .pointer (some ⟨w.heap.size, 0, none⟩)) rfl rfl h.1
      have ee0 := getD_of yy0
      exact tupon_value (v := .pointer (some ⟨w.heap.size, 1, none⟩)) (by simp [go_sem, ee0, yy0]) (Below.refl _ _) rfl
    · intro _
      refine ob_plain [40] rfl rfl fun aa g h => ?_
      obtain ⟨_, yy0, rfl⟩ := seen_in rfl h.1
      have ee0 := getD_of yy0
      exact tupon_value (v := .agg #[.int .i64 a0, .int .i64 a1]) (by simp [go_sem, ee0, yy0, k1 g, k2 g]) (Below.refl _ _) rfl
    · intro _
      refine ob_plain [39, 41] rfl rfl fun aa g h => ?_
      obtain ⟨_, yy0, rfl⟩ := seen_in rfl h.1
      have ee0 := getD_of yy0
      obtain ⟨_, yy1, rfl⟩ := seen_in rfl h.2.1
      have ee1 := getD_of yy1
      refine tupon_enter (f := 68) (args := #[.agg #[.int .i64 h0, .int .i64 h1], .agg #[.int .i64 a0, .int .i64 a1]]) (by simp [go_sem, ee0, yy0, ee1, yy1]) rfl ?_
      exact (KM2.out g.w).mono fun e w' ⟨he, hB⟩ => ⟨_, he, hB, rfl⟩
    · intro _
      refine ob_plain [36, 42] rfl rfl fun aa g h => ?_
      obtain ⟨_, yy0, rfl⟩ := seen_in rfl h.1
      have ee0 := getD_of yy0
      obtain ⟨_, yy1, rfl⟩ := seen_in rfl h.2.1
      have ee1 := getD_of yy1
      refine tupon_enter (f := 60) (args := #[.agg #[.int .i64 y0, .int .i64 y1], .agg #[.int .i64 s0, .int .i64 s1]]) (by simp [go_sem, ee0, yy0, ee1, yy1]) rfl ?_
      exact (KA2.out g.w).mono fun e w' ⟨he, hB⟩ => ⟨_, he, hB, rfl⟩
    · exact fun h => absurd rfl h
  rintro w5 hB _ rfl _ rfl _ rfl _ rfl _ rfl _ rfl _ rfl _ rfl
  simp only [Act.put, List.setIfInBounds_toArray, List.set_cons_succ, List.set_cons_zero, List.filterMap_nil, finP]
  have hI := HI.out.grow hB
  have y0_ := hI.c0
  have y1_ := hI.c1
  have z0 := hI.frozen 0
  have z1 := hI.frozen 1
  dsimp only at y0_ y1_
  replace HF := Lib.hid (((HF.out.trans (hB.mono HF.out.size)).setCell (p := ⟨w3.heap.size, 0, none⟩) (Nat.le_refl _) (.int .i64 e0)).setCell (p := ⟨w3.heap.size, 1, none⟩) (Nat.le_refl _) (.int .i64 e1))
  replace HI := Lib.hid (hI.set e0 e1)
  refine ⟨_, by simp [go_sem, y0_, y1_, z0, z1]; rfl, ?_⟩
  clear k0 k1 k2 j0 j1 j2 i0 i1 y0_ y1_ z0 z1 hI hB
  obtain ⟨V3, hV3⟩ : ∃ W, (w5.setCell ⟨w3.heap.size, 0, none⟩ (.int .i64 e0)).setCell ⟨w3.heap.size, 1, none⟩ (.int .i64 e1) = W := ⟨_, rfl⟩
  rw [hV3] at HF HI
  rw [hV3]
  clear hV3
  go_wp2_with (fail)
  have k0 := fun g : Grown V3 => (HC0.out.grow (HF.out.trans (g.h.mono HF.out.size))).c0
  have k1 := fun g : Grown V3 => (HC0.out.grow (HF.out.trans (g.h.mono HF.out.size))).c1
  have k2 := fun g : Grown V3 => (HC0.out.grow (HF.out.trans (g.h.mono HF.out.size))).c2
  have j0 := fun g : Grown V3 => (HC1.out.grow (HF.out.trans (g.h.mono HF.out.size))).c0
  have j1 := fun g : Grown V3 => (HC1.out.grow (HF.out.trans (g.h.mono HF.out.size))).c1
  have j2 := fun g : Grown V3 => (HC1.out.grow (HF.out.trans (g.h.mono HF.out.size))).c2
  have i0 := fun g : Grown V3 => (HI.out.grow g.h).c0
  have i1 := fun g : Grown V3 => (HI.out.grow g.h).c1
  dsimp only at k0 k1 k2 j0 j1 j2 i0 i1
  refine region_pred_l (lk [(44, fun z_ _ => z_ = .agg #[.int .i64 e0, .int .i64 e1]), (45, fun z_ _ => z_ = .pointer (some ⟨w.heap.size, 1, none⟩)), (46, fun z_ _ => z_ = .agg #[.int .i64 a0, .int .i64 a1]), (47, fun z_ _ => z_ = .pointer (some ⟨w.heap.size + 1, 1, none⟩)), (48, fun z_ _ => z_ = .agg #[.int .i64 b0, .int .i64 b1]), (49, fun z_ _ => z_ = .agg #[.int .i64 f0, .int .i64 f1]), (50, fun z_ _ => z_ = .agg #[.int .i64 n0, .int .i64 n1])]) 7 _ rfl (by kernel_rfl) (by kernel_rfl) (by kernel_rfl) (lk_steady _ ⟨steady_eq _, steady_eq _, steady_eq _, steady_eq _, steady_eq _, steady_eq _, steady_eq _, trivial⟩) ?_ ?_
  · refine ⟨?_, ?_, ?_, ?_, ?_, ?_, ?_, ?_, trivial⟩
    · intro _
      refine ob_plain [8] rfl rfl fun aa g h => ?_
      have yy0 := seen_out (v := .pointer (some ⟨w3.heap.size, 0, none⟩)) rfl rfl h.1
      have ee0 := getD_of yy0
      exact tupon_value (v := .agg #[.int .i64 e0, .int .i64 e1]) (by simp [go_sem, ee0, yy0, i0 g, i1 g]) (Below.refl _ _) rfl
    · intro _
      refine ob_plain [3] rfl rfl fun aa g h => ?_
      have yy0 := seen_out (v := .pointer (some ⟨w.heap.size, 0, none⟩)) rfl rfl h.1
      have ee0 := getD_of yy0
      exact tupon_value (v := .pointer (some ⟨w.heap.size, 1, none⟩)) (by simp [go_sem, ee0, yy0]) (Below.refl _ _) rfl
    · intro _
      refine ob_plain [45] rfl rfl fun aa g h => ?_
      obtain ⟨_, yy0, rfl⟩ := seen_in rfl h.1
      have ee0 := getD_of yy0
      exact tupon_value (v := .agg #[.int .i64 a0, .int .i64 a1]) (by simp [go_sem, ee0, yy0, k1 g, k2 g]) (Below.refl _ _) rfl
    · intro _
      refine ob_plain [4] rfl rfl fun aa g h => ?_
      have yy0 := seen_out (v := .pointer (some ⟨w.heap.size + 1, 0, none⟩)) rfl rfl h.1
      have ee0 := getD_of yy0
      exact tupon_value (v := .pointer (some ⟨w.heap.size + 1, 1, none⟩)) (by simp [go_sem, ee0, yy0]) (Below.refl _ _) rfl
    · intro _
      refine ob_plain [47] rfl rfl fun aa g h => ?_
      obtain ⟨_, yy0, rfl⟩ := seen_in rfl h.1
      have ee0 := getD_of yy0
      exact tupon_value (v := .agg #[.int .i64 b0, .int .i64 b1]) (by simp [go_sem, ee0, yy0, j1 g, j2 g]) (Below.refl _ _) rfl
    · intro _
      refine ob_plain [46, 48] rfl rfl fun aa g h => ?_
      obtain ⟨_, yy0, rfl⟩ := seen_in rfl h.1
      have ee0 := getD_of yy0
      obtain ⟨_, yy1, rfl⟩ := seen_in rfl h.2.1
      have ee1 := getD_of yy1
      refine tupon_enter (f := 68) (args := #[.agg #[.int .i64 a0, .int .i64 a1], .agg #[.int .i64 b0, .int .i64 b1]]) (by simp [go_sem, ee0, yy0, ee1, yy1]) rfl ?_
      exact (KM3.out g.w).mono fun e w' ⟨he, hB⟩ => ⟨_, he, hB, rfl⟩
    · intro _
      refine ob_plain [44, 49] rfl rfl fun aa g h => ?_
      obtain ⟨_, yy0, rfl⟩ := seen_in rfl h.1
      have ee0 := getD_of yy0
      obtain ⟨_, yy1, rfl⟩ := seen_in rfl h.2.1
      have ee1 := getD_of yy1
      refine tupon_enter (f := 60) (args := #[.agg #[.int .i64 e0, .int .i64 e1], .agg #[.int .i64 f0, .int .i64 f1]]) (by simp [go_sem, ee0, yy0, ee1, yy1]) rfl ?_
      exact (KA3.out g.w).mono fun e w' ⟨he, hB⟩ => ⟨_, he, hB, rfl⟩
    · exact fun h => absurd rfl h
  rintro w6 hB _ rfl _ rfl _ rfl _ rfl _ rfl _ rfl _ rfl
  simp only [Act.put, List.setIfInBounds_toArray, List.set_cons_succ, List.set_cons_zero, List.filterMap_nil, finP]
  have hI := HI.out.grow hB
  have y0_ := hI.c0
  have y1_ := hI.c1
  have z0 := hI.frozen 0
  have z1 := hI.frozen 1
  dsimp only at y0_ y1_
  replace HF := Lib.hid (((HF.out.trans (hB.mono HF.out.size)).setCell (p := ⟨w3.heap.size, 0, none⟩) (Nat.le_refl _) (.int .i64 n0)).setCell (p := ⟨w3.heap.size, 1, none⟩) (Nat.le_refl _) (.int .i64 n1))
  replace HI := Lib.hid (hI.set n0 n1)
  refine ⟨_, by simp [go_sem, y0_, y1_, z0, z1]; rfl, ?_⟩
  clear k0 k1 k2 j0 j1 j2 i0 i1 y0_ y1_ z0 z1 hI hB
  obtain ⟨V4, hV4⟩ : ∃ W, (w6.setCell ⟨w3.heap.size, 0, none⟩ (.int .i64 n0)).setCell ⟨w3.heap.size, 1, none⟩ (.int .i64 n1) = W := ⟨_, rfl⟩
  rw [hV4] at HF HI
  rw [hV4]
  clear hV4
  have i0 := HI.out.c0
  have i1 := HI.out.c1
  dsimp only at i0 i1
  go_wp2_with (fail)
  refine (KN.out _ _ (HT.out.grow HF.out)).mono ?_
  rintro e w7 ⟨rq, rfl, txq, hB⟩
  obtain ⟨pq, cq, rfl⟩ := txq.cut
  have hF7 := HF.out.trans (hB.mono HF.out.size)
  have hB10 := below_then HBA.out hF7
  have hR := HC2.out.grow hF7
  have y0_ := hR.c0
  have y1_ := hR.c1
  have y2_ := hR.c2
  have z0 := hR.frozen 0
  have z1 := hR.frozen 1
  have z2 := hR.frozen 2
  dsimp only at y0_ y1_ y2_
  clear hB i0 i1
  go_wp2_with (fail)
  refine bodyPost_ret (v := .agg #[.slice pq Q.length cq, .int .i64 q0, .int .i64 q1]) (by simp [results, Tryz.results24, go_sem, y0_, y1_, y2_]) rfl ⟨_, rfl, tx_moff txq HQV.out hR _ _ _, ?_⟩
  exact ((hB10.setCell (p := ⟨w.heap.size + 2, 0, none⟩) (by dsimp only; omega) _).setCell (p := ⟨w.heap.size + 2, 1, none⟩) (by dsimp only; omega) _).setCell (p := ⟨w.heap.size + 2, 2, none⟩) (by dsimp only; omega) _
end Go.Proofs.YthakeeinhgfbbaaGreat

namespace Go.Proofs.YthakeeinhgfbbaaGreat
open Go.ChangeShapes Go.WideShapes Go.ChangeAt Go.RowKit
set_option linter.unusedVariables false
set_option linter.unusedSimpArgs false
set_option maxRecDepth 100000
attribute [local irreducible] Calls
set_option maxHeartbeats 16000000 in
theorem rconst6_ok (a0 a1 : Int) (w : World) (hv : VB2 (a0, a1)) :
    Calls Tryz.prog 34 #[.agg #[.int .i64 a0, .int .i64 a1]] w fun e w' => ∃ r, e = .returned (.agg #[r, .int .i64 (constM (a0, a1)).2.1, .int .i64 (constM (a0, a1)).2.2]) ∧ Tx w' r (constM (a0, a1)).1 ∧ Below w.heap.size w w' := by
  have hba : Below w.heap.size w ((w.alloc (.cells #[.int .i64 a0, .int .i64 a1] 24)).alloc (.cells #[.slice none 0 0, .int .i64 0, .int .i64 0] 26)) := ((Below.refl _ _).alloc (Nat.le_refl _) _).alloc (by simp) _
  have hc0 : IvC ((w.alloc (.cells #[.int .i64 a0, .int .i64 a1] 24)).alloc (.cells #[.slice none 0 0, .int .i64 0, .int .i64 0] 26)) w.heap.size (a0, a1) := (IvC.new w a0 a1).alloc _
  have hc1 : MoC ((w.alloc (.cells #[.int .i64 a0, .int .i64 a1] 24)).alloc (.cells #[.slice none 0 0, .int .i64 0, .int .i64 0] 26)) (w.heap.size + 1) (.slice none 0 0) (0, 0) := by
    have e := MoC.new (w.alloc (.cells #[.int .i64 a0, .int .i64 a1] 24)) (.slice none 0 0) 0 0
    simp only [World.size_alloc] at e
    exact e
  have HC0 := Lib.hid hc0
  have HC2 := Lib.hid hc1
  have HBA := Lib.hid hba
  clear hba hc0 hc1
  by_cases hE : Ent a0 a1
  · obtain ⟨rfl, rfl⟩ := hE
    rw [constM_ent]
    go_enter Tryz.func34, Tryz.ntmps34
    go_wp2_with (fail)
    generalize hW0 : World.alloc (World.alloc w _) _ = W0 at *
    clear hW0
    have k0 := HC0.out.c0
    have k1 := HC0.out.c1
    dsimp only at k0 k1
    go_wp2_with (fail)
    refine (r2ent_yes _).mono ?_
    rintro e w1 ⟨rfl, hB⟩
    have hB10 := below_then HBA.out hB
    have hR := HC2.out.grow hB
    have l0 := (HC0.out.grow hB).c0
    have l1 := (HC0.out.grow hB).c1
    have y0 := hR.c0
    have y1 := hR.c1
    have y2 := hR.c2
    have z0 := hR.frozen 0
    have z1 := hR.frozen 1
    have z2 := hR.frozen 2
    dsimp only at y0 y1 y2 l0 l1
    clear hB k0 k1
    go_wp2_with (fail)
    refine bodyPost_ret (v := .agg #[.slice none 0 0, .int .i64 (-2147483648), .int .i64 2147483648]) (by simp [results, Tryz.results34, go_sem, y0, y1, y2]) rfl ⟨_, rfl, Tx.nil _ _ _, ?_⟩
    exact ((hB10.setCell (p := ⟨w.heap.size + 1, 0, none⟩) (by dsimp only; omega) _).setCell (p := ⟨w.heap.size + 1, 1, none⟩) (by dsimp only; omega) _).setCell (p := ⟨w.heap.size + 1, 2, none⟩) (by dsimp only; omega) _
  have KE := Lib.hid (fun w => r2ent_no a0 a1 w hE)
  have un := (show Ent a0 a1 ∨ (Num a0 ∧ Num a1 ∧ a0 ≤ a1) from hv).resolve_left hE
  rw [constM_eq un.1 un.2.1 un.2.2]
  obtain ⟨m1, m2, m3, m4⟩ := half_num un.1 un.2.1 un.2.2
  have bd := vb_bdY hv
  dsimp only at bd
  have KM := Lib.hid (fun w => r2mid a0 a1 w bd.1 bd.2.1 bd.2.2.1 bd.2.2.2)
  rw [show (a0 + a1) / 2 = midI (a0, a1) from rfl] at KM
  obtain ⟨M, hM⟩ : ∃ M, midI (a0, a1) = M := ⟨_, rfl⟩
  rw [hM] at KM m1 m2 m3 ⊢
  have htv : ∀ t ∈ constT M, TV t := fun t ht => (const_six m1 t ht).1
  have KC := Lib.hid (fun w => rconst_ok M w)
  have KW := Lib.hid (fun w => r2new (a0 - M) (a1 - M) w)
  rw [show mkLo (a0 - M) (a1 - M) = a0 - M by unfold mkLo; rw [if_pos ⟨m3, m2⟩], show mkHi (a0 - M) (a1 - M) = a1 - M by unfold mkHi; rw [if_pos ⟨m3, m2⟩]] at KW
  have KN := Lib.hid (fun (u : Value) w h => norm_tx u (a0 - M) (a1 - M) (constT M) w h htv)
  rw [show normM (constT M) (a0 - M, a1 - M) = (constT M, (a0 - M, a1 - M)) by
    unfold normM
    rw [if_neg (by
      unfold Num at m3
      simp only [entR, Bool.and_eq_true, beq_iff_eq]
      omega)]] at KN
  have HTV := Lib.hid htv
  unfold Num at m2 m3
  have W1 : IntKind.i64.wrap (a0 - M) = a0 - M := wrap_i64 _ (by omega) (by omega)
  have W2 : IntKind.i64.wrap (a1 - M) = a1 - M := wrap_i64 _ (by omega) (by omega)
  obtain ⟨c0, hc0⟩ : ∃ z, a0 - M = z := ⟨_, rfl⟩
  obtain ⟨c1, hc1⟩ : ∃ z, a1 - M = z := ⟨_, rfl⟩
  rw [hc0] at W1 KW KN ⊢
  rw [hc1] at W2 KW KN ⊢
  obtain ⟨Q, hQ⟩ : ∃ Q, constT M = Q := ⟨_, rfl⟩
  rw [hQ] at KC KN HTV ⊢
  dsimp only at KN ⊢
  have W3 : IntKind.i64.wrap (a0 - M) = c0 := by rw [hc0]; exact W1
  have W4 : IntKind.i64.wrap (a1 - M) = c1 := by rw [hc1]; exact W2
  clear hE un m1 m2 m3 m4 bd hM htv hv W1 W2 hc0 hc1 hQ
  go_enter Tryz.func34, Tryz.ntmps34
  go_wp2_with (fail)
  generalize hW0 : World.alloc (World.alloc w _) _ = W0 at *
  clear hW0
  have k0 := HC0.out.c0
  have k1 := HC0.out.c1
  dsimp only at k0 k1
  go_wp2_with (fail)
  refine (KE.out _).mono ?_
  rintro e w1 ⟨rfl, hB⟩
  replace HBA := Lib.hid (below_then HBA.out hB)
  replace HC0 := Lib.hid (HC0.out.grow hB)
  replace HC2 := Lib.hid (HC2.out.grow hB)
  clear hB k0 k1 KE
  have k0 := HC0.out.c0
  have k1 := HC0.out.c1
  dsimp only at k0 k1
  go_wp2_with (fail)
  refine (KM.out _).mono ?_
  rintro e w2 ⟨rfl, hB⟩
  replace HBA := Lib.hid (below_then HBA.out hB)
  replace HC0 := Lib.hid (HC0.out.grow hB)
  replace HC2 := Lib.hid (HC2.out.grow hB)
  clear hB k0 k1 KM
  go_wp2_with (fail)
  have k0 := fun g : Grown w2 => (HC0.out.grow g.h).c0
  have k1 := fun g : Grown w2 => (HC0.out.grow g.h).c1
  dsimp only at k0 k1
  refine region_pred_l (lk [(10, fun z_ _ => z_ = .int .i64 M), (11, fun z_ w' => ∃ p_ n_ c_, z_ = .slice p_ n_ c_ ∧ Tx w' (.slice p_ n_ c_) Q), (12, fun z_ _ => z_ = .pointer (some ⟨w.heap.size, 0, none⟩)), (13, fun z_ _ => z_ = .int .i64 a0), (14, fun z_ _ => z_ = .int .i64 M), (15, fun z_ _ => z_ = .int .i64 c0), (16, fun z_ _ => z_ = .pointer (some ⟨w.heap.size, 1, none⟩)), (17, fun z_ _ => z_ = .int .i64 a1), (18, fun z_ _ => z_ = .int .i64 M), (19, fun z_ _ => z_ = .int .i64 c1), (20, fun z_ _ => z_ = .agg #[.int .i64 c0, .int .i64 c1]), (21, fun z_ w' => ∃ p_ n_ c_, z_ = .agg #[.slice p_ n_ c_, .int .i64 c0, .int .i64 c1] ∧ Tx w' (.slice p_ n_ c_) Q)]) 12 _ rfl (by kernel_rfl) (by kernel_rfl) (by kernel_rfl) (lk_steady _ ⟨steady_eq _, fun u w1 w2 hb ⟨p, n, c, e, h⟩ => ⟨p, n, c, e, h.grow hb⟩, steady_eq _, steady_eq _, steady_eq _, steady_eq _, steady_eq _, steady_eq _, steady_eq _, steady_eq _, steady_eq _, fun u w1 w2 hb ⟨p, n, c, e, h⟩ => ⟨p, n, c, e, h.grow hb⟩, trivial⟩) ?_ ?_
  · refine ⟨?_, ?_, ?_, ?_, ?_, ?_, ?_, ?_, ?_, ?_, ?_, ?_, ?_, trivial⟩
    · intro _
      refine ob_plain [3] rfl rfl fun aa g h => ?_
      have yy0 := seen_out (v := .int .i64 M) rfl rfl h.1
      have ee0 := getD_of yy0
      exact tupon_value (v := .int .i64 M) (by simp [go_sem, ee0, yy0]) (Below.refl _ _) rfl
    · intro _
      refine ob_plain [10] rfl rfl fun aa g h => ?_
      obtain ⟨_, yy0, rfl⟩ := seen_in rfl h.1
      have ee0 := getD_of yy0
      refine tupon_enter (f := 78) (args := #[.int .i64 M]) (by simp [go_sem, ee0, yy0]) rfl ?_
      exact (KC.out g.w).mono fun e w' ⟨r, he, hx, hB⟩ => ⟨_, he, hB, (by obtain ⟨p, c, e1⟩ := hx.cut; subst e1; exact ⟨p, _, c, rfl, hx⟩)⟩
    · intro _
      refine ob_plain [1] rfl rfl fun aa g h => ?_
      have yy0 := seen_out (v := .pointer (some ⟨w.heap.size, 0, none⟩)) rfl rfl h.1
      have ee0 := getD_of yy0
      exact tupon_value (v := .pointer (some ⟨w.heap.size, 0, none⟩)) (by simp [go_sem, ee0, yy0]) (Below.refl _ _) rfl
    · intro _
      refine ob_plain [12] rfl rfl fun aa g h => ?_
      obtain ⟨_, yy0, rfl⟩ := seen_in rfl h.1
      have ee0 := getD_of yy0
      exact tupon_value (v := .int .i64 a0) (by simp [go_sem, ee0, yy0, k0 g]) (Below.refl _ _) rfl
    · intro _
      refine ob_plain [3] rfl rfl fun aa g h => ?_
      have yy0 := seen_out (v := .int .i64 M) rfl rfl h.1
      have ee0 := getD_of yy0
      exact tupon_value (v := .int .i64 M) (by simp [go_sem, ee0, yy0]) (Below.refl _ _) rfl
    · intro _
      refine ob_plain [13, 14] rfl rfl fun aa g h => ?_
      obtain ⟨_, yy0, rfl⟩ := seen_in rfl h.1
      have ee0 := getD_of yy0
      obtain ⟨_, yy1, rfl⟩ := seen_in rfl h.2.1
      have ee1 := getD_of yy1
      exact tupon_value (v := .int .i64 c0) (by simp [go_sem, ee0, yy0, ee1, yy1, W3]) (Below.refl _ _) rfl
    · intro _
      refine ob_plain [1] rfl rfl fun aa g h => ?_
      have yy0 := seen_out (v := .pointer (some ⟨w.heap.size, 0, none⟩)) rfl rfl h.1
      have ee0 := getD_of yy0
      exact tupon_value (v := .pointer (some ⟨w.heap.size, 1, none⟩)) (by simp [go_sem, ee0, yy0]) (Below.refl _ _) rfl
    · intro _
      refine ob_plain [16] rfl rfl fun aa g h => ?_
      obtain ⟨_, yy0, rfl⟩ := seen_in rfl h.1
      have ee0 := getD_of yy0
      exact tupon_value (v := .int .i64 a1) (by simp [go_sem, ee0, yy0, k1 g]) (Below.refl _ _) rfl
    · intro _
      refine ob_plain [3] rfl rfl fun aa g h => ?_
      have yy0 := seen_out (v := .int .i64 M) rfl rfl h.1
      have ee0 := getD_of yy0
      exact tupon_value (v := .int .i64 M) (by simp [go_sem, ee0, yy0]) (Below.refl _ _) rfl
    · intro _
      refine ob_plain [17, 18] rfl rfl fun aa g h => ?_
      obtain ⟨_, yy0, rfl⟩ := seen_in rfl h.1
      have ee0 := getD_of yy0
      obtain ⟨_, yy1, rfl⟩ := seen_in rfl h.2.1
      have ee1 := getD_of yy1
      exact tupon_value (v := .int .i64 c1) (by simp [go_sem, ee0, yy0, ee1, yy1, W4]) (Below.refl _ _) rfl
    · intro _
      refine ob_plain [15, 19] rfl rfl fun aa g h => ?_
      obtain ⟨_, yy0, rfl⟩ := seen_in rfl h.1
      have ee0 := getD_of yy0
      obtain ⟨_, yy1, rfl⟩ := seen_in rfl h.2.1
      have ee1 := getD_of yy1
      refine tupon_enter (f := 79) (args := #[.int .i64 c0, .int .i64 c1]) (by simp [go_sem, ee0, yy0, ee1, yy1]) rfl ?_
      exact (KW.out g.w).mono fun e w' ⟨he, hB⟩ => ⟨_, he, hB, rfl⟩
    · intro _
      refine ob_plain [11, 20] rfl rfl fun aa g h => ?_
      obtain ⟨_, yy0, ⟨p11, n11, c11, rfl, tx11⟩⟩ := seen_in rfl h.1
      have ee0 := getD_of yy0
      obtain ⟨_, yy1, rfl⟩ := seen_in rfl h.2.1
      have ee1 := getD_of yy1
      refine tupon_enter (f := 59) (args := #[.slice p11 n11 c11, .agg #[.int .i64 c0, .int .i64 c1]]) (by simp [go_sem, ee0, yy0, ee1, yy1]) rfl ?_
      exact (KN.out (.slice p11 n11 c11) g.w tx11).mono fun e w' ⟨r, he, hx, hB⟩ => ⟨_, he, hB, (by obtain ⟨p, c, e1⟩ := hx.cut; subst e1; exact ⟨p, _, c, rfl, hx⟩)⟩
    · exact fun h => absurd rfl h
  rintro w9 hB9 _ rfl _ ⟨p11, n11, c11, rfl, tx11⟩ _ rfl _ rfl _ rfl _ rfl _ rfl _ rfl _ rfl _ rfl _ rfl _ ⟨p21, n21, c21, rfl, tx21⟩
  simp only [Act.put, List.setIfInBounds_toArray, List.set_cons_succ, List.set_cons_zero, List.filterMap_nil, finP]
  have hB10 := below_then HBA.out hB9
  have hR := HC2.out.grow hB9
  have y0 := hR.c0
  have y1 := hR.c1
  have y2 := hR.c2
  have z0 := hR.frozen 0
  have z1 := hR.frozen 1
  have z2 := hR.frozen 2
  dsimp only at y0 y1 y2
  refine ⟨_, by simp [go_sem, y0, y1, y2, z0, z1, z2]; rfl, ?_⟩
  clear k0 k1 KC KW KN
  go_wp2_with (fail)
  refine bodyPost_ret (v := .agg #[.slice p21 n21 c21, .int .i64 c0, .int .i64 c1]) (by simp [results, Tryz.results34, go_sem, y0, y1, y2]) rfl ⟨_, rfl, tx_moff tx21 HTV.out hR _ _ _, ?_⟩
  exact ((hB10.setCell (p := ⟨w.heap.size + 1, 0, none⟩) (by dsimp only; omega) _).setCell (p := ⟨w.heap.size + 1, 1, none⟩) (by dsimp only; omega) _).setCell (p := ⟨w.heap.size + 1, 2, none⟩) (by dsimp only; omega) _
end Go.Proofs.YthakeeinhgfbbaaGreat

namespace Go.Proofs.YthakeeinhgfbbaaGreat
open Go.ChangeShapes Go.WideShapes Go.ChangeAt Go.RowKit
set_option linter.unusedVariables false
set_option linter.unusedSimpArgs false
set_option maxRecDepth 100000
attribute [local irreducible] Calls
set_option maxHeartbeats 16000000 in
theorem rmuli6_ok (u : Value) (a0 a1 c0 c1 : Int) (l : List Tm) (w : World) (hu : Tx w u l) (nu : ∀ t ∈ l, TV t ∧ Num t.1) (su : l.length ≤ 100) (ha : VB2 (a0, a1)) (hb : VB2 (c0, c1)) :
    Calls Tryz.prog 26 #[.agg #[u, .int .i64 a0, .int .i64 a1], .agg #[.int .i64 c0, .int .i64 c1]] w fun e w' => ∃ r, e = .returned (.agg #[r, .int .i64 (mulM (l, (a0, a1)) (constM (c0, c1)) 6).2.1, .int .i64 (mulM (l, (a0, a1)) (constM (c0, c1)) 6).2.2]) ∧ Tx w' r (mulM (l, (a0, a1)) (constM (c0, c1)) 6).1 ∧ Below w.heap.size w w' := by
  obtain ⟨pu, cu, rfl⟩ := hu.cut
  have KC := Lib.hid (fun w => rconst6_ok c0 c1 w hb)
  have tc : ∀ t ∈ (constM (c0, c1)).1, TV t ∧ Num t.1 := fun t ht => ⟨(const_six (mid_num hb) t ht).1, (const_six (mid_num hb) t ht).2.1⟩
  have lc := constM_len (c0, c1)
  have vc := constM_vb hb
  have htv := mulM_tv (a := (l, (a0, a1))) (b := constM (c0, c1)) (deg := 6) nu tc su lc
  obtain ⟨⟨K, d0, d1⟩, hK⟩ : ∃ R, constM (c0, c1) = R := ⟨_, rfl⟩
  rw [hK] at KC tc lc vc htv ⊢
  have KM := Lib.hid (fun (v : Value) w h1 h2 => rmul6_ok (.slice pu l.length cu) v a0 a1 d0 d1 6 l K w h1 nu su h2 tc lc ha vc)
  obtain ⟨⟨Q, q0, q1⟩, hQ⟩ : ∃ R, mulM (l, (a0, a1)) (K, (d0, d1)) 6 = R := ⟨_, rfl⟩
  rw [hQ] at KM ⊢
  replace htv : ∀ t ∈ Q, TV t := by have := htv; rw [hQ] at this; exact this
  have HTV := Lib.hid htv
  dsimp only at KC KM ⊢
  have hba : Below w.heap.size w (((w.alloc (.cells #[.slice pu l.length cu, .int .i64 a0, .int .i64 a1] 26)).alloc (.cells #[.int .i64 c0, .int .i64 c1] 24)).alloc (.cells #[.slice none 0 0, .int .i64 0, .int .i64 0] 26)) := (((Below.refl _ _).alloc (Nat.le_refl _) _).alloc (by simp) _).alloc (by simp; omega) _
  have hc0 : MoC (((w.alloc (.cells #[.slice pu l.length cu, .int .i64 a0, .int .i64 a1] 26)).alloc (.cells #[.int .i64 c0, .int .i64 c1] 24)).alloc (.cells #[.slice none 0 0, .int .i64 0, .int .i64 0] 26)) (w.heap.size) (.slice pu l.length cu) (a0, a1) := ((MoC.new w (.slice pu l.length cu) a0 a1).alloc _).alloc _
  have hc1 : IvC (((w.alloc (.cells #[.slice pu l.length cu, .int .i64 a0, .int .i64 a1] 26)).alloc (.cells #[.int .i64 c0, .int .i64 c1] 24)).alloc (.cells #[.slice none 0 0, .int .i64 0, .int .i64 0] 26)) (w.heap.size + 1) (c0, c1) := by
    have e := (IvC.new (w.alloc (.cells #[.slice pu l.length cu, .int .i64 a0, .int .i64 a1] 26)) c0 c1).alloc (.cells #[.slice none 0 0, .int .i64 0, .int .i64 0] 26)
    simp only [World.size_alloc] at e
    exact e
  have hc2 : MoC (((w.alloc (.cells #[.slice pu l.length cu, .int .i64 a0, .int .i64 a1] 26)).alloc (.cells #[.int .i64 c0, .int .i64 c1] 24)).alloc (.cells #[.slice none 0 0, .int .i64 0, .int .i64 0] 26)) (w.heap.size + 2) (.slice none 0 0) (0, 0) := by
    have e := MoC.new ((w.alloc (.cells #[.slice pu l.length cu, .int .i64 a0, .int .i64 a1] 26)).alloc (.cells #[.int .i64 c0, .int .i64 c1] 24)) (.slice none 0 0) 0 0
    simp only [World.size_alloc] at e
    exact e
  have HU := Lib.hid (hu.grow hba)
  have HC0 := Lib.hid hc0
  have HC1 := Lib.hid hc1
  have HC2 := Lib.hid hc2
  have HBA := Lib.hid hba
  clear hba hc0 hc1 hc2 hu nu su ha hb tc lc vc htv hK hQ
  go_enter Tryz.func26, Tryz.ntmps26
  go_wp2_with (fail)
  generalize hW0 : World.alloc (World.alloc (World.alloc w _) _) _ = W0 at *
  clear hW0
  have k0 := fun g : Grown W0 => (HC0.out.grow g.h).c0
  have k1 := fun g : Grown W0 => (HC0.out.grow g.h).c1
  have k2 := fun g : Grown W0 => (HC0.out.grow g.h).c2
  have j0 := fun g : Grown W0 => (HC1.out.grow g.h).c0
  have j1 := fun g : Grown W0 => (HC1.out.grow g.h).c1
  dsimp only at k0 k1 k2 j0 j1
  refine region_pred_l (lk [(5, fun z_ _ => z_ = .agg #[.slice pu l.length cu, .int .i64 a0, .int .i64 a1]), (6, fun z_ _ => z_ = .agg #[.int .i64 c0, .int .i64 c1]), (7, fun z_ w' => ∃ p_ n_ c_, z_ = .agg #[.slice p_ n_ c_, .int .i64 d0, .int .i64 d1] ∧ Tx w' (.slice p_ n_ c_) K), (8, fun z_ w' => ∃ p_ n_ c_, z_ = .agg #[.slice p_ n_ c_, .int .i64 q0, .int .i64 q1] ∧ Tx w' (.slice p_ n_ c_) Q)]) 4 _ rfl (by kernel_rfl) (by kernel_rfl) (by kernel_rfl) (lk_steady _ ⟨steady_eq _, steady_eq _, fun u w1 w2 hb ⟨p, n, c, e, h⟩ => ⟨p, n, c, e, h.grow hb⟩, fun u w1 w2 hb ⟨p, n, c, e, h⟩ => ⟨p, n, c, e, h.grow hb⟩, trivial⟩) ?_ ?_
  · refine ⟨?_, ?_, ?_, ?_, ?_, trivial⟩
    · intro _
      refine ob_plain [2] rfl rfl fun aa g h => ?_
      have yy0 := seen_out (v := .pointer (some ⟨w.heap.size, 0, none⟩)) rfl rfl h.1
      have ee0 := getD_of yy0
      exact tupon_value (v := .agg #[.slice pu l.length cu, .int .i64 a0, .int .i64 a1]) (by simp [go_sem, ee0, yy0, k0 g, k1 g, k2 g]) (Below.refl _ _) rfl
    · intro _
      refine ob_plain [3] rfl rfl fun aa g h => ?_
      have yy0 := seen_out (v := .pointer (some ⟨w.heap.size + 1, 0, none⟩)) rfl rfl h.1
      have ee0 := getD_of yy0
      exact tupon_value (v := .agg #[.int .i64 c0, .int .i64 c1]) (by simp [go_sem, ee0, yy0, j0 g, j1 g]) (Below.refl _ _) rfl
    · intro _
      refine ob_plain [6] rfl rfl fun aa g h => ?_
      obtain ⟨_, yy0, rfl⟩ := seen_in rfl h.1
      have ee0 := getD_of yy0
      refine tupon_enter (f := 34) (args := #[.agg #[.int .i64 c0, .int .i64 c1]]) (by simp [go_sem, ee0, yy0]) rfl ?_
      exact (KC.out g.w).mono fun e w' ⟨r, he, hx, hB⟩ => ⟨_, he, hB, (by obtain ⟨p, c, e1⟩ := hx.cut; subst e1; exact ⟨p, _, c, rfl, hx⟩)⟩
    · intro _
      refine ob_plain [5, 7] rfl rfl fun aa g h => ?_
      obtain ⟨_, yy0, rfl⟩ := seen_in rfl h.1
      have ee0 := getD_of yy0
      obtain ⟨_, yy1, ⟨p7, n7, c7, rfl, tx7⟩⟩ := seen_in rfl h.2.1
      have ee1 := getD_of yy1
      refine tupon_enter (f := 24) (args := #[.agg #[.slice pu l.length cu, .int .i64 a0, .int .i64 a1], .agg #[.slice p7 n7 c7, .int .i64 d0, .int .i64 d1], .int .i64 6]) (by simp [go_sem, ee0, yy0, ee1, yy1]) rfl ?_
      exact (KM.out (.slice p7 n7 c7) g.w (HU.out.grow g.h) tx7).mono fun e w' ⟨r, he, hx, hB⟩ => ⟨_, he, hB, (by obtain ⟨p, c, e1⟩ := hx.cut; subst e1; exact ⟨p, _, c, rfl, hx⟩)⟩
    · exact fun h => absurd rfl h
  rintro w9 hB9 _ rfl _ rfl _ ⟨p7, n7, c7, rfl, tx7⟩ _ ⟨p8, n8, c8, rfl, tx8⟩
  simp only [Act.put, List.setIfInBounds_toArray, List.set_cons_succ, List.set_cons_zero, List.filterMap_nil, finP]
  have hB10 := below_then HBA.out hB9
  have hR := HC2.out.grow hB9
  have y0 := hR.c0
  have y1 := hR.c1
  have y2 := hR.c2
  have z0 := hR.frozen 0
  have z1 := hR.frozen 1
  have z2 := hR.frozen 2
  dsimp only at y0 y1 y2
  refine ⟨_, by simp [go_sem, y0, y1, y2, z0, z1, z2]; rfl, ?_⟩
  clear k0 k1 k2 j0 j1 KC KM tx7
  go_wp2_with (fail)
  refine bodyPost_ret (v := .agg #[.slice p8 n8 c8, .int .i64 q0, .int .i64 q1]) (by simp [results, Tryz.results26, go_sem, y0, y1, y2]) rfl ⟨_, rfl, tx_moff tx8 HTV.out hR _ _ _, ?_⟩
  exact ((hB10.setCell (p := ⟨w.heap.size + 2, 0, none⟩) (by dsimp only; omega) _).setCell (p := ⟨w.heap.size + 2, 1, none⟩) (by dsimp only; omega) _).setCell (p := ⟨w.heap.size + 2, 2, none⟩) (by dsimp only; omega) _
end Go.Proofs.YthakeeinhgfbbaaGreat

namespace Go.Proofs.YthakeeinhgfbbaaGreat
open Go.ChangeShapes Go.WideShapes Go.ChangeAt Go.RowKit
set_option linter.unusedVariables false
set_option linter.unusedSimpArgs false
set_option maxRecDepth 100000
attribute [local irreducible] Calls
theorem new_tz (w : World) (n : Nat) (ka a0 a1 a2 a3 a4 a5 : Int) (hn : w.heap.size = n) : ∀ j u, ([.int .i64 ka, .int .u8 a0, .int .u8 a1, .int .u8 a2, .int .u8 a3, .int .u8 a4, .int .u8 a5] : List Value)[j]? = some u → (w.alloc (.cells #[.int .i64 ka, .int .u8 a0, .int .u8 a1, .int .u8 a2, .int .u8 a3, .int .u8 a4, .int .u8 a5] 63)).cell? ((⟨n, 0, none⟩ : Addr).add j) = some u := by
  subst hn
  exact new_t w ka a0 a1 a2 a3 a4 a5
structure NrI (w : World) (u : Value) (a : Int × Int) (l : List Tm) (k : Nat) (v : Value) (W : World) : Prop where
  row : W.ownsRow (w.heap.size + 2) 63 7 v (negT (l.take k)).length (ct (negT (l.take k)))
  arg : MoC W w.heap.size u a
  res : MoC W (w.heap.size + 1) (.slice none 0 0) (0, 0)
  bel : Below w.heap.size w W
  siz : w.heap.size + 2 ≤ W.heap.size
theorem negT_snoc {l : List Tm} {k : Nat} {ka : Int} {e : List Int} (hx : l[k]? = some (ka, e)) : negT (l.take (k + 1)) = negT (l.take k) ++ [(-ka, e)] := by
  rw [List.take_add_one, hx]; simp [negT]
theorem negT_len (l : List Tm) : (negT l).length = l.length := by simp [negT]
set_option maxHeartbeats 16000000 in
theorem rneg6_ok (u : Value) (a0 a1 : Int) (l : List Tm) (w : World) (hu : Tx w u l) (nu : ∀ t ∈ l, TV t ∧ Num t.1) (su : l.length ≤ 100) (hv : VB2 (a0, a1)) (he : Ent a0 a1 → l = []) :
    Calls Tryz.prog 22 #[.agg #[u, .int .i64 a0, .int .i64 a1]] w fun e w' => ∃ r, e = .returned (.agg #[r, .int .i64 (-a1), .int .i64 (-a0)]) ∧ Tx w' r (negT l) ∧ Below w.heap.size w w' := by
  obtain ⟨i0, hi, hz0, hz1, hz2⟩ := info_parts info_t
  obtain ⟨pu, cu, rfl⟩ := hu.cut
  have HU := Lib.hid hu
  have HN := Lib.hid nu
  have hbd := vb_bdY hv
  have KN := Lib.hid (fun w => r2neg a0 a1 w hbd.1 hbd.2.1 hbd.2.2.1 hbd.2.2.2)
  have htn : ∀ t ∈ negT l, TV t := fun t ht => (neg_tn nu t ht).1
  have HTN := Lib.hid htn
  have hnm : normM (negT l) (-a1, -a0) = (negT l, (-a1, -a0)) := by
    by_cases h : Ent a0 a1
    · rw [he h]; obtain ⟨rfl, rfl⟩ := h; decide
    · unfold normM
      rw [if_neg]
      simp only [entR, Bool.and_eq_true, beq_iff_eq]
      unfold Ent at h
      omega
  have KF := Lib.hid (fun (v : Value) w h => norm_tx v (-a1) (-a0) (negT l) w h htn)
  rw [hnm] at KF
  dsimp only at KF
  have hba : Below w.heap.size w (((w.alloc (.cells #[.slice pu l.length cu, .int .i64 a0, .int .i64 a1] 26)).alloc (.cells #[.slice none 0 0, .int .i64 0, .int .i64 0] 26)).alloc (.cells #[] 63)) := (((Below.refl _ _).alloc (Nat.le_refl _) _).alloc (by simp) _).alloc (by simp; omega) _
  have hc0 : MoC (((w.alloc (.cells #[.slice pu l.length cu, .int .i64 a0, .int .i64 a1] 26)).alloc (.cells #[.slice none 0 0, .int .i64 0, .int .i64 0] 26)).alloc (.cells #[] 63)) w.heap.size (.slice pu l.length cu) (a0, a1) := ((MoC.new w (.slice pu l.length cu) a0 a1).alloc _).alloc _
  have hc1 : MoC (((w.alloc (.cells #[.slice pu l.length cu, .int .i64 a0, .int .i64 a1] 26)).alloc (.cells #[.slice none 0 0, .int .i64 0, .int .i64 0] 26)).alloc (.cells #[] 63)) (w.heap.size + 1) (.slice none 0 0) (0, 0) := by
    have e := (MoC.new (w.alloc (.cells #[.slice pu l.length cu, .int .i64 a0, .int .i64 a1] 26)) (.slice none 0 0) 0 0).alloc (.cells #[] 63)
    rw [World.size_alloc] at e
    exact e
  have hown : (((w.alloc (.cells #[.slice pu l.length cu, .int .i64 a0, .int .i64 a1] 26)).alloc (.cells #[.slice none 0 0, .int .i64 0, .int .i64 0] 26)).alloc (.cells #[] 63)).ownsRow (w.heap.size + 2) 63 7 (.slice (some ⟨w.heap.size + 2, 0, none⟩) 0 0) 0 [] := by
    have := own_emptyF ((w.alloc (.cells #[.slice pu l.length cu, .int .i64 a0, .int .i64 a1] 26)).alloc (.cells #[.slice none 0 0, .int .i64 0, .int .i64 0] 26))
    rw [World.size_alloc, World.size_alloc] at this
    exact this
  have HI : Hid (NrI w (.slice pu l.length cu) (a0, a1) l 0 (.slice (some ⟨w.heap.size + 2, 0, none⟩) 0 0) (((w.alloc (.cells #[.slice pu l.length cu, .int .i64 a0, .int .i64 a1] 26)).alloc (.cells #[.slice none 0 0, .int .i64 0, .int .i64 0] 26)).alloc (.cells #[] 63))) := Lib.hid ⟨hown, hc0, hc1, hba, by simp⟩
  clear hu nu hv he hbd htn hnm hba hc0 hc1 hown
  go_enter Tryz.func22, Tryz.ntmps22
  go_wp2_with (fail)
  go_loopw [3, 4] (fun v i wr => ∃ k : Nat, i = .int .i64 k ∧ k ≤ l.length ∧ Hid (NrI w (.slice pu l.length cu) (a0, a1) l k v wr)) (fun _ i _ => l.length - (intOf i).toNat)
  case atStart => exact ⟨0, rfl, Nat.zero_le _, HI⟩
  case round =>
    clear HI
    obtain ⟨k, rfl, hk, HR⟩ := hrel
    have hsz := HR.out.siz
    have k0 := HR.out.arg.c0
    try dsimp only at k0
    by_cases hlt : k < l.length
    · have i1 : (k : Int) < l.length := by omega
      obtain ⟨t, hx⟩ : ∃ t, l[k]? = some t := ⟨_, List.getElem?_eq_getElem hlt⟩
      have htn := HN.out t (List.mem_of_getElem? hx)
      obtain ⟨ka, a0', a1', a2', a3', a4', a5', rfl⟩ := six_at htn.1
      obtain ⟨b, o, hp, hb, rd⟩ := HU.out.rd7 hx
      subst hp
      obtain ⟨f0, f1, f2, f3, f4, f5, f6⟩ := rd ⟨wr, HR.out.bel⟩
      dsimp only at f0 f1 f2 f3 f4 f5 f6
      have hn := htn.2
      unfold Num at hn
      dsimp only at hn
      have Wn : IntKind.i64.wrap (-ka) = -ka := wrap_i64 _ (by omega) (by omega)
      have hsn := negT_snoc hx
      have hnl : (negT (l.take k)).length = k := by rw [negT_len, List.length_take]; omega
      have hB8 : Below wr.heap.size wr (wr.alloc (.cells #[.int .i64 (-ka), .int .u8 a0', .int .u8 a1', .int .u8 a2', .int .u8 a3', .int .u8 a4', .int .u8 a5'] 63)) := ((Below.refl wr.heap.size wr).alloc (Nat.le_refl _) (.cells #[.int .i64 (-ka), .int .u8 a0', .int .u8 a1', .int .u8 a2', .int .u8 a3', .int .u8 a4', .int .u8 a5'] 63))
      have hrow := own_keptT HR.out.row hB8
      have HB8 := Lib.hid hB8
      have HSN := Lib.hid hsn
      have hbs : b < wr.heap.size := by have := HR.out.bel.size; omega
      clear hx htn rd hn hsn hB8
      go_wp2_with (at_builtin; refine wpList_append_own _ rfl (.tmp 23) (.tmp 25) 22 rfl (w.heap.size + 2) 63 i0 (.agg #[.int .i64 0, .int .u8 0, .int .u8 0, .int .u8 0, .int .u8 0, .int .u8 0, .int .u8 0]) 7 16 Tryz.underlying22 hi hz0 hz1 hz2 rfl (by decide) _ (negT (l.take k)).length _ rfl (hrow.alloc _) ⟨wr.heap.size + 1, 0, none⟩ 1 1 [.int .i64 (-ka), .int .u8 a0', .int .u8 a1', .int .u8 a2', .int .u8 a3', .int .u8 a4', .int .u8 a5'] rfl rfl (new_tz _ _ _ _ _ _ _ _ _ (by simp)) (one_t _ _ _ _ _ _ _) (by unfold maxLen; omega) (by omega) (by simp only [World.size_alloc, World.size_setCell]; omega) ?_)
      intro v' w6 hown' hgrow _
      have hB6 : Below (w.heap.size + 2) wr w6 := Below.grown ((HB8.out.mono HR.out.siz).alloc (by simp only [World.size_alloc, World.size_setCell]; omega) _) hgrow (by simp only [World.size_alloc, World.size_setCell]; omega) (fun j hj => (hrow.lt j hj).1)
      have HNX : Hid (NrI w (.slice (some ⟨b, o, none⟩) l.length cu) (a0, a1) l (k + 1) v' w6) := Lib.hid ⟨by rw [HSN.out, List.length_append, ct_snoc, hnl]; exact hown', (hB6.block _ (by omega)).trans HR.out.arg, (hB6.block _ (by omega)).trans HR.out.res, HR.out.bel.trans (hB6.mono (by omega)), Nat.le_trans HR.out.siz hB6.size⟩
      clear hown' hgrow hrow hB6
      go_wp2_with (fail)
      exact ⟨⟨k + 1, by go_num, by omega, HNX⟩, by simp [intOf]; omega⟩
    · obtain rfl : k = l.length := by omega
      have i1 : ¬ (l.length : Int) < l.length := by omega
      have row := HR.out.row
      rw [List.take_length] at row
      have htx := Tx.own row (by rw [negT_len]; unfold maxLen; omega) (fun t ht => (HTN.out t ht).1.1)
      obtain ⟨pr, cr, rfl⟩ := htx.cut
      have HTX := Lib.hid htx
      have k1 := HR.out.arg.c1
      have k2 := HR.out.arg.c2
      dsimp only at k1 k2
      clear row htx
      go_wp2_with (fail)
      refine (KN.out _).mono ?_
      rintro e w5 ⟨rfl, h5⟩
      have HX5 := Lib.hid (HTX.out.grow h5)
      have hr5 := HR.out.res.grow h5
      have hb5 := HR.out.bel.trans (h5.mono HR.out.bel.size)
      clear k0 k1 k2 h5
      go_wp2_with (fail)
      refine (KF.out _ _ HX5.out).mono ?_
      rintro e w6 ⟨r, rfl, hx6, h6⟩
      obtain ⟨p6, c6, rfl⟩ := hx6.cut
      have hr6 := hr5.grow h6
      have hb6 := hb5.trans (h6.mono hb5.size)
      have q0 := hr6.c0
      have q1 := hr6.c1
      have q2 := hr6.c2
      have z0 := hr6.frozen 0
      have z1 := hr6.frozen 1
      have z2 := hr6.frozen 2
      dsimp only at q0 q1 q2
      have HX6 := Lib.hid hx6
      clear hx6 h6
      go_wp2_with (fail)
      refine bodyPost_ret (v := .agg #[.slice p6 (negT l).length c6, .int .i64 (-a1), .int .i64 (-a0)]) (by simp [results, Tryz.results22, go_sem, q0, q1, q2]) rfl ⟨_, rfl, tx_moff HX6.out HTN.out hr6 _ _ _, ?_⟩
      exact ((hb6.setCell (p := ⟨w.heap.size + 1, 0, none⟩) (Nat.le_succ _) _).setCell (p := ⟨w.heap.size + 1, 1, none⟩) (Nat.le_succ _) _).setCell (p := ⟨w.heap.size + 1, 2, none⟩) (Nat.le_succ _) _
set_option maxHeartbeats 16000000 in
theorem rsub6_ok (u v : Value) (a0 a1 b0 b1 : Int) (l m : List Tm) (w : World) (hu : Tx w u l) (nu : ∀ t ∈ l, TV t ∧ Num t.1) (vpu : VP l) (su : l.length ≤ 100) (hsu : ShS u) (hv : Tx w v m) (nv : ∀ t ∈ m, TV t ∧ Num t.1) (vpv : VP m) (sv : m.length ≤ 100) (ha : VB2 (a0, a1)) (hb : VB2 (b0, b1)) (heb : Ent b0 b1 → m = []) :
    Calls Tryz.prog 20 #[.agg #[u, .int .i64 a0, .int .i64 a1], .agg #[v, .int .i64 b0, .int .i64 b1]] w fun e w' => ∃ r, e = .returned (.agg #[r, .int .i64 (addM (l, (a0, a1)) (negM (m, (b0, b1)))).2.1, .int .i64 (addM (l, (a0, a1)) (negM (m, (b0, b1)))).2.2]) ∧ Tx w' r (addM (l, (a0, a1)) (negM (m, (b0, b1)))).1 ∧ Below w.heap.size w w' := by
  obtain ⟨pu, cu, rfl⟩ := hu.cut
  obtain ⟨pv, cv, rfl⟩ := hv.cut
  have KN := Lib.hid (fun w h => rneg6_ok (.slice pv m.length cv) b0 b1 m w h nv sv hb heb)
  have KA := Lib.hid (fun (x : Value) w h1 h2 => radd6m_ok (.slice pu l.length cu) x a0 a1 (-b1) (-b0) l (negT m) w h1 nu vpu su hsu h2 (neg_tn nv) (neg_vp vpv) (by rw [negT_len]; exact sv) ha (neg_vb hb))
  have HQV := Lib.hid (addM_full (a := (l, (a0, a1))) (b := negM (m, (b0, b1))) vpu (neg_vp vpv) nu (neg_tn nv) ha (neg_vb hb))
  rw [show ((negT m, (-b1, -b0)) : Mo) = negM (m, (b0, b1)) from rfl] at KA
  obtain ⟨⟨Q, q0, q1⟩, hQ⟩ : ∃ R, addM (l, (a0, a1)) (negM (m, (b0, b1))) = R := ⟨_, rfl⟩
  rw [hQ] at KA HQV ⊢
  have htv : ∀ t ∈ Q, TV t := HQV.out.2.1
  have HTV := Lib.hid htv
  dsimp only at KA ⊢
  have hnl := negT_len m
  obtain ⟨nm, hnm⟩ : ∃ K, negT m = K := ⟨_, rfl⟩
  rw [hnm] at KN KA hnl
  have hba : Below w.heap.size w (((w.alloc (.cells #[.slice pu l.length cu, .int .i64 a0, .int .i64 a1] 26)).alloc (.cells #[.slice pv m.length cv, .int .i64 b0, .int .i64 b1] 26)).alloc (.cells #[.slice none 0 0, .int .i64 0, .int .i64 0] 26)) := (((Below.refl _ _).alloc (Nat.le_refl _) _).alloc (by simp) _).alloc (by simp; omega) _
  have hc0 : MoC (((w.alloc (.cells #[.slice pu l.length cu, .int .i64 a0, .int .i64 a1] 26)).alloc (.cells #[.slice pv m.length cv, .int .i64 b0, .int .i64 b1] 26)).alloc (.cells #[.slice none 0 0, .int .i64 0, .int .i64 0] 26)) (w.heap.size) (.slice pu l.length cu) (a0, a1) := ((MoC.new w (.slice pu l.length cu) a0 a1).alloc _).alloc _
  have hc1 : MoC (((w.alloc (.cells #[.slice pu l.length cu, .int .i64 a0, .int .i64 a1] 26)).alloc (.cells #[.slice pv m.length cv, .int .i64 b0, .int .i64 b1] 26)).alloc (.cells #[.slice none 0 0, .int .i64 0, .int .i64 0] 26)) (w.heap.size + 1) (.slice pv m.length cv) (b0, b1) := by
    have e := (MoC.new (w.alloc (.cells #[.slice pu l.length cu, .int .i64 a0, .int .i64 a1] 26)) (.slice pv m.length cv) b0 b1).alloc (.cells #[.slice none 0 0, .int .i64 0, .int .i64 0] 26)
    simp only [World.size_alloc] at e
    exact e
  have hc2 : MoC (((w.alloc (.cells #[.slice pu l.length cu, .int .i64 a0, .int .i64 a1] 26)).alloc (.cells #[.slice pv m.length cv, .int .i64 b0, .int .i64 b1] 26)).alloc (.cells #[.slice none 0 0, .int .i64 0, .int .i64 0] 26)) (w.heap.size + 2) (.slice none 0 0) (0, 0) := by
    have e := MoC.new ((w.alloc (.cells #[.slice pu l.length cu, .int .i64 a0, .int .i64 a1] 26)).alloc (.cells #[.slice pv m.length cv, .int .i64 b0, .int .i64 b1] 26)) (.slice none 0 0) 0 0
    simp only [World.size_alloc] at e
    exact e
  have HU := Lib.hid (hu.grow hba)
  have HV := Lib.hid (hv.grow hba)
  have HC0 := Lib.hid hc0
  have HC1 := Lib.hid hc1
  have HC2 := Lib.hid hc2
  have HBA := Lib.hid hba
  clear hba hc0 hc1 hc2
  clear hu hv nu nv vpu vpv su sv hsu ha hb heb hQ HQV htv hnm
  go_enter Tryz.func20, Tryz.ntmps20
  go_wp2_with (fail)
  generalize hW0 : World.alloc (World.alloc (World.alloc w _) _) _ = W0 at *
  clear hW0
  have k0 := fun g : Grown W0 => (HC0.out.grow g.h).c0
  have k1 := fun g : Grown W0 => (HC0.out.grow g.h).c1
  have k2 := fun g : Grown W0 => (HC0.out.grow g.h).c2
  have j0 := fun g : Grown W0 => (HC1.out.grow g.h).c0
  have j1 := fun g : Grown W0 => (HC1.out.grow g.h).c1
  have j2 := fun g : Grown W0 => (HC1.out.grow g.h).c2
  dsimp only at k0 k1 k2 j0 j1 j2
  refine region_pred_l (lk [(5, fun z_ _ => z_ = .agg #[.slice pu l.length cu, .int .i64 a0, .int .i64 a1]), (6, fun z_ _ => z_ = .agg #[.slice pv m.length cv, .int .i64 b0, .int .i64 b1]), (7, fun z_ w' => ∃ p_ n_ c_, z_ = .agg #[.slice p_ n_ c_, .int .i64 (-b1), .int .i64 (-b0)] ∧ Tx w' (.slice p_ n_ c_) nm), (8, fun z_ w' => ∃ p_ n_ c_, z_ = .agg #[.slice p_ n_ c_, .int .i64 q0, .int .i64 q1] ∧ Tx w' (.slice p_ n_ c_) Q)]) 4 _ rfl (by kernel_rfl) (by kernel_rfl) (by kernel_rfl) (lk_steady _ ⟨steady_eq _, steady_eq _, fun u w1 w2 hb ⟨p, n, c, e, h⟩ => ⟨p, n, c, e, h.grow hb⟩, fun u w1 w2 hb ⟨p, n, c, e, h⟩ => ⟨p, n, c, e, h.grow hb⟩, trivial⟩) ?_ ?_
  · refine ⟨?_, ?_, ?_, ?_, ?_, trivial⟩
    · intro _
      refine ob_plain [2] rfl rfl fun aa g h => ?_
      have yy0 := seen_out (v := .pointer (some ⟨w.heap.size, 0, none⟩)) rfl rfl h.1
      have ee0 := getD_of yy0
      exact tupon_value (v := .agg #[.slice pu l.length cu, .int .i64 a0, .int .i64 a1]) (by simp [go_sem, ee0, yy0, k0 g, k1 g, k2 g]) (Below.refl _ _) rfl
    · intro _
      refine ob_plain [3] rfl rfl fun aa g h => ?_
      have yy0 := seen_out (v := .pointer (some ⟨w.heap.size + 1, 0, none⟩)) rfl rfl h.1
      have ee0 := getD_of yy0
      exact tupon_value (v := .agg #[.slice pv m.length cv, .int .i64 b0, .int .i64 b1]) (by simp [go_sem, ee0, yy0, j0 g, j1 g, j2 g]) (Below.refl _ _) rfl
    · intro _
      refine ob_plain [6] rfl rfl fun aa g h => ?_
      obtain ⟨_, yy0, rfl⟩ := seen_in rfl h.1
      have ee0 := getD_of yy0
      refine tupon_enter (f := 22) (args := #[.agg #[.slice pv m.length cv, .int .i64 b0, .int .i64 b1]]) (by simp [go_sem, ee0, yy0]) rfl ?_
      exact (KN.out g.w (HV.out.grow g.h)).mono fun e w' ⟨r, he, hx, hB⟩ => ⟨_, he, hB, (by obtain ⟨p, c, e1⟩ := hx.cut; subst e1; exact ⟨p, _, c, rfl, hx⟩)⟩
    · intro _
      refine ob_plain [5, 7] rfl rfl fun aa g h => ?_
      obtain ⟨_, yy0, rfl⟩ := seen_in rfl h.1
      have ee0 := getD_of yy0
      obtain ⟨_, yy1, ⟨p7, n7, c7, rfl, tx7⟩⟩ := seen_in rfl h.2.1
      have ee1 := getD_of yy1
      refine tupon_enter (f := 18) (args := #[.agg #[.slice pu l.length cu, .int .i64 a0, .int .i64 a1], .agg #[.slice p7 n7 c7, .int .i64 (-b1), .int .i64 (-b0)]]) (by simp [go_sem, ee0, yy0, ee1, yy1]) rfl ?_
      exact (KA.out (.slice p7 n7 c7) g.w (HU.out.grow g.h) tx7).mono fun e w' ⟨r, he, hx, hB⟩ => ⟨_, he, hB, (by obtain ⟨p, c, e1⟩ := hx.cut; subst e1; exact ⟨p, _, c, rfl, hx⟩)⟩
    · exact fun h => absurd rfl h
  rintro w9 hB9 _ rfl _ rfl _ ⟨p7, n7, c7, rfl, tx7⟩ _ ⟨p8, n8, c8, rfl, tx8⟩
  simp only [Act.put, List.setIfInBounds_toArray, List.set_cons_succ, List.set_cons_zero, List.filterMap_nil, finP]
  have hB10 := below_then HBA.out hB9
  have hR := HC2.out.grow hB9
  have y0 := hR.c0
  have y1 := hR.c1
  have y2 := hR.c2
  have z0 := hR.frozen 0
  have z1 := hR.frozen 1
  have z2 := hR.frozen 2
  dsimp only at y0 y1 y2
  refine ⟨_, by simp [go_sem, y0, y1, y2, z0, z1, z2]; rfl, ?_⟩
  clear k0 k1 k2 j0 j1 j2 KN KA tx7 HU HV
  go_wp2_with (fail)
  refine bodyPost_ret (v := .agg #[.slice p8 n8 c8, .int .i64 q0, .int .i64 q1]) (by simp [results, Tryz.results20, go_sem, y0, y1, y2]) rfl ⟨_, rfl, tx_moff tx8 HTV.out hR _ _ _, ?_⟩
  exact ((hB10.setCell (p := ⟨w.heap.size + 2, 0, none⟩) (by dsimp only; omega) _).setCell (p := ⟨w.heap.size + 2, 1, none⟩) (by dsimp only; omega) _).setCell (p := ⟨w.heap.size + 2, 2, none⟩) (by dsimp only; omega) _
end Go.Proofs.YthakeeinhgfbbaaGreat

namespace Go.Proofs.YthakeeinhgfbbaaGreat
open Go.ChangeShapes Go.WideShapes Go.ChangeAt Go.RowKit
set_option linter.unusedVariables false
set_option linter.unusedSimpArgs false
set_option maxRecDepth 100000
attribute [local irreducible] Calls
theorem rconst_sh (c : Int) (w : World) :
    Calls Tryz.prog 78 #[.int .i64 c] w fun e w' => ∃ u, e = .returned u ∧ Tx w' u (constT c) ∧ ShS u ∧ Below w.heap.size w w' := by
  unfold constT
  by_cases h : c = 0
  · rw [if_pos h]
    have hd : (c == 0) = true := by simpa using h
    clear h
    go_enter Tryz.func78, Tryz.ntmps78
    go_wp2_with (fail)
    go_ret
    exact ⟨_, rfl, Tx.nil _ _ _, .inl rfl, by go_grown⟩
  · rw [if_neg h]
    have hd : (c == 0) = false := by simpa using h
    clear h
    go_enter Tryz.func78, Tryz.ntmps78
    go_wp2_with (fail)
    go_ret
    exact ⟨_, rfl, tx_lit w c 0 0 0 0 0 0, .inr ⟨_, _, _, _, rfl, Nat.le_refl _⟩, by go_grown⟩
theorem tx_ioff {W : World} {b : Nat} {u : Value} {p : Int × Int} {l : List Tm} (h : Tx W u l) (hl : ∀ t ∈ l, TV t) (hm : IvC W b p) (x y : Value) : Tx ((W.setCell ⟨b, 0, none⟩ x).setCell ⟨b, 1, none⟩ y) u l := by
  obtain ⟨h1, q, cap, rfl, h2⟩ := h
  refine ⟨h1, q, cap, rfl, fun i t ht => ?_⟩
  obtain ⟨b', o, rfl, h3, h4⟩ := h2 i t ht
  have hne : b' ≠ b := by
    rintro rfl
    have htv := hl t (List.mem_of_getElem? ht)
    obtain ⟨k, e0, e1, e2, e3, e4, e5, rfl⟩ := six_at htv
    have h6 := h4 6 _ rfl
    simp [World.cell?, show W.heap[b']? = _ from hm] at h6
  refine ⟨b', o, rfl, by simpa [World.setCell] using h3, fun j v hv => ?_⟩
  rw [World.cell?_setCell_other _ _ _ _ (by simp [hne]), World.cell?_setCell_other _ _ _ _ (by simp [hne])]
  exact h4 j v hv
theorem ivc_set2 {W : World} {b : Nat} {p : Int × Int} (hm : IvC W b p) (x y : Int) : IvC ((W.setCell ⟨b, 0, none⟩ (.int .i64 x)).setCell ⟨b, 1, none⟩ (.int .i64 y)) b (x, y) := by
  have h := cellsT_set (o := 1) (u := .int .i64 y) (cellsT_set (o := 0) (u := .int .i64 x) hm)
  exact h
theorem line_len (k : Nat) (r : Int) : (lineT k r).length ≤ 1 := by unfold lineT; split <;> simp
theorem const_len (c : Int) : (constT c).length ≤ 1 := by unfold constT; split <;> simp
theorem vp_one1 {t : Tm} (h0 : t.1 ≠ 0) (hd : degE t.2 ≤ 6) (hn : Num t.1) : VP [t] := by
  refine ⟨fun i hi => ?_, by simp, ?_⟩
  · obtain rfl : i = 0 := by simp only [List.length_singleton] at hi; omega
    exact ⟨t, rfl, h0, hd, fun h => absurd h (by omega)⟩
  · rw [List.any_eq_false]
    intro x hx
    simp only [List.mem_singleton] at hx
    subst hx
    simp [noNum, hn]
theorem vp_const {c : Int} (h : Num c) : VP (constT c) := by
  unfold constT
  by_cases h0 : c = 0
  · rw [if_pos h0]; exact vp_nil
  · rw [if_neg h0]; exact vp_one1 h0 (show degE [0, 0, 0, 0, 0, 0] ≤ 6 by decide) h
theorem vp_line {k : Nat} {r : Int} (hk : k < 6) (h : Num r) : VP (lineT k r) := by
  unfold lineT
  by_cases h0 : r = 0
  · rw [if_pos h0]; exact vp_nil
  · rw [if_neg h0]; exact vp_one1 h0 (by dsimp only; rw [unit_deg k hk]; decide) h
theorem sum_lin {k : Nat} {c r : Int} (hk : k < 6) (hc : Num c) (hr : Num r) : truncP (nzT (foldI (constT c) (lineT k r))) 6 (0, 0) = (constT c ++ lineT k r, (0, 0)) := by
  rw [fold_merge (vp_const hc) (vp_line hk hr), merge_line hk, truncP_id (fun t ht => by
    rcases List.mem_append.1 ht with q | q
    · exact const_deg hc t q
    · exact line_deg hk hr t q) (by rw [List.length_append]; have := line_len k r; have := const_len c; omega)]
set_option maxHeartbeats 16000000 in
theorem rvar6_ok (k : Nat) (a0 a1 : Int) (w : World) (hk : k < 6) (hv : VB2 (a0, a1)) :
    Calls Tryz.prog 36 #[.int .i64 k, .agg #[.int .i64 a0, .int .i64 a1]] w fun e w' => ∃ r, e = .returned (.agg #[r, .int .i64 (varM k (a0, a1)).2.1, .int .i64 (varM k (a0, a1)).2.2]) ∧ Tx w' r (varM k (a0, a1)).1 ∧ Below w.heap.size w w' := by
  have hba : Below w.heap.size w ((w.alloc (.cells #[.int .i64 a0, .int .i64 a1] 24)).alloc (.cells #[.slice none 0 0, .int .i64 0, .int .i64 0] 26)) := ((Below.refl _ _).alloc (Nat.le_refl _) _).alloc (by simp) _
  have hc0 : IvC ((w.alloc (.cells #[.int .i64 a0, .int .i64 a1] 24)).alloc (.cells #[.slice none 0 0, .int .i64 0, .int .i64 0] 26)) w.heap.size (a0, a1) := (IvC.new w a0 a1).alloc _
  have hc1 : MoC ((w.alloc (.cells #[.int .i64 a0, .int .i64 a1] 24)).alloc (.cells #[.slice none 0 0, .int .i64 0, .int .i64 0] 26)) (w.heap.size + 1) (.slice none 0 0) (0, 0) := by
    have e := MoC.new (w.alloc (.cells #[.int .i64 a0, .int .i64 a1] 24)) (.slice none 0 0) 0 0
    simp only [World.size_alloc] at e
    exact e
  have HC0 := Lib.hid hc0
  have HC2 := Lib.hid hc1
  have HBA := Lib.hid hba
  have bd := vb_bdY hv
  dsimp only at bd
  have KM := Lib.hid (fun w => r2mid a0 a1 w bd.1 bd.2.1 bd.2.2.1 bd.2.2.2)
  rw [show (a0 + a1) / 2 = midI (a0, a1) from rfl] at KM
  clear hba hc0 hc1 bd
  by_cases hE : Ent a0 a1
  · obtain ⟨rfl, rfl⟩ := hE
    rw [varM_ent]
    rw [show midI (-2147483648, 2147483648) = 0 by decide] at KM
    go_enter Tryz.func36, Tryz.ntmps36
    go_wp2_with (fail)
    generalize hW0 : World.alloc (World.alloc w _) _ = W0 at *
    clear hW0
    have k0 := HC0.out.c0
    have k1 := HC0.out.c1
    dsimp only at k0 k1
    go_wp2_with (fail)
    refine (KM.out _).mono ?_
    rintro e w1 ⟨rfl, hB⟩
    replace HBA := Lib.hid (below_then HBA.out hB)
    replace HC0 := Lib.hid (HC0.out.grow hB)
    replace HC2 := Lib.hid (HC2.out.grow hB)
    clear hB k0 k1
    have k0 := HC0.out.c0
    have k1 := HC0.out.c1
    dsimp only at k0 k1
    go_wp2_with (fail)
    refine (r2ent_yes _).mono ?_
    rintro e w2 ⟨rfl, hB⟩
    replace HBA := Lib.hid (below_then HBA.out hB)
    replace HC2 := Lib.hid (HC2.out.grow hB)
    clear hB k0 k1
    go_wp2_with (fail)
    refine (r2entire _).mono ?_
    rintro e w3 ⟨rfl, hB⟩
    have hB10 := below_then HBA.out hB
    have hR := HC2.out.grow hB
    have y0 := hR.c0
    have y1 := hR.c1
    have y2 := hR.c2
    have z0 := hR.frozen 0
    have z1 := hR.frozen 1
    have z2 := hR.frozen 2
    dsimp only at y0 y1 y2
    clear hB
    go_wp2_with (fail)
    refine bodyPost_ret (v := .agg #[.slice none 0 0, .int .i64 (-2147483648), .int .i64 2147483648]) (by simp [results, Tryz.results36, go_sem, y0, y1, y2]) rfl ⟨_, rfl, Tx.nil _ _ _, ?_⟩
    exact ((hB10.setCell (p := ⟨w.heap.size + 1, 0, none⟩) (by dsimp only; omega) _).setCell (p := ⟨w.heap.size + 1, 1, none⟩) (by dsimp only; omega) _).setCell (p := ⟨w.heap.size + 1, 2, none⟩) (by dsimp only; omega) _
  have KE := Lib.hid (fun w => r2ent_no a0 a1 w hE)
  have un := (show Ent a0 a1 ∨ (Num a0 ∧ Num a1 ∧ a0 ≤ a1) from hv).resolve_left hE
  rw [varM_eq hk un.1 un.2.1 un.2.2]
  obtain ⟨m1, m2, m3, m4⟩ := half_num un.1 un.2.1 un.2.2
  obtain ⟨M, hM⟩ : ∃ M, midI (a0, a1) = M := ⟨_, rfl⟩
  rw [hM] at KM m1 m2 m3 ⊢
  have W1 : IntKind.i64.wrap (a1 - M) = a1 - M := by unfold Num at m2; exact wrap_i64 _ (by omega) (by omega)
  have KV := Lib.hid (fun w => rvar_ok (k : Int) w)
  have tv1 : ∀ t ∈ varT (k : Int), TV t ∧ Num t.1 := varT_tn _
  have lv1 : (varT (k : Int)).length ≤ 1 := by unfold varT; split <;> simp
  have KS := Lib.hid (fun (v : Value) w h => rscale_ok v (varT (k : Int)) (a1 - M) w h tv1 m2 (by omega))
  rw [show mulR (varT (k : Int)) (constT (a1 - M)) 6 = linM k (a1 - M) from rfl, lin_eq hk m2] at KS
  obtain ⟨H, hH⟩ : ∃ z, a1 - M = z := ⟨_, rfl⟩
  rw [hH] at W1 KS m2 ⊢
  have W2 : IntKind.i64.wrap (a1 - M) = H := by rw [hH]; exact W1
  have g1 : ¬ H ≥ 2147483648 := by unfold Num at m2; omega
  have g2 : decide (H ≥ 2147483648) = false := by simpa using g1
  have KC := Lib.hid (fun w => rconst_sh M w)
  have lc := const_len M
  have ll := line_len k H
  have KA := Lib.hid (fun (q : Option Addr) (c : Nat) (v : Value) w h1 h2 h3 => radd6_ok q c v (constT M) (lineT k H) w h1 h2 h3 (fun t ht => ⟨(const_six m1 t ht).1, (const_six m1 t ht).2.1⟩) (fun t ht => ⟨(line_six hk m2 t ht).1, (line_six hk m2 t ht).2.1⟩) (by omega) (by omega))
  rw [sum_lin hk m1 m2] at KA
  have htv : ∀ t ∈ constT M ++ lineT k H, TV t := fun t ht => (var_six hk m1 m2 t ht).1
  have KN := Lib.hid (fun (u : Value) w h => norm_tx u 0 0 (constT M ++ lineT k H) w h htv)
  rw [show normM (constT M ++ lineT k H) (0, 0) = (constT M ++ lineT k H, (0, 0)) from rfl] at KN
  have KZ := Lib.hid (fun w => r2addv 0 0 0 0 w (by unfold VB2 VI Num; decide) (by unfold VB2 VI Num; decide))
  rw [show addLo 0 0 0 0 = 0 by decide, show addHi 0 0 0 0 = 0 by decide] at KZ
  have HTV := Lib.hid htv
  obtain ⟨Q, hQ⟩ : ∃ Q, constT M ++ lineT k H = Q := ⟨_, rfl⟩
  rw [hQ] at KA KN HTV ⊢
  obtain ⟨C, hC⟩ : ∃ C, constT M = C := ⟨_, rfl⟩
  rw [hC] at KC KA
  have LTV := Lib.hid (show ∀ t ∈ lineT k H, TV t from fun t ht => (line_six hk m2 t ht).1)
  obtain ⟨P, hP⟩ : ∃ P, lineT k H = P := ⟨_, rfl⟩
  rw [hP] at KS KA LTV
  obtain ⟨V, hV⟩ : ∃ V, varT (k : Int) = V := ⟨_, rfl⟩
  rw [hV] at KV KS
  obtain ⟨i, hi⟩ : ∃ i : Int, (k : Int) = i := ⟨_, rfl⟩
  rw [hi] at KV ⊢
  dsimp only at KS KA KN ⊢
  clear hE un m1 m2 m3 m4 hM htv hv tv1 lv1 lc ll hH hQ hC hP hV hi hk W1
  go_enter Tryz.func36, Tryz.ntmps36
  go_wp2_with (fail)
  generalize hW0 : World.alloc (World.alloc w _) _ = W0 at *
  clear hW0
  have k0 := HC0.out.c0
  have k1 := HC0.out.c1
  dsimp only at k0 k1
  go_wp2_with (fail)
  refine (KM.out _).mono ?_
  rintro e w1 ⟨rfl, hB⟩
  replace HC0 := Lib.hid (HC0.out.grow hB)
  replace HC2 := Lib.hid (HC2.out.grow hB)
  replace HBA := Lib.hid (below_then HBA.out hB)
  clear hB k0 k1 KM
  have k0 := HC0.out.c0
  have k1 := HC0.out.c1
  dsimp only at k0 k1
  go_wp2_with (fail)
  refine (KE.out _).mono ?_
  rintro e w2 ⟨rfl, hB⟩
  replace HC0 := Lib.hid (HC0.out.grow hB)
  replace HC2 := Lib.hid (HC2.out.grow hB)
  replace HBA := Lib.hid (below_then HBA.out hB)
  clear hB k0 k1 KE
  have k1 := HC0.out.c1
  dsimp only at k1
  go_wp2_with (fail)
  clear k1
  have k1 := fun g : Grown w2 => (HC0.out.grow g.h).c1
  have hlt2R := HC2.out.lt
  dsimp only at k1
  refine region_pred_n 12 (lk [(24, fun z_ _ => z_ = .int .i64 i), (25, fun z_ w' => ∃ p_ n_ c_, z_ = .slice p_ n_ c_ ∧ Tx w' (.slice p_ n_ c_) V), (26, fun z_ _ => z_ = .pointer (some ⟨w.heap.size, 1, none⟩)), (27, fun z_ _ => z_ = .int .i64 a1), (28, fun z_ _ => z_ = .int .i64 M), (29, fun z_ _ => z_ = .int .i64 H), (30, fun z_ w' => ∃ p_ n_ c_, z_ = .tuple #[.slice p_ n_ c_, .agg #[.int .i64 0, .int .i64 0]] ∧ Tx w' (.slice p_ n_ c_) P), (23, fun z_ w' => ∃ p_ n_ c_, z_ = .tuple #[.slice p_ n_ c_, .agg #[.int .i64 0, .int .i64 0]] ∧ Tx w' (.slice p_ n_ c_) P), (31, fun z_ w' => ∃ p_ n_ c_, z_ = .slice p_ n_ c_ ∧ Tx w' (.slice p_ n_ c_) P), (32, fun z_ _ => z_ = .agg #[.int .i64 0, .int .i64 0]), (7, fun z_ w' => ∃ X_, z_ = .pointer (some ⟨X_, 0, none⟩) ∧ w2.heap.size ≤ X_ ∧ IvC w' X_ (0, 0)), (6, fun z_ w' => ∃ p_ n_ c_, z_ = .slice p_ n_ c_ ∧ Tx w' (.slice p_ n_ c_) P)]) (by kernel_rfl) (by kernel_rfl) (lk_steady _ ⟨steady_eq _, fun u w1 w2 hb ⟨p, n, c, e, h⟩ => ⟨p, n, c, e, h.grow hb⟩, steady_eq _, steady_eq _, steady_eq _, steady_eq _, fun u w1 w2 hb ⟨p, n, c, e, h⟩ => ⟨p, n, c, e, h.grow hb⟩, fun u w1 w2 hb ⟨p, n, c, e, h⟩ => ⟨p, n, c, e, h.grow hb⟩, fun u w1 w2 hb ⟨p, n, c, e, h⟩ => ⟨p, n, c, e, h.grow hb⟩, steady_eq _, fun u w1 w2 hb ⟨X, h1, h2, h3⟩ => ⟨X, h1, h2, h3.grow hb⟩, fun u w1 w2 hb ⟨p, n, c, e, h⟩ => ⟨p, n, c, e, h.grow hb⟩, trivial⟩) ?_ ?_
  · refine ⟨?_, ?_, ?_, ?_, ?_, ?_, ?_, ?_, ?_, ?_, ?_, ?_, trivial⟩
    · refine ob_plain [0] rfl rfl fun aa g h => ?_
      have yy0 := seen_out (v := .int .i64 i) rfl rfl h.1
      have ee0 := getD_of yy0
      exact tupon_value (v := .int .i64 i) (by simp [go_sem, ee0, yy0]) (Below.refl _ _) rfl
    · refine ob_plain [24] rfl rfl fun aa g h => ?_
      obtain ⟨_, yy0, rfl⟩ := seen_in rfl h.1
      have ee0 := getD_of yy0
      refine tupon_enter (f := 84) (args := #[.int .i64 i]) (by simp [go_sem, ee0, yy0]) rfl ?_
      exact (KV.out g.w).mono fun e w' ⟨r, he, hx, hB⟩ => ⟨_, he, hB, (by obtain ⟨p, c, e1⟩ := hx.cut; subst e1; exact ⟨p, _, c, rfl, hx⟩)⟩
    · refine ob_plain [3] rfl rfl fun aa g h => ?_
      have yy0 := seen_out (v := .pointer (some ⟨w.heap.size, 0, none⟩)) rfl rfl h.1
      have ee0 := getD_of yy0
      exact tupon_value (v := .pointer (some ⟨w.heap.size, 1, none⟩)) (by simp [go_sem, ee0, yy0]) (Below.refl _ _) rfl
    · refine ob_plain [26] rfl rfl fun aa g h => ?_
      obtain ⟨_, yy0, rfl⟩ := seen_in rfl h.1
      have ee0 := getD_of yy0
      exact tupon_value (v := .int .i64 a1) (by simp [go_sem, ee0, yy0, k1 g]) (Below.refl _ _) rfl
    · refine ob_plain [5] rfl rfl fun aa g h => ?_
      have yy0 := seen_out (v := .int .i64 M) rfl rfl h.1
      have ee0 := getD_of yy0
      exact tupon_value (v := .int .i64 M) (by simp [go_sem, ee0, yy0]) (Below.refl _ _) rfl
    · refine ob_plain [27, 28] rfl rfl fun aa g h => ?_
      obtain ⟨_, yy0, rfl⟩ := seen_in rfl h.1
      have ee0 := getD_of yy0
      obtain ⟨_, yy1, rfl⟩ := seen_in rfl h.2.1
      have ee1 := getD_of yy1
      exact tupon_value (v := .int .i64 H) (by simp [go_sem, ee0, yy0, ee1, yy1, W2]) (Below.refl _ _) rfl
    · refine ob_plain [25, 29] rfl rfl fun aa g h => ?_
      obtain ⟨_, yy0, ⟨p25, n25, c25, rfl, tx25⟩⟩ := seen_in rfl h.1
      have ee0 := getD_of yy0
      obtain ⟨_, yy1, rfl⟩ := seen_in rfl h.2.1
      have ee1 := getD_of yy1
      refine tupon_enter (f := 83) (args := #[.slice p25 n25 c25, .int .i64 H]) (by simp [go_sem, ee0, yy0, ee1, yy1]) rfl ?_
      exact (KS.out (.slice p25 n25 c25) g.w tx25).mono fun e w' ⟨r, he, hx, _, hB⟩ => ⟨_, he, hB, (by obtain ⟨p, c, e1⟩ := hx.cut; subst e1; exact ⟨p, _, c, rfl, hx⟩)⟩
    · refine ob_plain [30] rfl rfl fun aa g h => ?_
      obtain ⟨_, yy0, ⟨p30, n30, c30, rfl, tx30⟩⟩ := seen_in rfl h.1
      have ee0 := getD_of yy0
      exact tupon_value (v := .tuple #[.slice p30 n30 c30, .agg #[.int .i64 0, .int .i64 0]]) (by simp [go_sem, ee0, yy0]) (Below.refl _ _) ⟨_, _, _, rfl, tx30⟩
    · refine ob_plain [23] rfl rfl fun aa g h => ?_
      obtain ⟨_, yy0, ⟨p23, n23, c23, rfl, tx23⟩⟩ := seen_in rfl h.1
      have ee0 := getD_of yy0
      exact tupon_value (v := .slice p23 n23 c23) (by simp [go_sem, ee0, yy0]) (Below.refl _ _) ⟨_, _, _, rfl, tx23⟩
    · refine ob_plain [23] rfl rfl fun aa g h => ?_
      obtain ⟨_, yy0, ⟨p23, n23, c23, rfl, tx23⟩⟩ := seen_in rfl h.1
      have ee0 := getD_of yy0
      exact tupon_value (v := .agg #[.int .i64 0, .int .i64 0]) (by simp [go_sem, ee0, yy0]) (Below.refl _ _) rfl
    · refine ob_plain [] rfl rfl fun aa g h => ?_
      exact tupon_value (v := .pointer (some ⟨g.w.heap.size, 0, none⟩)) (w1 := g.w.alloc (.cells #[.int .i64 0, .int .i64 0] 24)) (by simp [go_sem]) ((Below.refl _ _).alloc (Nat.le_refl _) _) ⟨_, rfl, g.h.size, IvC.new g.w 0 0⟩
    · refine ob_plain [31] rfl rfl fun aa g h => ?_
      obtain ⟨_, yy0, ⟨p31, n31, c31, rfl, tx31⟩⟩ := seen_in rfl h.1
      have ee0 := getD_of yy0
      exact tupon_value (v := .slice p31 n31 c31) (by simp [go_sem, ee0, yy0]) (Below.refl _ _) ⟨_, _, _, rfl, tx31⟩
  rintro w5 hB5 _ rfl _ ⟨p25, n25, c25, rfl, tx25⟩ _ rfl _ rfl _ rfl _ rfl _ ⟨p30, n30, c30, rfl, tx30⟩ _ ⟨p23, n23, c23, rfl, tx23⟩ _ ⟨p31, n31, c31, rfl, tx31⟩ _ rfl _ ⟨X7, rfl, hX7, ic7⟩ _ ⟨p6, n6, c6, rfl, tx6⟩
  simp only [Act.put, List.setIfInBounds_toArray, List.set_cons_succ, List.set_cons_zero, finP, List.drop_succ_cons, List.drop_zero, List.take_zero, List.filterMap_nil]
  replace HC2 := Lib.hid (HC2.out.grow hB5)
  replace HBA := Lib.hid (below_then HBA.out hB5)
  have hlt2 := HC2.out.lt
  have hRlt := hlt2R
  have HX := Lib.hid (tx_ioff tx6 LTV.out ic7 (.int .i64 0) (.int .i64 0))
  have HJ := Lib.hid (ivc_set2 ic7 0 0)
  replace HC2 := Lib.hid (show MoC ((w5.setCell ⟨X7, 0, none⟩ (.int .i64 0)).setCell ⟨X7, 1, none⟩ (.int .i64 0)) (w.heap.size + 1) (.slice none 0 0) (0, 0) from (HC2.out.other (by omega)).other (by omega))
  replace HBA := Lib.hid (show Below w.heap.size w ((w5.setCell ⟨X7, 0, none⟩ (.int .i64 0)).setCell ⟨X7, 1, none⟩ (.int .i64 0)) from (HBA.out.setCell (p := ⟨X7, 0, none⟩) (by dsimp only; omega) _).setCell (p := ⟨X7, 1, none⟩) (by dsimp only; omega) _)
  have x0 := ic7.c0
  have x1 := ic7.c1
  have y0 := ic7.frozen 0
  have y1 := ic7.frozen 1
  dsimp only at x0 x1
  clear hB5 tx25 tx30 tx23 tx31 tx6 k1 KV KS HC0 hlt2 hRlt hlt2R
  go_wp2_with (fail)
  obtain ⟨W5, hW5⟩ : ∃ W, (w5.setCell ⟨X7, 0, none⟩ (.int .i64 0)).setCell ⟨X7, 1, none⟩ (.int .i64 0) = W := ⟨_, rfl⟩
  rw [hW5] at HBA HC2 HX HJ
  try rw [hW5]
  clear hW5 x0 x1 y0 y1 ic7 hX7
  refine (KC.out _).mono ?_
  rintro e w6 ⟨u, rfl, hx, hs, hB⟩
  obtain ⟨pu, cu, rfl⟩ := hx.cut
  have HXC := Lib.hid hx
  have HSC := Lib.hid hs
  replace HC2 := Lib.hid (HC2.out.grow hB)
  replace HX := Lib.hid (HX.out.grow hB)
  replace HJ := Lib.hid (HJ.out.grow hB)
  replace HBA := Lib.hid (below_then HBA.out hB)
  clear hB hx hs KC
  go_wp2_with (fail)
  refine (KA.out _ _ _ _ HXC.out HSC.out HX.out).mono ?_
  rintro e w7 ⟨u, rfl, hx, hB⟩
  obtain ⟨pq, cq, rfl⟩ := hx.cut
  replace HC2 := Lib.hid (HC2.out.grow hB)
  replace HJ := Lib.hid (HJ.out.grow hB)
  replace HBA := Lib.hid (below_then HBA.out hB)
  have j0 := HJ.out.c0
  have j1 := HJ.out.c1
  have hjl := HJ.out.lt
  dsimp only at j0 j1
  have hg := (Below.refl w7.heap.size w7).alloc (Nat.le_refl _) (.cells #[.int .i64 0, .int .i64 0] 24)
  have HXQ := Lib.hid (hx.grow hg)
  have HK := Lib.hid (IvC.new w7 0 0)
  replace HC2 := Lib.hid (HC2.out.grow hg)
  replace HJ := Lib.hid (HJ.out.grow hg)
  replace HBA := Lib.hid (below_then HBA.out hg)
  clear hB hg hx HXC HSC HX KA
  go_wp2_with (fail)
  obtain ⟨W7, hW7⟩ : ∃ W, w7.alloc (.cells #[.int .i64 0, .int .i64 0] 24) = W := ⟨_, rfl⟩
  rw [hW7] at HBA HC2 HJ HXQ HK
  try rw [hW7]
  clear hW7
  refine (KZ.out _).mono ?_
  rintro e w8 ⟨rfl, hB⟩
  replace HC2 := Lib.hid (HC2.out.grow hB)
  replace HXQ := Lib.hid (HXQ.out.grow hB)
  replace HBA := Lib.hid (below_then HBA.out hB)
  clear hB j0 j1 hjl HJ HK KZ
  go_wp2_with (fail)
  refine (KN.out _ _ HXQ.out).mono ?_
  rintro e w9 ⟨r, rfl, hx, hB⟩
  obtain ⟨p9, c9, rfl⟩ := hx.cut
  have hB10 := below_then HBA.out hB
  have hR := HC2.out.grow hB
  have y0 := hR.c0
  have y1 := hR.c1
  have y2 := hR.c2
  have z0 := hR.frozen 0
  have z1 := hR.frozen 1
  have z2 := hR.frozen 2
  dsimp only at y0 y1 y2
  have HX9 := Lib.hid hx
  clear hB hx HXQ KN
  go_wp2_with (fail)
  refine bodyPost_ret (v := .agg #[.slice p9 Q.length c9, .int .i64 0, .int .i64 0]) (by simp [results, Tryz.results36, go_sem, y0, y1, y2]) rfl ⟨_, rfl, tx_moff HX9.out HTV.out hR _ _ _, ?_⟩
  exact ((hB10.setCell (p := ⟨w.heap.size + 1, 0, none⟩) (by dsimp only; omega) _).setCell (p := ⟨w.heap.size + 1, 1, none⟩) (by dsimp only; omega) _).setCell (p := ⟨w.heap.size + 1, 2, none⟩) (by dsimp only; omega) _
end Go.Proofs.YthakeeinhgfbbaaGreat
