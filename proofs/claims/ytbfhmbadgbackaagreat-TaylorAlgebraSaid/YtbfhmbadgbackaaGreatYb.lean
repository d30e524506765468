/-
  Package taylor: Range, Eval, Truncate, Add, Mul.
-/
import Derived.Test.YtbfhmbadgbackaaGreatYa
namespace Go.Proofs.YtbfhmbadgbackaaGreat
open Go.ChangeShapes Go.WideShapes Go.ChangeAt Go.RowKit
set_option linter.unusedVariables false
set_option linter.unusedSimpArgs false
set_option maxRecDepth 100000
attribute [local irreducible] Calls
theorem addR_le {m : Int × Int} {t : Tm} (hm : m.1 ≤ m.2) (ht : Num t.1) : (addR m t).1 ≤ (addR m t).2 := by
  have := trg_bd (t := t) ht
  unfold addR
  dsimp only
  omega
theorem foldR_le : ∀ (l : List Tm) (m : Int × Int), m.1 ≤ m.2 → (∀ t ∈ l, Num t.1) → (l.foldl addR m).1 ≤ (l.foldl addR m).2
  | [], _, h, _ => h
  | t :: l, m, h, hl => foldR_le l (addR m t) (addR_le h (hl t (by simp))) fun s hs => hl s (by simp [hs])
theorem rng_vb {l : List Tm} (h : ∀ t ∈ l, Num t.1) : VB2 (rngP l) := mk_vi (foldR_le l (0, 0) (Int.le_refl _) h)
theorem trunc_vb {l : List Tm} {D : Int} {m : Int × Int} (hm : m.1 ≤ m.2) : VB2 (truncP l D m).2 := by
  unfold truncP
  split
  · exact .inl ⟨rfl, rfl⟩
  · rename_i hn
    split
    · exact .inl ⟨rfl, rfl⟩
    · refine mk_vi (foldR_le _ m hm fun t ht => ?_)
      have ht := (List.mem_filter.1 ht).1
      by_cases q : Num t.1
      · exact q
      · exact absurd (List.any_eq_true.2 ⟨t, ht, by simp [noNum, q]⟩) hn
theorem mulR_vb (l m : List Tm) (D : Int) : VB2 (mulR l m D).2 := trunc_vb (by have := missM_sign (pairsT l m); omega)
theorem merge_vb (l m : List Tm) : VB2 (truncP (mergeP l m) 6 (0, 0)).2 := trunc_vb (Int.le_refl _)
/-- What lies in a slice of terms does not lie in a model's cells. -/
theorem tx_moff {W : World} {b : Nat} {u v : Value} {p : Int × Int} {l : List Tm} (h : Tx W u l) (hl : ∀ t ∈ l, TV t) (hm : MoC W b v p) (x y z : Value) : Tx (((W.setCell ⟨b, 0, none⟩ x).setCell ⟨b, 1, none⟩ y).setCell ⟨b, 2, none⟩ z) u l := by
  obtain ⟨h1, q, cap, rfl, h2⟩ := h
  refine ⟨h1, q, cap, rfl, fun i t ht => ?_⟩
  obtain ⟨b', o, rfl, h3, h4⟩ := h2 i t ht
  have hne : b' ≠ b := by
    rintro rfl
    have htv := hl t (List.mem_of_getElem? ht)
    obtain ⟨k, e0, e1, e2, e3, e4, e5, rfl⟩ := six_at htv
    have h6 := h4 6 _ rfl
    simp [World.cell?, show W.heap[b']? = _ from hm] at h6
  refine ⟨b', o, rfl, by simpa [World.setCell] using h3, fun j v hv => ?_⟩
  rw [World.cell?_setCell_other _ _ _ _ (by simp [hne]), World.cell?_setCell_other _ _ _ _ (by simp [hne]), World.cell?_setCell_other _ _ _ _ (by simp [hne])]
  exact h4 j v hv
theorem kept_tvY {l : List Tm} {D : Int} (h : ∀ t ∈ l, TV t) : ∀ t ∈ keptP D l, TV t := fun t ht => h t (List.mem_filter.1 ht).1
theorem truncP_tvY {l : List Tm} {D : Int} {m : Int × Int} (h : ∀ t ∈ l, TV t) : ∀ t ∈ (truncP l D m).1, TV t := by
  unfold truncP
  split
  · simp
  · split
    · simp
    · exact kept_tvY h
theorem normM_tv {l : List Tm} {p : Int × Int} (h : ∀ t ∈ l, TV t) : ∀ t ∈ (normM l p).1, TV t := by
  unfold normM
  split
  · simp
  · exact h
set_option maxHeartbeats 8000000 in
theorem trange_ok (u : Value) (a0 a1 : Int) (l : List Tm) (w : World) (hu : Tx w u l) (nu : ∀ t ∈ l, TV t ∧ Num t.1) (su : l.length ≤ 100) (hv : VB2 (a0, a1)) :
    Calls Tryz.prog 29 #[.agg #[u, .int .i64 a0, .int .i64 a1]] w fun e w' => e = .returned (.agg #[.int .i64 (rangeM (l, (a0, a1))).1, .int .i64 (rangeM (l, (a0, a1))).2]) ∧ Below w.heap.size w w' := by
  obtain ⟨pu, cu, rfl⟩ := hu.cut
  have hrv := rng_vb (l := l) fun t ht => (nu t ht).2
  have HU := Lib.hid hu
  have KR := Lib.hid (fun w h => range_ok (.slice pu l.length cu) l w h nu (by omega))
  unfold rangeM
  unfold rngP at hrv ⊢
  obtain ⟨⟨r0, r1⟩, hr⟩ : ∃ R, newR (sumR l) = R := ⟨_, rfl⟩
  rw [hr] at KR hrv
  dsimp only
  rw [hr]
  unfold addI2
  dsimp only at KR ⊢
  have KA := Lib.hid (fun w => iv_add r0 r1 a0 a1 w hrv hv)
  obtain ⟨n0, h0⟩ : ∃ z, addLo r0 r1 a0 a1 = z := ⟨_, rfl⟩
  obtain ⟨n1, h1⟩ : ∃ z, addHi r0 r1 a0 a1 = z := ⟨_, rfl⟩
  rw [h0, h1] at KA ⊢
  have hba : Below w.heap.size w ((w.alloc (.cells #[(.slice pu l.length cu), .int .i64 a0, .int .i64 a1] 26)).alloc (.cells #[.int .i64 0, .int .i64 0] 24)) := (((Below.refl _ _).alloc (Nat.le_refl _) _).alloc (by simp) _)
  have hc0 : MoC ((w.alloc (.cells #[(.slice pu l.length cu), .int .i64 a0, .int .i64 a1] 26)).alloc (.cells #[.int .i64 0, .int .i64 0] 24)) (w.heap.size) ((.slice pu l.length cu)) (a0, a1) := by
    have e := MoC.new w (.slice pu l.length cu) a0 a1
    exact (e.alloc _)
  have hc1 : IvC ((w.alloc (.cells #[(.slice pu l.length cu), .int .i64 a0, .int .i64 a1] 26)).alloc (.cells #[.int .i64 0, .int .i64 0] 24)) (w.heap.size + 1) (0, 0) := by
    have e := IvC.new (w.alloc (.cells #[(.slice pu l.length cu), .int .i64 a0, .int .i64 a1] 26)) 0 0
    simp only [World.size_alloc] at e
    exact e
  have HC0 := Lib.hid hc0
  have HC1 := Lib.hid hc1
  have HBA := Lib.hid hba
  clear hba hc0 hc1 hu nu su hv hrv hr h0 h1
  go_enter Tryz.func29, Tryz.ntmps29
  go_wp2_with (fail)
  generalize hW0 : World.alloc (World.alloc w _) _ = W0 at *
  clear hW0
  have k0 := fun g : Grown W0 => (HC0.out.grow g.h).c0
  have k1 := fun g : Grown W0 => (HC0.out.grow g.h).c1
  have k2 := fun g : Grown W0 => (HC0.out.grow g.h).c2
  dsimp only at k0 k1 k2
  refine region_pred_l (lk [(3, fun z_ _ => z_ = .pointer (some ⟨w.heap.size, 0, none⟩)), (4, fun z_ _ => z_ = (.slice pu l.length cu)), (5, fun z_ _ => z_ = .agg #[.int .i64 r0, .int .i64 r1]), (6, fun z_ _ => z_ = .pointer (some ⟨w.heap.size, 1, none⟩)), (7, fun z_ _ => z_ = .agg #[.int .i64 a0, .int .i64 a1]), (8, fun z_ _ => z_ = .agg #[.int .i64 n0, .int .i64 n1])]) 6 _ rfl (by kernel_rfl) (by kernel_rfl) (by kernel_rfl) (lk_steady _ ⟨steady_eq _, steady_eq _, steady_eq _, steady_eq _, steady_eq _, steady_eq _, trivial⟩) ?_ ?_
  · refine ⟨?_, ?_, ?_, ?_, ?_, ?_, ?_, trivial⟩
    · intro _
      refine ob_plain [1] rfl rfl fun aa g h => ?_
      have yy0 := seen_out (v := .pointer (some ⟨w.heap.size, 0, none⟩)) rfl rfl h.1
      have ee0 := getD_of yy0
      exact tupon_value (v := .pointer (some ⟨w.heap.size, 0, none⟩)) (by simp [go_sem, ee0, yy0]) (Below.refl _ _) rfl
    · intro _
      refine ob_plain [3] rfl rfl fun aa g h => ?_
      obtain ⟨_, yy0, rfl⟩ := seen_in rfl h.1
      have ee0 := getD_of yy0
      exact tupon_value (v := (.slice pu l.length cu)) (by simp [go_sem, ee0, yy0, k0 g]) (Below.refl _ _) rfl
    · intro _
      refine ob_plain [4] rfl rfl fun aa g h => ?_
      obtain ⟨_, yy0, rfl⟩ := seen_in rfl h.1
      have ee0 := getD_of yy0
      refine tupon_enter (f := 66) (args := #[(.slice pu l.length cu)]) (by simp [go_sem, ee0, yy0]) rfl ?_
      exact (KR.out g.w (HU.out.grow (below_then HBA.out g.h))).mono fun e w' ⟨he, hB⟩ => ⟨_, he, hB, rfl⟩
    · intro _
      refine ob_plain [1] rfl rfl fun aa g h => ?_
      have yy0 := seen_out (v := .pointer (some ⟨w.heap.size, 0, none⟩)) rfl rfl h.1
      have ee0 := getD_of yy0
      exact tupon_value (v := .pointer (some ⟨w.heap.size, 1, none⟩)) (by simp [go_sem, ee0, yy0]) (Below.refl _ _) rfl
    · intro _
      refine ob_plain [6] rfl rfl fun aa g h => ?_
      obtain ⟨_, yy0, rfl⟩ := seen_in rfl h.1
      have ee0 := getD_of yy0
      exact tupon_value (v := .agg #[.int .i64 a0, .int .i64 a1]) (by simp [go_sem, ee0, yy0, k1 g, k2 g]) (Below.refl _ _) rfl
    · intro _
      refine ob_plain [5, 7] rfl rfl fun aa g h => ?_
      obtain ⟨_, yy0, rfl⟩ := seen_in rfl h.1
      have ee0 := getD_of yy0
      obtain ⟨_, yy1, rfl⟩ := seen_in rfl h.2.1
      have ee1 := getD_of yy1
      refine tupon_enter (f := 57) (args := #[.agg #[.int .i64 r0, .int .i64 r1], .agg #[.int .i64 a0, .int .i64 a1]]) (by simp [go_sem, ee0, yy0, ee1, yy1]) rfl ?_
      exact (KA.out g.w).mono fun e w' ⟨he, hB⟩ => ⟨_, he, hB, rfl⟩
    · exact fun h => absurd rfl h
  rintro w5 hB5 _ rfl _ rfl _ rfl _ rfl _ rfl _ rfl
  simp only [Act.put, List.setIfInBounds_toArray, List.set_cons_succ, List.set_cons_zero]
  have hB6 := below_then HBA.out hB5
  have hR5 := HC1.out.grow hB5
  have q0 := hR5.c0
  have q1 := hR5.c1
  have z0 := hR5.frozen 0
  have z1 := hR5.frozen 1
  dsimp only at q0 q1
  refine ⟨_, by simp [go_sem, q0, q1, z0, z1]; rfl, ?_⟩
  clear k0 k1 k2
  go_wp2_with (fail)
  refine bodyPost_ret (v := .agg #[.int .i64 n0, .int .i64 n1]) (by simp [results, Tryz.results29, go_sem, q0, q1]) rfl ⟨rfl, ?_⟩
  exact (hB6.setCell (p := ⟨w.heap.size + 1, 0, none⟩) (by dsimp only; omega) _).setCell (p := ⟨w.heap.size + 1, 1, none⟩) (by dsimp only; omega) _
set_option maxHeartbeats 8000000 in
theorem teval_ok (u vb : Value) (a0 a1 : Int) (l : List Tm) (box : List (Int × Int)) (w : World) (hu : Tx w u l) (nu : ∀ t ∈ l, TV t ∧ Num t.1) (su : l.length ≤ 100) (hv : VB2 (a0, a1)) (hb : Bx w vb box) (hbv : ∀ p ∈ box, VB2 p) :
    Calls Tryz.prog 37 #[.agg #[u, .int .i64 a0, .int .i64 a1], vb] w fun e w' => e = .returned (.agg #[.int .i64 (evalM (l, (a0, a1)) box).1, .int .i64 (evalM (l, (a0, a1)) box).2]) ∧ Below w.heap.size w w' := by
  obtain ⟨pu, cu, rfl⟩ := hu.cut
  obtain ⟨pb, cb, rfl⟩ : ∃ p c, vb = .slice p box.length c := ⟨_, _, hb.2.choose_spec.choose_spec.1⟩
  have hrv := evalP_vb box l
  have HU := Lib.hid hu
  have HBX := Lib.hid hb
  have KR := Lib.hid (fun w h h2 => eval_ok (.slice pu l.length cu) (.slice pb box.length cb) l box w h h2 (fun t ht => (nu t ht).1) hbv (by omega))
  unfold evalM
  dsimp only
  obtain ⟨⟨r0, r1⟩, hr⟩ : ∃ R, evalP box l = R := ⟨_, rfl⟩
  rw [hr] at KR hrv ⊢
  unfold addI2
  dsimp only at KR ⊢
  have KA := Lib.hid (fun w => iv_add r0 r1 a0 a1 w hrv hv)
  obtain ⟨n0, h0⟩ : ∃ z, addLo r0 r1 a0 a1 = z := ⟨_, rfl⟩
  obtain ⟨n1, h1⟩ : ∃ z, addHi r0 r1 a0 a1 = z := ⟨_, rfl⟩
  rw [h0, h1] at KA ⊢
  have hba : Below w.heap.size w ((w.alloc (.cells #[(.slice pu l.length cu), .int .i64 a0, .int .i64 a1] 26)).alloc (.cells #[.int .i64 0, .int .i64 0] 24)) := (((Below.refl _ _).alloc (Nat.le_refl _) _).alloc (by simp) _)
  have hc0 : MoC ((w.alloc (.cells #[(.slice pu l.length cu), .int .i64 a0, .int .i64 a1] 26)).alloc (.cells #[.int .i64 0, .int .i64 0] 24)) (w.heap.size) ((.slice pu l.length cu)) (a0, a1) := by
    have e := MoC.new w (.slice pu l.length cu) a0 a1
    exact (e.alloc _)
  have hc1 : IvC ((w.alloc (.cells #[(.slice pu l.length cu), .int .i64 a0, .int .i64 a1] 26)).alloc (.cells #[.int .i64 0, .int .i64 0] 24)) (w.heap.size + 1) (0, 0) := by
    have e := IvC.new (w.alloc (.cells #[(.slice pu l.length cu), .int .i64 a0, .int .i64 a1] 26)) 0 0
    simp only [World.size_alloc] at e
    exact e
  have HC0 := Lib.hid hc0
  have HC1 := Lib.hid hc1
  have HBA := Lib.hid hba
  clear hba hc0 hc1 hu nu su hv hrv hr h0 h1 hb hbv
  go_enter Tryz.func37, Tryz.ntmps37
  go_wp2_with (fail)
  generalize hW0 : World.alloc (World.alloc w _) _ = W0 at *
  clear hW0
  have k0 := fun g : Grown W0 => (HC0.out.grow g.h).c0
  have k1 := fun g : Grown W0 => (HC0.out.grow g.h).c1
  have k2 := fun g : Grown W0 => (HC0.out.grow g.h).c2
  dsimp only at k0 k1 k2
  refine region_pred_l (lk [(5, fun z_ _ => z_ = .pointer (some ⟨w.heap.size, 0, none⟩)), (6, fun z_ _ => z_ = (.slice pu l.length cu)), (7, fun z_ _ => z_ = (.slice pb box.length cb)), (8, fun z_ _ => z_ = .agg #[.int .i64 r0, .int .i64 r1]), (9, fun z_ _ => z_ = .pointer (some ⟨w.heap.size, 1, none⟩)), (10, fun z_ _ => z_ = .agg #[.int .i64 a0, .int .i64 a1]), (11, fun z_ _ => z_ = .agg #[.int .i64 n0, .int .i64 n1])]) 7 _ rfl (by kernel_rfl) (by kernel_rfl) (by kernel_rfl) (lk_steady _ ⟨steady_eq _, steady_eq _, steady_eq _, steady_eq _, steady_eq _, steady_eq _, steady_eq _, trivial⟩) ?_ ?_
  · refine ⟨?_, ?_, ?_, ?_, ?_, ?_, ?_, ?_, trivial⟩
    · intro _
      refine ob_plain [2] rfl rfl fun aa g h => ?_
      have yy0 := seen_out (v := .pointer (some ⟨w.heap.size, 0, none⟩)) rfl rfl h.1
      have ee0 := getD_of yy0
      exact tupon_value (v := .pointer (some ⟨w.heap.size, 0, none⟩)) (by simp [go_sem, ee0, yy0]) (Below.refl _ _) rfl
    · intro _
      refine ob_plain [5] rfl rfl fun aa g h => ?_
      obtain ⟨_, yy0, rfl⟩ := seen_in rfl h.1
      have ee0 := getD_of yy0
      exact tupon_value (v := (.slice pu l.length cu)) (by simp [go_sem, ee0, yy0, k0 g]) (Below.refl _ _) rfl
    · intro _
      refine ob_plain [1] rfl rfl fun aa g h => ?_
      have yy0 := seen_out (v := (.slice pb box.length cb)) rfl rfl h.1
      have ee0 := getD_of yy0
      exact tupon_value (v := (.slice pb box.length cb)) (by simp [go_sem, ee0, yy0]) (Below.refl _ _) rfl
    · intro _
      refine ob_plain [6, 7] rfl rfl fun aa g h => ?_
      obtain ⟨_, yy0, rfl⟩ := seen_in rfl h.1
      have ee0 := getD_of yy0
      obtain ⟨_, yy1, rfl⟩ := seen_in rfl h.2.1
      have ee1 := getD_of yy1
      refine tupon_enter (f := 85) (args := #[(.slice pu l.length cu), (.slice pb box.length cb)]) (by simp [go_sem, ee0, yy0, ee1, yy1]) rfl ?_
      exact (KR.out g.w (HU.out.grow (below_then HBA.out g.h)) (HBX.out.grow (below_then HBA.out g.h))).mono fun e w' ⟨he, hB⟩ => ⟨_, he, hB, rfl⟩
    · intro _
      refine ob_plain [2] rfl rfl fun aa g h => ?_
      have yy0 := seen_out (v := .pointer (some ⟨w.heap.size, 0, none⟩)) rfl rfl h.1
      have ee0 := getD_of yy0
      exact tupon_value (v := .pointer (some ⟨w.heap.size, 1, none⟩)) (by simp [go_sem, ee0, yy0]) (Below.refl _ _) rfl
    · intro _
      refine ob_plain [9] rfl rfl fun aa g h => ?_
      obtain ⟨_, yy0, rfl⟩ := seen_in rfl h.1
      have ee0 := getD_of yy0
      exact tupon_value (v := .agg #[.int .i64 a0, .int .i64 a1]) (by simp [go_sem, ee0, yy0, k1 g, k2 g]) (Below.refl _ _) rfl
    · intro _
      refine ob_plain [8, 10] rfl rfl fun aa g h => ?_
      obtain ⟨_, yy0, rfl⟩ := seen_in rfl h.1
      have ee0 := getD_of yy0
      obtain ⟨_, yy1, rfl⟩ := seen_in rfl h.2.1
      have ee1 := getD_of yy1
      refine tupon_enter (f := 57) (args := #[.agg #[.int .i64 r0, .int .i64 r1], .agg #[.int .i64 a0, .int .i64 a1]]) (by simp [go_sem, ee0, yy0, ee1, yy1]) rfl ?_
      exact (KA.out g.w).mono fun e w' ⟨he, hB⟩ => ⟨_, he, hB, rfl⟩
    · exact fun h => absurd rfl h
  rintro w5 hB5 _ rfl _ rfl _ rfl _ rfl _ rfl _ rfl _ rfl
  simp only [Act.put, List.setIfInBounds_toArray, List.set_cons_succ, List.set_cons_zero]
  have hB6 := below_then HBA.out hB5
  have hR5 := HC1.out.grow hB5
  have q0 := hR5.c0
  have q1 := hR5.c1
  have z0 := hR5.frozen 0
  have z1 := hR5.frozen 1
  dsimp only at q0 q1
  refine ⟨_, by simp [go_sem, q0, q1, z0, z1]; rfl, ?_⟩
  clear k0 k1 k2
  go_wp2_with (fail)
  refine bodyPost_ret (v := .agg #[.int .i64 n0, .int .i64 n1]) (by simp [results, Tryz.results37, go_sem, q0, q1]) rfl ⟨rfl, ?_⟩
  exact (hB6.setCell (p := ⟨w.heap.size + 1, 0, none⟩) (by dsimp only; omega) _).setCell (p := ⟨w.heap.size + 1, 1, none⟩) (by dsimp only; omega) _
theorem bx_l1 (W : World) (x y : Int) : Bx (W.alloc (.cells #[.int .i64 x, .int .i64 y] 24)) (.slice (some ⟨W.heap.size, 0, none⟩) 1 1) [(x, y)] := bx_lit1 W x y
theorem bx_l3 (W : World) (x y z u s t : Int) : Bx (W.alloc (.cells #[.int .i64 x, .int .i64 y, .int .i64 z, .int .i64 u, .int .i64 s, .int .i64 t] 24)) (.slice (some ⟨W.heap.size, 0, none⟩) 3 3) [(x, y), (z, u), (s, t)] := by
  have hb : (W.alloc (.cells #[.int .i64 x, .int .i64 y, .int .i64 z, .int .i64 u, .int .i64 s, .int .i64 t] 24)).heap[W.heap.size]? = some (.cells #[.int .i64 x, .int .i64 y, .int .i64 z, .int .i64 u, .int .i64 s, .int .i64 t] 24 (0, 0)) := World.alloc_heap_new W _
  refine ⟨by simp [maxLen], _, 3, rfl, fun k p hk => ?_⟩
  match k with
  | 0 => simp at hk; subst hk; exact ⟨_, 0, rfl, by simp, heapT_cell hb rfl, heapT_cell hb rfl⟩
  | 1 => simp at hk; subst hk; exact ⟨_, 0, rfl, by simp, heapT_cell hb rfl, heapT_cell hb rfl⟩
  | 2 => simp at hk; subst hk; exact ⟨_, 0, rfl, by simp, heapT_cell hb rfl, heapT_cell hb rfl⟩
  | k + 3 => simp at hk
set_option maxHeartbeats 8000000 in
theorem ttrunc_ok (u : Value) (a0 a1 deg : Int) (l : List Tm) (w : World) (hu : Tx w u l) (nu : ∀ t ∈ l, TV t ∧ Num t.1) (su : l.length ≤ 100) (hv : VB2 (a0, a1)) :
    Calls Tryz.prog 27 #[.agg #[u, .int .i64 a0, .int .i64 a1], .int .i64 deg] w fun e w' => ∃ r, e = .returned (.agg #[r, .int .i64 (truncM (l, (a0, a1)) deg).2.1, .int .i64 (truncM (l, (a0, a1)) deg).2.2]) ∧ Tx w' r (truncM (l, (a0, a1)) deg).1 ∧ CapOk r ∧ Below w.heap.size w w' := by
  obtain ⟨pu, cu, rfl⟩ := hu.cut
  have hrv := trunc_vb (l := l) (D := deg) (m := (0, 0)) (Int.le_refl _)
  have HU := Lib.hid hu
  have KT := Lib.hid (fun w h => truncate_ok (.slice pu l.length cu) l deg w h (fun t ht => (nu t ht).1) (by omega))
  unfold truncM
  dsimp only
  obtain ⟨⟨T, t0, t1⟩, hr⟩ : ∃ R, truncP l deg (0, 0) = R := ⟨_, rfl⟩
  rw [hr] at KT hrv ⊢
  dsimp only at KT hrv ⊢
  have KP := Lib.hid (fun (r v : Value) (w : World) h1 h2 h3 => tplus_ok r v t0 t1 T [(a0, a1)] w h1 h2 h3 hrv (by simpa using hv))
  unfold foldA at KP
  simp only [List.foldl_cons, List.foldl_nil] at KP
  obtain ⟨⟨N, n0, n1⟩, hn⟩ : ∃ R, normM T (addI2 (t0, t1) (a0, a1)) = R := ⟨_, rfl⟩
  have hT : ∀ t ∈ T, TV t := fun t ht => truncP_tvY (fun t ht => (nu t ht).1) t (by first | (rw [hr]; exact ht) | (unfold mulR at hr; rw [hr]; exact ht))
  have HTV : Hid (∀ t ∈ N, TV t) := Lib.hid (fun t ht => normM_tv hT t (by rw [hn]; exact ht))
  rw [hn] at KP ⊢
  dsimp only at KP ⊢
  have hba : Below w.heap.size w ((w.alloc (.cells #[(.slice pu l.length cu), .int .i64 a0, .int .i64 a1] 26)).alloc (.cells #[.slice none 0 0, .int .i64 0, .int .i64 0] 26)) := (((Below.refl _ _).alloc (Nat.le_refl _) _).alloc (by simp) _)
  have hc0 : MoC ((w.alloc (.cells #[(.slice pu l.length cu), .int .i64 a0, .int .i64 a1] 26)).alloc (.cells #[.slice none 0 0, .int .i64 0, .int .i64 0] 26)) (w.heap.size) ((.slice pu l.length cu)) (a0, a1) := by
    have e := MoC.new w (.slice pu l.length cu) a0 a1
    exact (e.alloc _)
  have hc1 : MoC ((w.alloc (.cells #[(.slice pu l.length cu), .int .i64 a0, .int .i64 a1] 26)).alloc (.cells #[.slice none 0 0, .int .i64 0, .int .i64 0] 26)) (w.heap.size + 1) (.slice none 0 0) (0, 0) := by
    have e := MoC.new (w.alloc (.cells #[(.slice pu l.length cu), .int .i64 a0, .int .i64 a1] 26)) (.slice none 0 0) 0 0
    simp only [World.size_alloc] at e
    exact e
  have HC0 := Lib.hid hc0
  have HC1 := Lib.hid hc1
  have HBA := Lib.hid hba
  clear hba hc0 hc1 hu nu su hv hrv hr hn hT
  go_enter Tryz.func27, Tryz.ntmps27
  go_wp2_with (fail)
  generalize hW0 : World.alloc (World.alloc w _) _ = W0 at *
  clear hW0
  have k0 := fun g : Grown W0 => (HC0.out.grow g.h).c0
  have k1 := fun g : Grown W0 => (HC0.out.grow g.h).c1
  have k2 := fun g : Grown W0 => (HC0.out.grow g.h).c2
  dsimp only at k0 k1 k2
  refine region_pred_l (lk [(5, fun z_ _ => z_ = .pointer (some ⟨w.heap.size, 0, none⟩)), (6, fun z_ _ => z_ = (.slice pu l.length cu)), (7, fun z_ _ => z_ = .int .i64 deg), (8, fun z_ w' => ∃ r, z_ = .tuple #[r, .agg #[.int .i64 t0, .int .i64 t1]] ∧ Tx w' r T ∧ CapOk r), (9, fun z_ w' => Tx w' z_ T ∧ CapOk z_), (10, fun z_ _ => z_ = .agg #[.int .i64 t0, .int .i64 t1]), (11, fun z_ w' => ∃ r, z_ = plusV r t0 t1 ∧ Tx w' r T ∧ CapOk r), (12, fun z_ _ => z_ = .pointer (some ⟨w.heap.size, 1, none⟩)), (13, fun z_ _ => z_ = .agg #[.int .i64 a0, .int .i64 a1]), (14, fun z_ w' => Bx w' z_ [(a0, a1)]), (15, fun z_ w' => ∃ r, z_ = .agg #[r, .int .i64 n0, .int .i64 n1] ∧ Tx w' r N ∧ CapOk r)]) 11 _ rfl (by kernel_rfl) (by kernel_rfl) (by kernel_rfl) (lk_steady _ ⟨steady_eq _, steady_eq _, steady_eq _, fun u w1 w2 hb ⟨r, h1, h2, h3⟩ => ⟨r, h1, h2.grow hb, h3⟩, fun u w1 w2 hb ⟨h2, h3⟩ => ⟨h2.grow hb, h3⟩, steady_eq _, fun u w1 w2 hb ⟨r, h1, h2, h3⟩ => ⟨r, h1, h2.grow hb, h3⟩, steady_eq _, steady_eq _, fun u w1 w2 hb h => h.grow hb, fun u w1 w2 hb ⟨r, h1, h2, h3⟩ => ⟨r, h1, h2.grow hb, h3⟩, trivial⟩) ?_ ?_
  · refine ⟨?_, ?_, ?_, ?_, ?_, ?_, ?_, ?_, ?_, ?_, ?_, ?_, trivial⟩
    · intro _
      refine ob_plain [2] rfl rfl fun aa g h => ?_
      have yy0 := seen_out (v := .pointer (some ⟨w.heap.size, 0, none⟩)) rfl rfl h.1
      have ee0 := getD_of yy0
      exact tupon_value (v := .pointer (some ⟨w.heap.size, 0, none⟩)) (by simp [go_sem, ee0, yy0]) (Below.refl _ _) rfl
    · intro _
      refine ob_plain [5] rfl rfl fun aa g h => ?_
      obtain ⟨_, yy0, rfl⟩ := seen_in rfl h.1
      have ee0 := getD_of yy0
      exact tupon_value (v := (.slice pu l.length cu)) (by simp [go_sem, ee0, yy0, k0 g]) (Below.refl _ _) rfl
    · intro _
      refine ob_plain [1] rfl rfl fun aa g h => ?_
      have yy0 := seen_out (v := .int .i64 deg) rfl rfl h.1
      have ee0 := getD_of yy0
      exact tupon_value (v := .int .i64 deg) (by simp [go_sem, ee0, yy0]) (Below.refl _ _) rfl
    · intro _
      refine ob_plain [6, 7] rfl rfl fun aa g h => ?_
      obtain ⟨_, yy0, rfl⟩ := seen_in rfl h.1
      have ee0 := getD_of yy0
      obtain ⟨_, yy1, rfl⟩ := seen_in rfl h.2.1
      have ee1 := getD_of yy1
      refine tupon_enter (f := 70) (args := #[(.slice pu l.length cu), .int .i64 deg]) (by simp [go_sem, ee0, yy0, ee1, yy1]) rfl ?_
      exact (KT.out g.w (HU.out.grow (below_then HBA.out g.h))).mono fun e w' ⟨r, he, hx, hn, hB⟩ => ⟨_, he, hB, ⟨r, rfl, hx, hn.1⟩⟩
    · intro _
      refine ob_plain [8] rfl rfl fun aa g h => ?_
      obtain ⟨_, yy0, ⟨r8, rfl, tx8, cp8⟩⟩ := seen_in rfl h.1
      have ee0 := getD_of yy0
      exact tupon_value (v := r8) (by simp [go_sem, ee0, yy0]) (Below.refl _ _) ⟨tx8, cp8⟩
    · intro _
      refine ob_plain [8] rfl rfl fun aa g h => ?_
      obtain ⟨_, yy0, ⟨r8, rfl, tx8, cp8⟩⟩ := seen_in rfl h.1
      have ee0 := getD_of yy0
      exact tupon_value (v := .agg #[.int .i64 t0, .int .i64 t1]) (by simp [go_sem, ee0, yy0]) (Below.refl _ _) rfl
    · intro _
      refine ob_plain [9, 10] rfl rfl fun aa g h => ?_
      obtain ⟨v9, yy0, ⟨tx9, cp9⟩⟩ := seen_in rfl h.1
      have ee0 := getD_of yy0
      obtain ⟨_, yy1, rfl⟩ := seen_in rfl h.2.1
      have ee1 := getD_of yy1
      refine tupon_enter (f := 55) (args := #[v9, .agg #[.int .i64 t0, .int .i64 t1]]) (by simp [go_sem, ee0, yy0, ee1, yy1]) rfl ?_
      exact (wr_ok v9 t0 t1 g.w cp9).mono fun e w' ⟨he, hB⟩ => ⟨_, he, hB, ⟨_, rfl, tx9.grow hB, cp9⟩⟩
    · intro _
      refine ob_plain [2] rfl rfl fun aa g h => ?_
      have yy0 := seen_out (v := .pointer (some ⟨w.heap.size, 0, none⟩)) rfl rfl h.1
      have ee0 := getD_of yy0
      exact tupon_value (v := .pointer (some ⟨w.heap.size, 1, none⟩)) (by simp [go_sem, ee0, yy0]) (Below.refl _ _) rfl
    · intro _
      refine ob_plain [12] rfl rfl fun aa g h => ?_
      obtain ⟨_, yy0, rfl⟩ := seen_in rfl h.1
      have ee0 := getD_of yy0
      exact tupon_value (v := .agg #[.int .i64 a0, .int .i64 a1]) (by simp [go_sem, ee0, yy0, k1 g, k2 g]) (Below.refl _ _) rfl
    · intro _
      refine ob_plain [13] rfl rfl fun aa g h => ?_
      obtain ⟨_, yy0, rfl⟩ := seen_in rfl h.1
      have ee0 := getD_of yy0
      exact tupon_value (v := .slice (some ⟨g.w.heap.size, 0, none⟩) 1 1) (w1 := g.w.alloc (.cells #[.int .i64 a0, .int .i64 a1] 24)) (by simp [go_sem, ee0, yy0]) ((Below.refl _ _).alloc (Nat.le_refl _) _) (bx_l1 _ _ _ )
    · intro _
      refine ob_plain [11, 14] rfl rfl fun aa g h => ?_
      obtain ⟨_, yy0, ⟨r11, rfl, tx11, cp11⟩⟩ := seen_in rfl h.1
      have ee0 := getD_of yy0
      obtain ⟨v14, yy1, bx14⟩ := seen_in rfl h.2.1
      have ee1 := getD_of yy1
      refine tupon_enter (f := 96) (args := #[.agg #[r11, .int .i64 t0, .int .i64 t1], v14]) (by simp [go_sem, ee0, yy0, ee1, yy1, plusV]) rfl ?_
      exact (KP.out r11 v14 g.w tx11 cp11 bx14).mono fun e w' ⟨r, he, hx, hc, hB⟩ => ⟨_, he, hB, ⟨r, rfl, hx, hc⟩⟩
    · exact fun h => absurd rfl h
  rintro w5 hB5 _ rfl _ rfl _ rfl _ ⟨r8, rfl, tx8, cp8⟩ v9 ⟨tx9, cp9⟩ _ rfl _ ⟨r11, rfl, tx11, cp11⟩ _ rfl _ rfl v14 bx14 _ ⟨r15, rfl, tx15, cp15⟩
  simp only [Act.put, List.setIfInBounds_toArray, List.set_cons_succ, List.set_cons_zero]
  have hB6 := below_then HBA.out hB5
  have hR5 := HC1.out.grow hB5
  have q0 := hR5.c0
  have q1 := hR5.c1
  have q2 := hR5.c2
  have z0 := hR5.frozen 0
  have z1 := hR5.frozen 1
  have z2 := hR5.frozen 2
  dsimp only at q0 q1 q2
  have hne := hR5.lt
  obtain ⟨pr, nr, cr, rfl, hle, hnil⟩ := cp15
  have HX := Lib.hid tx15
  have HCP : Hid (CapOk (.slice pr nr cr)) := Lib.hid ⟨pr, nr, cr, rfl, hle, hnil⟩
  clear hle hnil
  refine ⟨_, by simp [go_sem, q0, q1, q2, z0, z1, z2]; rfl, ?_⟩
  clear k0 k1 k2
  go_wp2_with (fail)
  have hbe := ((hB6.setCell (p := ⟨w.heap.size + 1, 0, none⟩) (by dsimp only; omega) (.slice pr nr cr)).setCell (p := ⟨w.heap.size + 1, 1, none⟩) (by dsimp only; omega) (.int .i64 n0)).setCell (p := ⟨w.heap.size + 1, 2, none⟩) (by dsimp only; omega) (.int .i64 n1)
  refine bodyPost_ret (v := .agg #[.slice pr nr cr, .int .i64 n0, .int .i64 n1]) (by simp [results, Tryz.results27, go_sem, q0, q1, q2]) rfl ⟨_, rfl, ?_, HCP.out, hbe⟩
  exact tx_moff HX.out HTV.out hR5 _ _ _
set_option maxHeartbeats 16000000 in
theorem tadd_ok (u v : Value) (a0 a1 b0 b1 : Int) (l m : List Tm) (w : World) (hu : Tx w u l) (nu : ∀ t ∈ l, TV t ∧ Num t.1) (su : l.length ≤ 100) (hcu : CapOk u) (hv : Tx w v m) (nv : ∀ t ∈ m, TV t ∧ Num t.1) (sv : m.length ≤ 100) (hcv : CapOk v) (ha : VB2 (a0, a1)) (hb : VB2 (b0, b1)) :
    Calls Tryz.prog 17 #[.agg #[u, .int .i64 a0, .int .i64 a1], .agg #[v, .int .i64 b0, .int .i64 b1]] w fun e w' => ∃ r, e = .returned (.agg #[r, .int .i64 (addM (l, (a0, a1)) (m, (b0, b1))).2.1, .int .i64 (addM (l, (a0, a1)) (m, (b0, b1))).2.2]) ∧ Tx w' r (addM (l, (a0, a1)) (m, (b0, b1))).1 ∧ CapOk r ∧ Below w.heap.size w w' := by
  obtain ⟨pu, cu, rfl⟩ := hu.cut
  obtain ⟨pv, cv, rfl⟩ := hv.cut
  have hrv := merge_vb l m
  have HU := Lib.hid hu
  have HV := Lib.hid hv
  have mtv := merge_tv nu nv
  have mln := merge_len l m
  have s62 : ∀ {k : List Tm}, (∀ t ∈ k, TV t ∧ Num t.1) → ∀ t ∈ k, TV t ∧ Small62 t := fun h t ht => ⟨(h t ht).1, by have := (h t ht).2; unfold Num at this; unfold Small62; omega⟩
  have KT := Lib.hid (fun w h1 h2 => add_ok (.slice pu l.length cu) (.slice pv m.length cv) l m w h1 h2 hcu hcv (s62 nu) (s62 nv) mtv (by omega) (by omega))
  unfold addM
  dsimp only
  obtain ⟨⟨T, t0, t1⟩, hr⟩ : ∃ R, truncP (mergeP l m) 6 (0, 0) = R := ⟨_, rfl⟩
  rw [hr] at KT hrv ⊢
  dsimp only at KT hrv ⊢
  have hsv := addI2_vb ha hb
  have KA := Lib.hid (fun w => iv_add a0 a1 b0 b1 w ha hb)
  rw [show addI2 (a0, a1) (b0, b1) = (addLo a0 a1 b0 b1, addHi a0 a1 b0 b1) from rfl] at hsv ⊢
  obtain ⟨s0, h0⟩ : ∃ z, addLo a0 a1 b0 b1 = z := ⟨_, rfl⟩
  obtain ⟨s1, h1⟩ : ∃ z, addHi a0 a1 b0 b1 = z := ⟨_, rfl⟩
  rw [h0, h1] at KA hsv ⊢
  have KP := Lib.hid (fun (r v : Value) (w : World) h1 h2 h3 => tplus_ok r v t0 t1 T [(s0, s1)] w h1 h2 h3 hrv (by simpa using hsv))
  unfold foldA at KP
  simp only [List.foldl_cons, List.foldl_nil] at KP
  obtain ⟨⟨N, n0, n1⟩, hn⟩ : ∃ R, normM T (addI2 (t0, t1) (s0, s1)) = R := ⟨_, rfl⟩
  have hT : ∀ t ∈ T, TV t := fun t ht => truncP_tvY mtv t (by first | (rw [hr]; exact ht) | (unfold mulR at hr; rw [hr]; exact ht))
  have HTV : Hid (∀ t ∈ N, TV t) := Lib.hid (fun t ht => normM_tv hT t (by rw [hn]; exact ht))
  rw [hn] at KP ⊢
  dsimp only at KP ⊢
  have hba : Below w.heap.size w (((w.alloc (.cells #[(.slice pu l.length cu), .int .i64 a0, .int .i64 a1] 26)).alloc (.cells #[(.slice pv m.length cv), .int .i64 b0, .int .i64 b1] 26)).alloc (.cells #[.slice none 0 0, .int .i64 0, .int .i64 0] 26)) := ((((Below.refl _ _).alloc (Nat.le_refl _) _).alloc (by simp) _).alloc (by simp; omega) _)
  have hc0 : MoC (((w.alloc (.cells #[(.slice pu l.length cu), .int .i64 a0, .int .i64 a1] 26)).alloc (.cells #[(.slice pv m.length cv), .int .i64 b0, .int .i64 b1] 26)).alloc (.cells #[.slice none 0 0, .int .i64 0, .int .i64 0] 26)) (w.heap.size) ((.slice pu l.length cu)) (a0, a1) := by
    have e := MoC.new w (.slice pu l.length cu) a0 a1
    exact ((e.alloc _).alloc _)
  have hc1 : MoC (((w.alloc (.cells #[(.slice pu l.length cu), .int .i64 a0, .int .i64 a1] 26)).alloc (.cells #[(.slice pv m.length cv), .int .i64 b0, .int .i64 b1] 26)).alloc (.cells #[.slice none 0 0, .int .i64 0, .int .i64 0] 26)) (w.heap.size + 1) ((.slice pv m.length cv)) (b0, b1) := by
    have e := MoC.new (w.alloc (.cells #[(.slice pu l.length cu), .int .i64 a0, .int .i64 a1] 26)) (.slice pv m.length cv) b0 b1
    simp only [World.size_alloc] at e
    exact (e.alloc _)
  have hc2 : MoC (((w.alloc (.cells #[(.slice pu l.length cu), .int .i64 a0, .int .i64 a1] 26)).alloc (.cells #[(.slice pv m.length cv), .int .i64 b0, .int .i64 b1] 26)).alloc (.cells #[.slice none 0 0, .int .i64 0, .int .i64 0] 26)) (w.heap.size + 2) (.slice none 0 0) (0, 0) := by
    have e := MoC.new ((w.alloc (.cells #[(.slice pu l.length cu), .int .i64 a0, .int .i64 a1] 26)).alloc (.cells #[(.slice pv m.length cv), .int .i64 b0, .int .i64 b1] 26)) (.slice none 0 0) 0 0
    simp only [World.size_alloc] at e
    exact e
  have HC0 := Lib.hid hc0
  have HC1 := Lib.hid hc1
  have HC2 := Lib.hid hc2
  have HBA := Lib.hid hba
  clear hba hc0 hc1 hc2 hu nu su hv nv sv ha hb hrv hr hn mtv mln hsv h0 h1 s62 hT
  go_enter Tryz.func17, Tryz.ntmps17
  go_wp2_with (fail)
  generalize hW0 : World.alloc (World.alloc (World.alloc w _) _) _ = W0 at *
  clear hW0
  have k0 := fun g : Grown W0 => (HC0.out.grow g.h).c0
  have k1 := fun g : Grown W0 => (HC0.out.grow g.h).c1
  have k2 := fun g : Grown W0 => (HC0.out.grow g.h).c2
  dsimp only at k0 k1 k2
  have j0 := fun g : Grown W0 => (HC1.out.grow g.h).c0
  have j1 := fun g : Grown W0 => (HC1.out.grow g.h).c1
  have j2 := fun g : Grown W0 => (HC1.out.grow g.h).c2
  dsimp only at j0 j1 j2
  refine region_pred_l (lk [(5, fun z_ _ => z_ = .pointer (some ⟨w.heap.size, 0, none⟩)), (6, fun z_ _ => z_ = (.slice pu l.length cu)), (7, fun z_ _ => z_ = .pointer (some ⟨w.heap.size + 1, 0, none⟩)), (8, fun z_ _ => z_ = (.slice pv m.length cv)), (9, fun z_ w' => ∃ r, z_ = .tuple #[r, .agg #[.int .i64 t0, .int .i64 t1]] ∧ Tx w' r T ∧ CapOk r), (10, fun z_ w' => Tx w' z_ T ∧ CapOk z_), (11, fun z_ _ => z_ = .agg #[.int .i64 t0, .int .i64 t1]), (12, fun z_ w' => ∃ r, z_ = plusV r t0 t1 ∧ Tx w' r T ∧ CapOk r), (13, fun z_ _ => z_ = .pointer (some ⟨w.heap.size, 1, none⟩)), (14, fun z_ _ => z_ = .agg #[.int .i64 a0, .int .i64 a1]), (15, fun z_ _ => z_ = .pointer (some ⟨w.heap.size + 1, 1, none⟩)), (16, fun z_ _ => z_ = .agg #[.int .i64 b0, .int .i64 b1]), (17, fun z_ _ => z_ = .agg #[.int .i64 s0, .int .i64 s1]), (18, fun z_ w' => Bx w' z_ [(s0, s1)]), (19, fun z_ w' => ∃ r, z_ = .agg #[r, .int .i64 n0, .int .i64 n1] ∧ Tx w' r N ∧ CapOk r)]) 15 _ rfl (by kernel_rfl) (by kernel_rfl) (by kernel_rfl) (lk_steady _ ⟨steady_eq _, steady_eq _, steady_eq _, steady_eq _, fun u w1 w2 hb ⟨r, h1, h2, h3⟩ => ⟨r, h1, h2.grow hb, h3⟩, fun u w1 w2 hb ⟨h2, h3⟩ => ⟨h2.grow hb, h3⟩, steady_eq _, fun u w1 w2 hb ⟨r, h1, h2, h3⟩ => ⟨r, h1, h2.grow hb, h3⟩, steady_eq _, steady_eq _, steady_eq _, steady_eq _, steady_eq _, fun u w1 w2 hb h => h.grow hb, fun u w1 w2 hb ⟨r, h1, h2, h3⟩ => ⟨r, h1, h2.grow hb, h3⟩, trivial⟩) ?_ ?_
  · refine ⟨?_, ?_, ?_, ?_, ?_, ?_, ?_, ?_, ?_, ?_, ?_, ?_, ?_, ?_, ?_, ?_, trivial⟩
    · intro _
      refine ob_plain [2] rfl rfl fun aa g h => ?_
      have yy0 := seen_out (v := .pointer (some ⟨w.heap.size, 0, none⟩)) rfl rfl h.1
      have ee0 := getD_of yy0
      exact tupon_value (v := .pointer (some ⟨w.heap.size, 0, none⟩)) (by simp [go_sem, ee0, yy0]) (Below.refl _ _) rfl
    · intro _
      refine ob_plain [5] rfl rfl fun aa g h => ?_
      obtain ⟨_, yy0, rfl⟩ := seen_in rfl h.1
      have ee0 := getD_of yy0
      exact tupon_value (v := (.slice pu l.length cu)) (by simp [go_sem, ee0, yy0, k0 g]) (Below.refl _ _) rfl
    · intro _
      refine ob_plain [3] rfl rfl fun aa g h => ?_
      have yy0 := seen_out (v := .pointer (some ⟨w.heap.size + 1, 0, none⟩)) rfl rfl h.1
      have ee0 := getD_of yy0
      exact tupon_value (v := .pointer (some ⟨w.heap.size + 1, 0, none⟩)) (by simp [go_sem, ee0, yy0]) (Below.refl _ _) rfl
    · intro _
      refine ob_plain [7] rfl rfl fun aa g h => ?_
      obtain ⟨_, yy0, rfl⟩ := seen_in rfl h.1
      have ee0 := getD_of yy0
      exact tupon_value (v := (.slice pv m.length cv)) (by simp [go_sem, ee0, yy0, j0 g]) (Below.refl _ _) rfl
    · intro _
      refine ob_plain [6, 8] rfl rfl fun aa g h => ?_
      obtain ⟨_, yy0, rfl⟩ := seen_in rfl h.1
      have ee0 := getD_of yy0
      obtain ⟨_, yy1, rfl⟩ := seen_in rfl h.2.1
      have ee1 := getD_of yy1
      refine tupon_enter (f := 56) (args := #[(.slice pu l.length cu), (.slice pv m.length cv)]) (by simp [go_sem, ee0, yy0, ee1, yy1]) rfl ?_
      exact (KT.out g.w (HU.out.grow (below_then HBA.out g.h)) (HV.out.grow (below_then HBA.out g.h))).mono fun e w' ⟨r, he, hx, hn, hB⟩ => ⟨_, he, hB, ⟨r, rfl, hx, hn.1⟩⟩
    · intro _
      refine ob_plain [9] rfl rfl fun aa g h => ?_
      obtain ⟨_, yy0, ⟨r9, rfl, tx9, cp9⟩⟩ := seen_in rfl h.1
      have ee0 := getD_of yy0
      exact tupon_value (v := r9) (by simp [go_sem, ee0, yy0]) (Below.refl _ _) ⟨tx9, cp9⟩
    · intro _
      refine ob_plain [9] rfl rfl fun aa g h => ?_
      obtain ⟨_, yy0, ⟨r9, rfl, tx9, cp9⟩⟩ := seen_in rfl h.1
      have ee0 := getD_of yy0
      exact tupon_value (v := .agg #[.int .i64 t0, .int .i64 t1]) (by simp [go_sem, ee0, yy0]) (Below.refl _ _) rfl
    · intro _
      refine ob_plain [10, 11] rfl rfl fun aa g h => ?_
      obtain ⟨v10, yy0, ⟨tx10, cp10⟩⟩ := seen_in rfl h.1
      have ee0 := getD_of yy0
      obtain ⟨_, yy1, rfl⟩ := seen_in rfl h.2.1
      have ee1 := getD_of yy1
      refine tupon_enter (f := 55) (args := #[v10, .agg #[.int .i64 t0, .int .i64 t1]]) (by simp [go_sem, ee0, yy0, ee1, yy1]) rfl ?_
      exact (wr_ok v10 t0 t1 g.w cp10).mono fun e w' ⟨he, hB⟩ => ⟨_, he, hB, ⟨_, rfl, tx10.grow hB, cp10⟩⟩
    · intro _
      refine ob_plain [2] rfl rfl fun aa g h => ?_
      have yy0 := seen_out (v := .pointer (some ⟨w.heap.size, 0, none⟩)) rfl rfl h.1
      have ee0 := getD_of yy0
      exact tupon_value (v := .pointer (some ⟨w.heap.size, 1, none⟩)) (by simp [go_sem, ee0, yy0]) (Below.refl _ _) rfl
    · intro _
      refine ob_plain [13] rfl rfl fun aa g h => ?_
      obtain ⟨_, yy0, rfl⟩ := seen_in rfl h.1
      have ee0 := getD_of yy0
      exact tupon_value (v := .agg #[.int .i64 a0, .int .i64 a1]) (by simp [go_sem, ee0, yy0, k1 g, k2 g]) (Below.refl _ _) rfl
    · intro _
      refine ob_plain [3] rfl rfl fun aa g h => ?_
      have yy0 := seen_out (v := .pointer (some ⟨w.heap.size + 1, 0, none⟩)) rfl rfl h.1
      have ee0 := getD_of yy0
      exact tupon_value (v := .pointer (some ⟨w.heap.size + 1, 1, none⟩)) (by simp [go_sem, ee0, yy0]) (Below.refl _ _) rfl
    · intro _
      refine ob_plain [15] rfl rfl fun aa g h => ?_
      obtain ⟨_, yy0, rfl⟩ := seen_in rfl h.1
      have ee0 := getD_of yy0
      exact tupon_value (v := .agg #[.int .i64 b0, .int .i64 b1]) (by simp [go_sem, ee0, yy0, j1 g, j2 g]) (Below.refl _ _) rfl
    · intro _
      refine ob_plain [14, 16] rfl rfl fun aa g h => ?_
      obtain ⟨_, yy0, rfl⟩ := seen_in rfl h.1
      have ee0 := getD_of yy0
      obtain ⟨_, yy1, rfl⟩ := seen_in rfl h.2.1
      have ee1 := getD_of yy1
      refine tupon_enter (f := 57) (args := #[.agg #[.int .i64 a0, .int .i64 a1], .agg #[.int .i64 b0, .int .i64 b1]]) (by simp [go_sem, ee0, yy0, ee1, yy1]) rfl ?_
      exact (KA.out g.w).mono fun e w' ⟨he, hB⟩ => ⟨_, he, hB, rfl⟩
    · intro _
      refine ob_plain [17] rfl rfl fun aa g h => ?_
      obtain ⟨_, yy0, rfl⟩ := seen_in rfl h.1
      have ee0 := getD_of yy0
      exact tupon_value (v := .slice (some ⟨g.w.heap.size, 0, none⟩) 1 1) (w1 := g.w.alloc (.cells #[.int .i64 s0, .int .i64 s1] 24)) (by simp [go_sem, ee0, yy0]) ((Below.refl _ _).alloc (Nat.le_refl _) _) (bx_l1 _ _ _ )
    · intro _
      refine ob_plain [12, 18] rfl rfl fun aa g h => ?_
      obtain ⟨_, yy0, ⟨r12, rfl, tx12, cp12⟩⟩ := seen_in rfl h.1
      have ee0 := getD_of yy0
      obtain ⟨v18, yy1, bx18⟩ := seen_in rfl h.2.1
      have ee1 := getD_of yy1
      refine tupon_enter (f := 96) (args := #[.agg #[r12, .int .i64 t0, .int .i64 t1], v18]) (by simp [go_sem, ee0, yy0, ee1, yy1, plusV]) rfl ?_
      exact (KP.out r12 v18 g.w tx12 cp12 bx18).mono fun e w' ⟨r, he, hx, hc, hB⟩ => ⟨_, he, hB, ⟨r, rfl, hx, hc⟩⟩
    · exact fun h => absurd rfl h
  rintro w5 hB5 _ rfl _ rfl _ rfl _ rfl _ ⟨r9, rfl, tx9, cp9⟩ v10 ⟨tx10, cp10⟩ _ rfl _ ⟨r12, rfl, tx12, cp12⟩ _ rfl _ rfl _ rfl _ rfl _ rfl v18 bx18 _ ⟨r19, rfl, tx19, cp19⟩
  simp only [Act.put, List.setIfInBounds_toArray, List.set_cons_succ, List.set_cons_zero]
  have hB6 := below_then HBA.out hB5
  have hR5 := HC2.out.grow hB5
  have q0 := hR5.c0
  have q1 := hR5.c1
  have q2 := hR5.c2
  have z0 := hR5.frozen 0
  have z1 := hR5.frozen 1
  have z2 := hR5.frozen 2
  dsimp only at q0 q1 q2
  have hne := hR5.lt
  obtain ⟨pr, nr, cr, rfl, hle, hnil⟩ := cp19
  have HX := Lib.hid tx19
  have HCP : Hid (CapOk (.slice pr nr cr)) := Lib.hid ⟨pr, nr, cr, rfl, hle, hnil⟩
  clear hle hnil
  refine ⟨_, by simp [go_sem, q0, q1, q2, z0, z1, z2]; rfl, ?_⟩
  clear k0 k1 k2 j0 j1 j2
  go_wp2_with (fail)
  have hbe := ((hB6.setCell (p := ⟨w.heap.size + 2, 0, none⟩) (by dsimp only; omega) (.slice pr nr cr)).setCell (p := ⟨w.heap.size + 2, 1, none⟩) (by dsimp only; omega) (.int .i64 n0)).setCell (p := ⟨w.heap.size + 2, 2, none⟩) (by dsimp only; omega) (.int .i64 n1)
  refine bodyPost_ret (v := .agg #[.slice pr nr cr, .int .i64 n0, .int .i64 n1]) (by simp [results, Tryz.results17, go_sem, q0, q1, q2]) rfl ⟨_, rfl, ?_, HCP.out, hbe⟩
  exact tx_moff HX.out HTV.out hR5 _ _ _
set_option maxHeartbeats 32000000 in
theorem tmul_ok (u v : Value) (a0 a1 b0 b1 deg : Int) (l m : List Tm) (w : World) (hu : Tx w u l) (nu : ∀ t ∈ l, TV t ∧ Num t.1) (su : l.length ≤ 100) (hv : Tx w v m) (nv : ∀ t ∈ m, TV t ∧ Num t.1) (sv : m.length ≤ 100) (ha : VB2 (a0, a1)) (hb : VB2 (b0, b1)) :
    Calls Tryz.prog 23 #[.agg #[u, .int .i64 a0, .int .i64 a1], .agg #[v, .int .i64 b0, .int .i64 b1], .int .i64 deg] w fun e w' => ∃ r, e = .returned (.agg #[r, .int .i64 (mulM (l, (a0, a1)) (m, (b0, b1)) deg).2.1, .int .i64 (mulM (l, (a0, a1)) (m, (b0, b1)) deg).2.2]) ∧ Tx w' r (mulM (l, (a0, a1)) (m, (b0, b1)) deg).1 ∧ CapOk r ∧ Below w.heap.size w w' := by
  obtain ⟨pu, cu, rfl⟩ := hu.cut
  obtain ⟨pv, cv, rfl⟩ := hv.cut
  have hrv := mulR_vb l m deg
  have HU := Lib.hid hu
  have HV := Lib.hid hv
  have KT := Lib.hid (fun w h1 h2 => mul_ok (.slice pu l.length cu) (.slice pv m.length cv) l m deg w h1 h2 nu nv (Nat.le_trans (Nat.mul_le_mul su sv) (by decide)))
  have KL := Lib.hid (fun w h => range_ok (.slice pu l.length cu) l w h nu (by omega))
  have KM := Lib.hid (fun w h => range_ok (.slice pv m.length cv) m w h nv (by omega))
  have hlv := rng_vb (l := l) fun t ht => (nu t ht).2
  have hmv := rng_vb (l := m) fun t ht => (nv t ht).2
  unfold mulM
  unfold rngP at hlv hmv ⊢
  dsimp only
  obtain ⟨⟨T, t0, t1⟩, hr⟩ : ∃ R, mulR l m deg = R := ⟨_, rfl⟩
  rw [hr] at KT hrv ⊢
  obtain ⟨⟨l0, l1⟩, hl⟩ : ∃ R, newR (sumR l) = R := ⟨_, rfl⟩
  rw [hl] at KL hlv ⊢
  obtain ⟨⟨m0, m1⟩, hm⟩ : ∃ R, newR (sumR m) = R := ⟨_, rfl⟩
  rw [hm] at KM hmv ⊢
  dsimp only at KT hrv KL KM ⊢
  have v1 := mulI2_vb (l0, l1) (b0, b1)
  have v2 := mulI2_vb (m0, m1) (a0, a1)
  have v3 := mulI2_vb (a0, a1) (b0, b1)
  have K1 := Lib.hid (fun w => iv_mul l0 l1 b0 b1 w hlv hb)
  have K2 := Lib.hid (fun w => iv_mul m0 m1 a0 a1 w hmv ha)
  have K3 := Lib.hid (fun w => iv_mul a0 a1 b0 b1 w ha hb)
  unfold mulI2 at v1 v2 v3 ⊢
  dsimp only at v1 v2 v3 ⊢
  obtain ⟨x0, h0⟩ : ∃ z, mulLo l0 l1 b0 b1 = z := ⟨_, rfl⟩
  obtain ⟨x1, h1⟩ : ∃ z, mulHi l0 l1 b0 b1 = z := ⟨_, rfl⟩
  obtain ⟨y0, h2⟩ : ∃ z, mulLo m0 m1 a0 a1 = z := ⟨_, rfl⟩
  obtain ⟨y1, h3⟩ : ∃ z, mulHi m0 m1 a0 a1 = z := ⟨_, rfl⟩
  obtain ⟨z0, h4⟩ : ∃ z, mulLo a0 a1 b0 b1 = z := ⟨_, rfl⟩
  obtain ⟨z1, h5⟩ : ∃ z, mulHi a0 a1 b0 b1 = z := ⟨_, rfl⟩
  rw [h0, h1] at K1 v1
  rw [h2, h3] at K2 v2
  rw [h4, h5] at K3 v3
  rw [h0, h1, h2, h3, h4, h5]
  have KP := Lib.hid (fun (r v : Value) (w : World) h1 h2 h3 => tplus_ok r v t0 t1 T [(x0, x1), (y0, y1), (z0, z1)] w h1 h2 h3 hrv (by
    intro q hq
    simp only [List.mem_cons, List.not_mem_nil, or_false] at hq
    rcases hq with rfl | rfl | rfl
    · exact v1
    · exact v2
    · exact v3))
  unfold foldA at KP
  simp only [List.foldl_cons, List.foldl_nil] at KP
  obtain ⟨⟨N, n0, n1⟩, hn⟩ : ∃ R, normM T (addI2 (addI2 (addI2 (t0, t1) (x0, x1)) (y0, y1)) (z0, z1)) = R := ⟨_, rfl⟩
  have hT : ∀ t ∈ T, TV t := fun t ht => truncP_tvY (mulP_tv nu nv (Nat.le_trans (Nat.mul_le_mul su sv) (by decide))) t (by first | (rw [hr]; exact ht) | (unfold mulR at hr; rw [hr]; exact ht))
  have HTV : Hid (∀ t ∈ N, TV t) := Lib.hid (fun t ht => normM_tv hT t (by rw [hn]; exact ht))
  rw [hn] at KP ⊢
  dsimp only at KP ⊢
  have hba : Below w.heap.size w (((w.alloc (.cells #[(.slice pu l.length cu), .int .i64 a0, .int .i64 a1] 26)).alloc (.cells #[(.slice pv m.length cv), .int .i64 b0, .int .i64 b1] 26)).alloc (.cells #[.slice none 0 0, .int .i64 0, .int .i64 0] 26)) := ((((Below.refl _ _).alloc (Nat.le_refl _) _).alloc (by simp) _).alloc (by simp; omega) _)
  have hc0 : MoC (((w.alloc (.cells #[(.slice pu l.length cu), .int .i64 a0, .int .i64 a1] 26)).alloc (.cells #[(.slice pv m.length cv), .int .i64 b0, .int .i64 b1] 26)).alloc (.cells #[.slice none 0 0, .int .i64 0, .int .i64 0] 26)) (w.heap.size) ((.slice pu l.length cu)) (a0, a1) := by
    have e := MoC.new w (.slice pu l.length cu) a0 a1
    exact ((e.alloc _).alloc _)
  have hc1 : MoC (((w.alloc (.cells #[(.slice pu l.length cu), .int .i64 a0, .int .i64 a1] 26)).alloc (.cells #[(.slice pv m.length cv), .int .i64 b0, .int .i64 b1] 26)).alloc (.cells #[.slice none 0 0, .int .i64 0, .int .i64 0] 26)) (w.heap.size + 1) ((.slice pv m.length cv)) (b0, b1) := by
    have e := MoC.new (w.alloc (.cells #[(.slice pu l.length cu), .int .i64 a0, .int .i64 a1] 26)) (.slice pv m.length cv) b0 b1
    simp only [World.size_alloc] at e
    exact (e.alloc _)
  have hc2 : MoC (((w.alloc (.cells #[(.slice pu l.length cu), .int .i64 a0, .int .i64 a1] 26)).alloc (.cells #[(.slice pv m.length cv), .int .i64 b0, .int .i64 b1] 26)).alloc (.cells #[.slice none 0 0, .int .i64 0, .int .i64 0] 26)) (w.heap.size + 2) (.slice none 0 0) (0, 0) := by
    have e := MoC.new ((w.alloc (.cells #[(.slice pu l.length cu), .int .i64 a0, .int .i64 a1] 26)).alloc (.cells #[(.slice pv m.length cv), .int .i64 b0, .int .i64 b1] 26)) (.slice none 0 0) 0 0
    simp only [World.size_alloc] at e
    exact e
  have HC0 := Lib.hid hc0
  have HC1 := Lib.hid hc1
  have HC2 := Lib.hid hc2
  have HBA := Lib.hid hba
  clear hba hc0 hc1 hc2 hu nu su hv nv sv ha hb hrv hr hn hlv hmv hl hm v1 v2 v3 h0 h1 h2 h3 h4 h5 hT
  go_enter Tryz.func23, Tryz.ntmps23
  go_wp2_with (fail)
  generalize hW0 : World.alloc (World.alloc (World.alloc w _) _) _ = W0 at *
  clear hW0
  have k0 := fun g : Grown W0 => (HC0.out.grow g.h).c0
  have k1 := fun g : Grown W0 => (HC0.out.grow g.h).c1
  have k2 := fun g : Grown W0 => (HC0.out.grow g.h).c2
  dsimp only at k0 k1 k2
  have j0 := fun g : Grown W0 => (HC1.out.grow g.h).c0
  have j1 := fun g : Grown W0 => (HC1.out.grow g.h).c1
  have j2 := fun g : Grown W0 => (HC1.out.grow g.h).c2
  dsimp only at j0 j1 j2
  refine region_pred_l (lk [(7, fun z_ _ => z_ = .pointer (some ⟨w.heap.size, 0, none⟩)), (8, fun z_ _ => z_ = (.slice pu l.length cu)), (9, fun z_ _ => z_ = .pointer (some ⟨w.heap.size + 1, 0, none⟩)), (10, fun z_ _ => z_ = (.slice pv m.length cv)), (11, fun z_ _ => z_ = .int .i64 deg), (12, fun z_ w' => ∃ r, z_ = .tuple #[r, .agg #[.int .i64 t0, .int .i64 t1]] ∧ Tx w' r T ∧ CapOk r), (13, fun z_ w' => Tx w' z_ T ∧ CapOk z_), (14, fun z_ _ => z_ = .agg #[.int .i64 t0, .int .i64 t1]), (15, fun z_ w' => ∃ r, z_ = plusV r t0 t1 ∧ Tx w' r T ∧ CapOk r), (16, fun z_ _ => z_ = .pointer (some ⟨w.heap.size, 0, none⟩)), (17, fun z_ _ => z_ = (.slice pu l.length cu)), (18, fun z_ _ => z_ = .agg #[.int .i64 l0, .int .i64 l1]), (19, fun z_ _ => z_ = .pointer (some ⟨w.heap.size + 1, 1, none⟩)), (20, fun z_ _ => z_ = .agg #[.int .i64 b0, .int .i64 b1]), (21, fun z_ _ => z_ = .agg #[.int .i64 x0, .int .i64 x1]), (22, fun z_ _ => z_ = .pointer (some ⟨w.heap.size + 1, 0, none⟩)), (23, fun z_ _ => z_ = (.slice pv m.length cv)), (24, fun z_ _ => z_ = .agg #[.int .i64 m0, .int .i64 m1]), (25, fun z_ _ => z_ = .pointer (some ⟨w.heap.size, 1, none⟩)), (26, fun z_ _ => z_ = .agg #[.int .i64 a0, .int .i64 a1]), (27, fun z_ _ => z_ = .agg #[.int .i64 y0, .int .i64 y1]), (28, fun z_ _ => z_ = .pointer (some ⟨w.heap.size, 1, none⟩)), (29, fun z_ _ => z_ = .agg #[.int .i64 a0, .int .i64 a1]), (30, fun z_ _ => z_ = .pointer (some ⟨w.heap.size + 1, 1, none⟩)), (31, fun z_ _ => z_ = .agg #[.int .i64 b0, .int .i64 b1]), (32, fun z_ _ => z_ = .agg #[.int .i64 z0, .int .i64 z1]), (33, fun z_ w' => Bx w' z_ [(x0, x1), (y0, y1), (z0, z1)]), (34, fun z_ w' => ∃ r, z_ = .agg #[r, .int .i64 n0, .int .i64 n1] ∧ Tx w' r N ∧ CapOk r)]) 28 _ rfl (by kernel_rfl) (by kernel_rfl) (by kernel_rfl) (lk_steady _ ⟨steady_eq _, steady_eq _, steady_eq _, steady_eq _, steady_eq _, fun u w1 w2 hb ⟨r, h1, h2, h3⟩ => ⟨r, h1, h2.grow hb, h3⟩, fun u w1 w2 hb ⟨h2, h3⟩ => ⟨h2.grow hb, h3⟩, steady_eq _, fun u w1 w2 hb ⟨r, h1, h2, h3⟩ => ⟨r, h1, h2.grow hb, h3⟩, steady_eq _, steady_eq _, steady_eq _, steady_eq _, steady_eq _, steady_eq _, steady_eq _, steady_eq _, steady_eq _, steady_eq _, steady_eq _, steady_eq _, steady_eq _, steady_eq _, steady_eq _, steady_eq _, steady_eq _, fun u w1 w2 hb h => h.grow hb, fun u w1 w2 hb ⟨r, h1, h2, h3⟩ => ⟨r, h1, h2.grow hb, h3⟩, trivial⟩) ?_ ?_
  · refine ⟨?_, ?_, ?_, ?_, ?_, ?_, ?_, ?_, ?_, ?_, ?_, ?_, ?_, ?_, ?_, ?_, ?_, ?_, ?_, ?_, ?_, ?_, ?_, ?_, ?_, ?_, ?_, ?_, ?_, trivial⟩
    · intro _
      refine ob_plain [3] rfl rfl fun aa g h => ?_
      have yy0 := seen_out (v := .pointer (some ⟨w.heap.size, 0, none⟩)) rfl rfl h.1
      have ee0 := getD_of yy0
      exact tupon_value (v := .pointer (some ⟨w.heap.size, 0, none⟩)) (by simp [go_sem, ee0, yy0]) (Below.refl _ _) rfl
    · intro _
      refine ob_plain [7] rfl rfl fun aa g h => ?_
      obtain ⟨_, yy0, rfl⟩ := seen_in rfl h.1
      have ee0 := getD_of yy0
      exact tupon_value (v := (.slice pu l.length cu)) (by simp [go_sem, ee0, yy0, k0 g]) (Below.refl _ _) rfl
    · intro _
      refine ob_plain [4] rfl rfl fun aa g h => ?_
      have yy0 := seen_out (v := .pointer (some ⟨w.heap.size + 1, 0, none⟩)) rfl rfl h.1
      have ee0 := getD_of yy0
      exact tupon_value (v := .pointer (some ⟨w.heap.size + 1, 0, none⟩)) (by simp [go_sem, ee0, yy0]) (Below.refl _ _) rfl
    · intro _
      refine ob_plain [9] rfl rfl fun aa g h => ?_
      obtain ⟨_, yy0, rfl⟩ := seen_in rfl h.1
      have ee0 := getD_of yy0
      exact tupon_value (v := (.slice pv m.length cv)) (by simp [go_sem, ee0, yy0, j0 g]) (Below.refl _ _) rfl
    · intro _
      refine ob_plain [2] rfl rfl fun aa g h => ?_
      have yy0 := seen_out (v := .int .i64 deg) rfl rfl h.1
      have ee0 := getD_of yy0
      exact tupon_value (v := .int .i64 deg) (by simp [go_sem, ee0, yy0]) (Below.refl _ _) rfl
    · intro _
      refine ob_plain [8, 10, 11] rfl rfl fun aa g h => ?_
      obtain ⟨_, yy0, rfl⟩ := seen_in rfl h.1
      have ee0 := getD_of yy0
      obtain ⟨_, yy1, rfl⟩ := seen_in rfl h.2.1
      have ee1 := getD_of yy1
      obtain ⟨_, yy2, rfl⟩ := seen_in rfl h.2.2.1
      have ee2 := getD_of yy2
      refine tupon_enter (f := 64) (args := #[(.slice pu l.length cu), (.slice pv m.length cv), .int .i64 deg]) (by simp [go_sem, ee0, yy0, ee1, yy1, ee2, yy2]) rfl ?_
      exact (KT.out g.w (HU.out.grow (below_then HBA.out g.h)) (HV.out.grow (below_then HBA.out g.h))).mono fun e w' ⟨r, he, hx, hn, hB⟩ => ⟨_, he, hB, ⟨r, rfl, hx, hn.1⟩⟩
    · intro _
      refine ob_plain [12] rfl rfl fun aa g h => ?_
      obtain ⟨_, yy0, ⟨r12, rfl, tx12, cp12⟩⟩ := seen_in rfl h.1
      have ee0 := getD_of yy0
      exact tupon_value (v := r12) (by simp [go_sem, ee0, yy0]) (Below.refl _ _) ⟨tx12, cp12⟩
    · intro _
      refine ob_plain [12] rfl rfl fun aa g h => ?_
      obtain ⟨_, yy0, ⟨r12, rfl, tx12, cp12⟩⟩ := seen_in rfl h.1
      have ee0 := getD_of yy0
      exact tupon_value (v := .agg #[.int .i64 t0, .int .i64 t1]) (by simp [go_sem, ee0, yy0]) (Below.refl _ _) rfl
    · intro _
      refine ob_plain [13, 14] rfl rfl fun aa g h => ?_
      obtain ⟨v13, yy0, ⟨tx13, cp13⟩⟩ := seen_in rfl h.1
      have ee0 := getD_of yy0
      obtain ⟨_, yy1, rfl⟩ := seen_in rfl h.2.1
      have ee1 := getD_of yy1
      refine tupon_enter (f := 55) (args := #[v13, .agg #[.int .i64 t0, .int .i64 t1]]) (by simp [go_sem, ee0, yy0, ee1, yy1]) rfl ?_
      exact (wr_ok v13 t0 t1 g.w cp13).mono fun e w' ⟨he, hB⟩ => ⟨_, he, hB, ⟨_, rfl, tx13.grow hB, cp13⟩⟩
    · intro _
      refine ob_plain [3] rfl rfl fun aa g h => ?_
      have yy0 := seen_out (v := .pointer (some ⟨w.heap.size, 0, none⟩)) rfl rfl h.1
      have ee0 := getD_of yy0
      exact tupon_value (v := .pointer (some ⟨w.heap.size, 0, none⟩)) (by simp [go_sem, ee0, yy0]) (Below.refl _ _) rfl
    · intro _
      refine ob_plain [16] rfl rfl fun aa g h => ?_
      obtain ⟨_, yy0, rfl⟩ := seen_in rfl h.1
      have ee0 := getD_of yy0
      exact tupon_value (v := (.slice pu l.length cu)) (by simp [go_sem, ee0, yy0, k0 g]) (Below.refl _ _) rfl
    · intro _
      refine ob_plain [17] rfl rfl fun aa g h => ?_
      obtain ⟨_, yy0, rfl⟩ := seen_in rfl h.1
      have ee0 := getD_of yy0
      refine tupon_enter (f := 66) (args := #[(.slice pu l.length cu)]) (by simp [go_sem, ee0, yy0]) rfl ?_
      exact (KL.out g.w (HU.out.grow (below_then HBA.out g.h))).mono fun e w' ⟨he, hB⟩ => ⟨_, he, hB, rfl⟩
    · intro _
      refine ob_plain [4] rfl rfl fun aa g h => ?_
      have yy0 := seen_out (v := .pointer (some ⟨w.heap.size + 1, 0, none⟩)) rfl rfl h.1
      have ee0 := getD_of yy0
      exact tupon_value (v := .pointer (some ⟨w.heap.size + 1, 1, none⟩)) (by simp [go_sem, ee0, yy0]) (Below.refl _ _) rfl
    · intro _
      refine ob_plain [19] rfl rfl fun aa g h => ?_
      obtain ⟨_, yy0, rfl⟩ := seen_in rfl h.1
      have ee0 := getD_of yy0
      exact tupon_value (v := .agg #[.int .i64 b0, .int .i64 b1]) (by simp [go_sem, ee0, yy0, j1 g, j2 g]) (Below.refl _ _) rfl
    · intro _
      refine ob_plain [18, 20] rfl rfl fun aa g h => ?_
      obtain ⟨_, yy0, rfl⟩ := seen_in rfl h.1
      have ee0 := getD_of yy0
      obtain ⟨_, yy1, rfl⟩ := seen_in rfl h.2.1
      have ee1 := getD_of yy1
      refine tupon_enter (f := 65) (args := #[.agg #[.int .i64 l0, .int .i64 l1], .agg #[.int .i64 b0, .int .i64 b1]]) (by simp [go_sem, ee0, yy0, ee1, yy1]) rfl ?_
      exact (K1.out g.w).mono fun e w' ⟨he, hB⟩ => ⟨_, he, hB, rfl⟩
    · intro _
      refine ob_plain [4] rfl rfl fun aa g h => ?_
      have yy0 := seen_out (v := .pointer (some ⟨w.heap.size + 1, 0, none⟩)) rfl rfl h.1
      have ee0 := getD_of yy0
      exact tupon_value (v := .pointer (some ⟨w.heap.size + 1, 0, none⟩)) (by simp [go_sem, ee0, yy0]) (Below.refl _ _) rfl
    · intro _
      refine ob_plain [22] rfl rfl fun aa g h => ?_
      obtain ⟨_, yy0, rfl⟩ := seen_in rfl h.1
      have ee0 := getD_of yy0
      exact tupon_value (v := (.slice pv m.length cv)) (by simp [go_sem, ee0, yy0, j0 g]) (Below.refl _ _) rfl
    · intro _
      refine ob_plain [23] rfl rfl fun aa g h => ?_
      obtain ⟨_, yy0, rfl⟩ := seen_in rfl h.1
      have ee0 := getD_of yy0
      refine tupon_enter (f := 66) (args := #[(.slice pv m.length cv)]) (by simp [go_sem, ee0, yy0]) rfl ?_
      exact (KM.out g.w (HV.out.grow (below_then HBA.out g.h))).mono fun e w' ⟨he, hB⟩ => ⟨_, he, hB, rfl⟩
    · intro _
      refine ob_plain [3] rfl rfl fun aa g h => ?_
      have yy0 := seen_out (v := .pointer (some ⟨w.heap.size, 0, none⟩)) rfl rfl h.1
      have ee0 := getD_of yy0
      exact tupon_value (v := .pointer (some ⟨w.heap.size, 1, none⟩)) (by simp [go_sem, ee0, yy0]) (Below.refl _ _) rfl
    · intro _
      refine ob_plain [25] rfl rfl fun aa g h => ?_
      obtain ⟨_, yy0, rfl⟩ := seen_in rfl h.1
      have ee0 := getD_of yy0
      exact tupon_value (v := .agg #[.int .i64 a0, .int .i64 a1]) (by simp [go_sem, ee0, yy0, k1 g, k2 g]) (Below.refl _ _) rfl
    · intro _
      refine ob_plain [24, 26] rfl rfl fun aa g h => ?_
      obtain ⟨_, yy0, rfl⟩ := seen_in rfl h.1
      have ee0 := getD_of yy0
      obtain ⟨_, yy1, rfl⟩ := seen_in rfl h.2.1
      have ee1 := getD_of yy1
      refine tupon_enter (f := 65) (args := #[.agg #[.int .i64 m0, .int .i64 m1], .agg #[.int .i64 a0, .int .i64 a1]]) (by simp [go_sem, ee0, yy0, ee1, yy1]) rfl ?_
      exact (K2.out g.w).mono fun e w' ⟨he, hB⟩ => ⟨_, he, hB, rfl⟩
    · intro _
      refine ob_plain [3] rfl rfl fun aa g h => ?_
      have yy0 := seen_out (v := .pointer (some ⟨w.heap.size, 0, none⟩)) rfl rfl h.1
      have ee0 := getD_of yy0
      exact tupon_value (v := .pointer (some ⟨w.heap.size, 1, none⟩)) (by simp [go_sem, ee0, yy0]) (Below.refl _ _) rfl
    · intro _
      refine ob_plain [28] rfl rfl fun aa g h => ?_
      obtain ⟨_, yy0, rfl⟩ := seen_in rfl h.1
      have ee0 := getD_of yy0
      exact tupon_value (v := .agg #[.int .i64 a0, .int .i64 a1]) (by simp [go_sem, ee0, yy0, k1 g, k2 g]) (Below.refl _ _) rfl
    · intro _
      refine ob_plain [4] rfl rfl fun aa g h => ?_
      have yy0 := seen_out (v := .pointer (some ⟨w.heap.size + 1, 0, none⟩)) rfl rfl h.1
      have ee0 := getD_of yy0
      exact tupon_value (v := .pointer (some ⟨w.heap.size + 1, 1, none⟩)) (by simp [go_sem, ee0, yy0]) (Below.refl _ _) rfl
    · intro _
      refine ob_plain [30] rfl rfl fun aa g h => ?_
      obtain ⟨_, yy0, rfl⟩ := seen_in rfl h.1
      have ee0 := getD_of yy0
      exact tupon_value (v := .agg #[.int .i64 b0, .int .i64 b1]) (by simp [go_sem, ee0, yy0, j1 g, j2 g]) (Below.refl _ _) rfl
    · intro _
      refine ob_plain [29, 31] rfl rfl fun aa g h => ?_
      obtain ⟨_, yy0, rfl⟩ := seen_in rfl h.1
      have ee0 := getD_of yy0
      obtain ⟨_, yy1, rfl⟩ := seen_in rfl h.2.1
      have ee1 := getD_of yy1
      refine tupon_enter (f := 65) (args := #[.agg #[.int .i64 a0, .int .i64 a1], .agg #[.int .i64 b0, .int .i64 b1]]) (by simp [go_sem, ee0, yy0, ee1, yy1]) rfl ?_
      exact (K3.out g.w).mono fun e w' ⟨he, hB⟩ => ⟨_, he, hB, rfl⟩
    · intro _
      refine ob_plain [21, 27, 32] rfl rfl fun aa g h => ?_
      obtain ⟨_, yy0, rfl⟩ := seen_in rfl h.1
      have ee0 := getD_of yy0
      obtain ⟨_, yy1, rfl⟩ := seen_in rfl h.2.1
      have ee1 := getD_of yy1
      obtain ⟨_, yy2, rfl⟩ := seen_in rfl h.2.2.1
      have ee2 := getD_of yy2
      exact tupon_value (v := .slice (some ⟨g.w.heap.size, 0, none⟩) 3 3) (w1 := g.w.alloc (.cells #[.int .i64 x0, .int .i64 x1, .int .i64 y0, .int .i64 y1, .int .i64 z0, .int .i64 z1] 24)) (by simp [go_sem, ee0, yy0, ee1, yy1, ee2, yy2]) ((Below.refl _ _).alloc (Nat.le_refl _) _) (bx_l3 _ _ _ _ _ _ _ )
    · intro _
      refine ob_plain [15, 33] rfl rfl fun aa g h => ?_
      obtain ⟨_, yy0, ⟨r15, rfl, tx15, cp15⟩⟩ := seen_in rfl h.1
      have ee0 := getD_of yy0
      obtain ⟨v33, yy1, bx33⟩ := seen_in rfl h.2.1
      have ee1 := getD_of yy1
      refine tupon_enter (f := 96) (args := #[.agg #[r15, .int .i64 t0, .int .i64 t1], v33]) (by simp [go_sem, ee0, yy0, ee1, yy1, plusV]) rfl ?_
      exact (KP.out r15 v33 g.w tx15 cp15 bx33).mono fun e w' ⟨r, he, hx, hc, hB⟩ => ⟨_, he, hB, ⟨r, rfl, hx, hc⟩⟩
    · exact fun h => absurd rfl h
  rintro w5 hB5 _ rfl _ rfl _ rfl _ rfl _ rfl _ ⟨r12, rfl, tx12, cp12⟩ v13 ⟨tx13, cp13⟩ _ rfl _ ⟨r15, rfl, tx15, cp15⟩ _ rfl _ rfl _ rfl _ rfl _ rfl _ rfl _ rfl _ rfl _ rfl _ rfl _ rfl _ rfl _ rfl _ rfl _ rfl _ rfl _ rfl v33 bx33 _ ⟨r34, rfl, tx34, cp34⟩
  simp only [Act.put, List.setIfInBounds_toArray, List.set_cons_succ, List.set_cons_zero]
  have hB6 := below_then HBA.out hB5
  have hR5 := HC2.out.grow hB5
  have q0 := hR5.c0
  have q1 := hR5.c1
  have q2 := hR5.c2
  have z0 := hR5.frozen 0
  have z1 := hR5.frozen 1
  have z2 := hR5.frozen 2
  dsimp only at q0 q1 q2
  have hne := hR5.lt
  obtain ⟨pr, nr, cr, rfl, hle, hnil⟩ := cp34
  have HX := Lib.hid tx34
  have HCP : Hid (CapOk (.slice pr nr cr)) := Lib.hid ⟨pr, nr, cr, rfl, hle, hnil⟩
  clear hle hnil
  refine ⟨_, by simp [go_sem, q0, q1, q2, z0, z1, z2]; rfl, ?_⟩
  clear k0 k1 k2 j0 j1 j2
  go_wp2_with (fail)
  have hbe := ((hB6.setCell (p := ⟨w.heap.size + 2, 0, none⟩) (by dsimp only; omega) (.slice pr nr cr)).setCell (p := ⟨w.heap.size + 2, 1, none⟩) (by dsimp only; omega) (.int .i64 n0)).setCell (p := ⟨w.heap.size + 2, 2, none⟩) (by dsimp only; omega) (.int .i64 n1)
  refine bodyPost_ret (v := .agg #[.slice pr nr cr, .int .i64 n0, .int .i64 n1]) (by simp [results, Tryz.results23, go_sem, q0, q1, q2]) rfl ⟨_, rfl, ?_, HCP.out, hbe⟩
  exact tx_moff HX.out HTV.out hR5 _ _ _
end Go.Proofs.YtbfhmbadgbackaaGreat
