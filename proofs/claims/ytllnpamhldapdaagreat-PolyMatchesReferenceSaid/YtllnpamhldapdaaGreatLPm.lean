/-
  The law PolyMatchesReference.
-/
import Derived.Test.YtllnpamhldapdaaGreatRz6
import Derived.Test.YtllnpamhldapdaaGreatRz1
import Derived.Test.YtllnpamhldapdaaGreatRzM
import Derived.Test.YtllnpamhldapdaaGreatR1
import Derived.Test.YtllnpamhldapdaaGreatSan5
import Derived.Deep.CutRange
namespace Go.Proofs.YtllnpamhldapdaaGreat
open Go.ChangeShapes Go.WideShapes Go.ChangeAt Go.RowKit
set_option linter.unusedVariables false
set_option linter.unusedSimpArgs false
set_option maxRecDepth 100000
attribute [local irreducible] Calls
theorem kept_tvz {l : List Tm} {D : Int} (h : ∀ t ∈ l, TV t) : ∀ t ∈ keptP D l, TV t := fun t ht => h t (List.mem_filter.1 ht).1
theorem truncP_tvz {l : List Tm} {D : Int} {m : Int × Int} (h : ∀ t ∈ l, TV t) : ∀ t ∈ (truncP l D m).1, TV t := by
  unfold truncP
  split
  · simp
  · split
    · simp
    · exact kept_tvz h
theorem nz_self {l : List Tm} (h : VP l) : nzT l = l := List.filter_eq_self.2 fun t ht => by
  have := ((vp_parts h).2 t ht).1
  simpa using this
theorem trunc_min {l : List Tm} (h : VP l) (D : Int) (m : Int × Int) : truncP (nzT l) (min D 6) m = truncP l D m := by
  rw [nz_self h]
  have e1 : keptP (min D 6) l = keptP D l := by
    unfold keptP
    refine List.filter_congr fun t ht => ?_
    have := ((vp_parts h).2 t ht).2
    exact decide_eq_decide.2 (by omega)
  have e2 : missP (min D 6) m l = missP D m l := by
    unfold missP
    rw [List.filter_congr (q := fun t => !decide (degE t.2 ≤ D)) fun t ht => ?_]
    have := ((vp_parts h).2 t ht).2
    rw [decide_eq_decide.2 (show degE t.2 ≤ min D 6 ↔ degE t.2 ≤ D by omega)]
  unfold truncP
  rw [e1, e2]
theorem same_yesz (v u : Value) (l : List Tm) (w : World) (hv : Tx w v l) (hu : Tx w u l) (hl : ∀ t ∈ l, TV t) :
    Calls Tryz.prog 17 #[v, u] w fun e w' => e = .returned (.bool true) ∧ Below w.heap.size w w' := by
  have := r5same v u l l w hv hu hl hl
  simpa using this
theorem varT_tvz (i : Int) : ∀ t ∈ varT i, TV t := by
  unfold varT
  split
  · rename_i h
    rcases (show i = 0 ∨ i = 1 ∨ i = 2 ∨ i = 3 ∨ i = 4 ∨ i = 5 by omega) with rfl | rfl | rfl | rfl | rfl | rfl
    all_goals
      intro t ht
      simp only [List.mem_singleton] at ht
      subst ht
      exact ⟨⟨rfl, by decide⟩, by decide, by decide⟩
  · simp
theorem bx_lit3 (W : World) (x y z u s t : Int) : Bx (W.alloc (.cells #[.int .i64 x, .int .i64 y, .int .i64 z, .int .i64 u, .int .i64 s, .int .i64 t] 27)) (.slice (some ⟨W.heap.size, 0, none⟩) 3 3) [(x, y), (z, u), (s, t)] := by
  have hb : (W.alloc (.cells #[.int .i64 x, .int .i64 y, .int .i64 z, .int .i64 u, .int .i64 s, .int .i64 t] 27)).heap[W.heap.size]? = some (.cells #[.int .i64 x, .int .i64 y, .int .i64 z, .int .i64 u, .int .i64 s, .int .i64 t] 27 (0, 0)) := World.alloc_heap_new W _
  refine ⟨by simp [maxLen], _, 3, rfl, fun k p hk => ?_⟩
  match k with
  | 0 => simp at hk; subst hk; exact ⟨_, 0, rfl, by simp, heapT_cell hb rfl, heapT_cell hb rfl⟩
  | 1 => simp at hk; subst hk; exact ⟨_, 0, rfl, by simp, heapT_cell hb rfl, heapT_cell hb rfl⟩
  | 2 => simp at hk; subst hk; exact ⟨_, 0, rfl, by simp, heapT_cell hb rfl, heapT_cell hb rfl⟩
  | k + 3 => simp at hk
set_option maxHeartbeats 80000000 in
theorem polymatch (w : World) (a0A a0B : Value) (a0k a0n : Int) (a0la a0lb : List Tm) (h0A : Tx w a0A a0la ∧ ∀ t ∈ a0la, TV t) (h0B : Tx w a0B a0lb ∧ ∀ t ∈ a0lb, TV t) (h0k : -9223372036854775808 ≤ a0k ∧ a0k ≤ 9223372036854775807) (h0n : -128 ≤ a0n ∧ a0n ≤ 127) (x0 x1 x2 x3 x4 x5 : Int) (w1 : ∀ x ∈ [x0, x1, x2, x3, x4, x5], IntKind.has .i64 x) :
    Calls Tryz.prog 3 #[.agg #[a0A, a0B, .int .i64 a0k, .int .i8 a0n], .agg #[.int .i64 x0, .int .i64 x1, .int .i64 x2, .int .i64 x3, .int .i64 x4, .int .i64 x5]] w fun e w' => e = .returned (.bool true) ∧ Below w.heap.size w w' := by
  have hx : ∀ x ∈ [x0, x1, x2, x3, x4, x5], -9223372036854775808 ≤ x ∧ x ≤ 9223372036854775807 := fun x hx => by
    have := w1 x hx
    unfold IntKind.has at this
    rw [show IntKind.i64.min = -9223372036854775808 by decide, show IntKind.i64.max = 9223372036854775807 by decide] at this
    exact this
  obtain ⟨q0, r0, V0, M0⟩ := r2made x0 x1 (hx x0 (by simp)).1 (hx x0 (by simp)).2 (hx x1 (by simp)).1 (hx x1 (by simp)).2
  have HQ0 := Lib.hid M0
  obtain ⟨q1, r1, V1, M1⟩ := r2made x2 x3 (hx x2 (by simp)).1 (hx x2 (by simp)).2 (hx x3 (by simp)).1 (hx x3 (by simp)).2
  have HQ1 := Lib.hid M1
  obtain ⟨q2, r2, V2, M2⟩ := r2made x4 x5 (hx x4 (by simp)).1 (hx x4 (by simp)).2 (hx x5 (by simp)).1 (hx x5 (by simp)).2
  have HQ2 := Lib.hid M2
  have VB3 : Hid (∀ p ∈ [(q0, r0), (q1, r1), (q2, r2)], VB2 p) := Lib.hid (by
    intro p hp
    simp only [List.mem_cons, List.not_mem_nil, or_false] at hp
    rcases hp with rfl | rfl | rfl
    · exact V0
    · exact V1
    · exact V2)
  have hNc := rem_num (a := a0k) (n := 2147483648) (by decide) (by decide)
  obtain ⟨c, hc⟩ : ∃ c, a0k.tmod 2147483648 = c := ⟨_, rfl⟩
  obtain ⟨n, hn⟩ : ∃ n, a0n.tmod 10 = n := ⟨_, rfl⟩
  rw [hc] at hNc
  have HNC := Lib.hid hNc
  obtain ⟨R, hR⟩ : ∃ R : Bool, R = true ↔ VP a0la := by
    by_cases h : VP a0la
    · exact ⟨true, ⟨fun _ => h, fun _ => rfl⟩⟩
    · exact ⟨false, ⟨fun q => (Bool.noConfusion q), fun q => absurd q h⟩⟩
  obtain ⟨pA, cA, rfl⟩ := h0A.1.cut
  have W8 : IntKind.i64.wrap a0n = a0n := wrap_i64 _ (by omega) (by omega)
  have HA := Lib.hid h0A
  have HB := Lib.hid h0B
  have HRB := Lib.hid hR
  clear h0A h0B h0k h0n hx w1 V0 V1 V2 M0 M1 M2 hNc hR
  go_enter Tryz.func3, Tryz.ntmps3
  go_wp2_with (fail)
  generalize hW0 : World.alloc (World.alloc w _) _ = W0
  have hBW : Below w.heap.size w W0 := by subst hW0; exact (((Below.refl w.heap.size w).alloc (by go_size) _).alloc (by go_size) _)
  have Y0 : w.heap.size < W0.heap.size := by subst hW0; simp <;> omega
  have Y1 : w.heap.size + 1 < W0.heap.size := by subst hW0; simp <;> omega
  have F0_0 : ∀ g : Grown W0, g.w.cell? ⟨w.heap.size, 0, none⟩ = some (.slice pA a0la.length cA) := fun g => (g.cell Y0).trans (by subst hW0; simp [go_sem])
  have F0_1 : ∀ g : Grown W0, g.w.cell? ⟨w.heap.size, 1, none⟩ = some a0B := fun g => (g.cell Y0).trans (by subst hW0; simp [go_sem])
  have F0_2 : ∀ g : Grown W0, g.w.cell? ⟨w.heap.size, 2, none⟩ = some (.int .i64 a0k) := fun g => (g.cell Y0).trans (by subst hW0; simp [go_sem])
  have F0_3 : ∀ g : Grown W0, g.w.cell? ⟨w.heap.size, 3, none⟩ = some (.int .i8 a0n) := fun g => (g.cell Y0).trans (by subst hW0; simp [go_sem])
  have F1_0 : ∀ g : Grown W0, g.w.cell? ⟨w.heap.size + 1, 0, none⟩ = some (.int .i64 x0) := fun g => (g.cell Y1).trans (by subst hW0; simp [go_sem])
  have F1_1 : ∀ g : Grown W0, g.w.cell? ⟨w.heap.size + 1, 1, none⟩ = some (.int .i64 x1) := fun g => (g.cell Y1).trans (by subst hW0; simp [go_sem])
  have F1_2 : ∀ g : Grown W0, g.w.cell? ⟨w.heap.size + 1, 2, none⟩ = some (.int .i64 x2) := fun g => (g.cell Y1).trans (by subst hW0; simp [go_sem])
  have F1_3 : ∀ g : Grown W0, g.w.cell? ⟨w.heap.size + 1, 3, none⟩ = some (.int .i64 x3) := fun g => (g.cell Y1).trans (by subst hW0; simp [go_sem])
  have F1_4 : ∀ g : Grown W0, g.w.cell? ⟨w.heap.size + 1, 4, none⟩ = some (.int .i64 x4) := fun g => (g.cell Y1).trans (by subst hW0; simp [go_sem])
  have F1_5 : ∀ g : Grown W0, g.w.cell? ⟨w.heap.size + 1, 5, none⟩ = some (.int .i64 x5) := fun g => (g.cell Y1).trans (by subst hW0; simp [go_sem])
  clear hW0
  have HF1 := Lib.hid (And.intro F1_0 (And.intro F1_1 (And.intro F1_2 (And.intro F1_3 (And.intro F1_4 F1_5)))))
  clear F1_0 F1_1 F1_2 F1_3 F1_4 F1_5
  refine (sanity5 _).mono ?_
  rintro e w1 ⟨rfl, hb1⟩
  obtain ⟨g1, rfl⟩ : ∃ g : Grown W0, w1 = g.w := ⟨⟨w1, hb1⟩, rfl⟩
  have HPV := Lib.hid (fun g : Grown W0 => pvalid_ok (.slice pA a0la.length cA) a0la R g.w (HA.out.1.grow (below_then hBW g.h)) HA.out.2 HRB.out)
  have HRV := Lib.hid (fun g : Grown W0 => r5valid_ok (.slice pA a0la.length cA) a0la R g.w (HA.out.1.grow (below_then hBW g.h)) HA.out.2 HRB.out)
  go_wp2_with (fail)
  go_cut [40] from 28 to 39 (fun s w' => s = .bool false ∧ ∃ g : Grown W0, w' = g.w)
  case first =>
    by_cases h200 : (a0la.length : Int) ≤ 200
    · have hd : decide ((a0la.length : Int) ≤ 200) = true := by simpa using h200
      clear h200
      refine region_quiet' g1 (by kernel_rfl) (by kernel_rfl) ?_
      repeat (go_big_quiet_step (first | exact qc (HPV.out _) | exact qc (HRV.out _)))
      refine wpQuiet_nil ?_
      rintro _ ⟨gx, rfl⟩
      go_wp2_with (fail)
      go_meet
      exact ⟨by simp, gx, rfl⟩
    · have hd : decide ((a0la.length : Int) ≤ 200) = false := by simpa using h200
      clear h200
      refine region_quiet' g1 (by kernel_rfl) (by kernel_rfl) ?_
      repeat (go_big_quiet_step (first | exact qc (HPV.out _) | exact qc (HRV.out _)))
      refine wpQuiet_nil ?_
      rintro _ ⟨gx, rfl⟩
      go_wp2_with (fail)
      go_meet
      exact ⟨rfl, gx, rfl⟩
  case rest =>
  obtain ⟨rfl, g2, rfl⟩ := hcut
  clear HPV HRV HRB hb1
  have f0 := F0_0 g2
  have f1 := F0_1 g2
  have f2 := F0_2 g2
  have f3 := F0_3 g2
  try dsimp only at f0 f1 f2 f3
  clear F0_0 F0_1
  go_wp2_with (fail)
  refine (law5valid (.slice pA a0la.length cA) a0B a0la a0lb a0k a0n g2.w (HA.out.1.grow (below_then hBW g2.h)) (HB.out.1.grow (below_then hBW g2.h)) HA.out.2 HB.out.2).mono ?_
  rintro e wb ⟨u, v, rfl, ⟨l, hl1, ⟨bu, ou, nu, cu, rfl, hcu⟩, hl3⟩, ⟨m, hm1, ⟨bv, ov, nv, cv, rfl, hcv⟩, hm3⟩, hb2⟩
  obtain rfl : nu = l.length := by
    obtain ⟨_, _, _, e, _⟩ := hl1
    simp only [Value.slice.injEq] at e
    exact e.2.1
  obtain rfl : nv = m.length := by
    obtain ⟨_, _, _, e, _⟩ := hm1
    simp only [Value.slice.injEq] at e
    exact e.2.1
  obtain ⟨g3, hg3⟩ : ∃ g : Grown W0, wb = g.w := ⟨⟨wb, below_then g2.h hb2⟩, rfl⟩
  subst hg3
  have f2 := F0_2 g3
  have f3 := F0_3 g3
  try dsimp only at f2 f3
  have HL := Lib.hid hl1
  have HM := Lib.hid hm1
  have nl := Lib.hid (fun t ht => (⟨hl3.2.2 t ht, vp_num hl3.1 t ht⟩ : TV t ∧ Num t.1))
  have nm := Lib.hid (fun t ht => (⟨hm3.2.2 t ht, vp_num hm3.1 t ht⟩ : TV t ∧ Num t.1))
  have sl := Lib.hid (good_small hl3)
  have sm := Lib.hid (good_small hm3)
  have tl := Lib.hid hl3.2.2
  have VL := Lib.hid hl3.1
  have VM := Lib.hid hm3.1
  have q3 : l.length ≤ 9 := by have := hl3.2.1; omega
  have q4 : m.length ≤ 9 := by have := hm3.2.1; omega
  have CL : Hid (CapOk (.slice (some ⟨bu, ou, none⟩) l.length cu)) := Lib.hid (SomeS.cap ⟨_, _, _, _, rfl, hcu⟩)
  have CM : Hid (CapOk (.slice (some ⟨bv, ov, none⟩) m.length cv)) := Lib.hid (SomeS.cap ⟨_, _, _, _, rfl, hcv⟩)
  have hTg := below_then hBW g3.h
  have HTG := Lib.hid hTg
  clear hl1 hm1 hl3 hm3 f0 f1 hb2 hTg
  go_wp2_with (fail)
  go_region
  go_wp2_with (fail)
  clear f2 f3 F0_2 F0_3 W8 hc hn
  have hgd : Below g3.w.heap.size g3.w g3.w.drew := (Below.refl _ _).drew
  have hTd : Below w.heap.size w g3.w.drew := HTG.out.drew
  have HL0 := Lib.hid (HL.out.grow hgd)
  have HM0 := Lib.hid (HM.out.grow hgd)
  have k0 := fun g : Grown g3.w.drew => HF1.out.1 ⟨g.w, below_then g3.h.drew g.h⟩
  have k1 := fun g : Grown g3.w.drew => HF1.out.2.1 ⟨g.w, below_then g3.h.drew g.h⟩
  have k2 := fun g : Grown g3.w.drew => HF1.out.2.2.1 ⟨g.w, below_then g3.h.drew g.h⟩
  have k3 := fun g : Grown g3.w.drew => HF1.out.2.2.2.1 ⟨g.w, below_then g3.h.drew g.h⟩
  have k4 := fun g : Grown g3.w.drew => HF1.out.2.2.2.2.1 ⟨g.w, below_then g3.h.drew g.h⟩
  have k5 := fun g : Grown g3.w.drew => HF1.out.2.2.2.2.2 ⟨g.w, below_then g3.h.drew g.h⟩
  dsimp only at k0 k1 k2 k3 k4 k5
  obtain ⟨wd, hwd⟩ : ∃ W, g3.w.drew = W := ⟨_, rfl⟩
  rw [hwd] at HL0 HM0 hTd k0 k1 k2 k3 k4 k5
  rw [hwd]
  clear hwd hgd HL HM HTG hBW
  refine region_pred (lk [(53, fun u _ => u = .pointer (some ⟨w.heap.size + 1, 0, none⟩)), (54, fun u _ => u = .agg #[.int .i64 x0, .int .i64 x1]), (55, fun u _ => u = .agg #[.int .i64 q0, .int .i64 r0]), (56, fun u _ => u = .pointer (some ⟨w.heap.size + 1, 2, none⟩)), (57, fun u _ => u = .agg #[.int .i64 x2, .int .i64 x3]), (58, fun u _ => u = .agg #[.int .i64 q1, .int .i64 r1]), (59, fun u _ => u = .pointer (some ⟨w.heap.size + 1, 4, none⟩)), (60, fun u _ => u = .agg #[.int .i64 x4, .int .i64 x5]), (61, fun u _ => u = .agg #[.int .i64 q2, .int .i64 r2]), (62, fun u w' => Bx w' u [(q0, r0), (q1, r1), (q2, r2)]), (10, fun u w' => Bx w' u [(q0, r0), (q1, r1), (q2, r2)])]) (by kernel_rfl) (by kernel_rfl) (lk_steady _ ⟨steady_eq _, steady_eq _, steady_eq _, steady_eq _, steady_eq _, steady_eq _, steady_eq _, steady_eq _, steady_eq _, fun u w1 w2 hb h => h.grow hb, fun u w1 w2 hb h => h.grow hb, trivial⟩) ?_ ?_
  · refine ⟨?_, ?_, ?_, ?_, ?_, ?_, ?_, ?_, ?_, ?_, ?_, trivial⟩
    · refine ob_plain [3] rfl rfl fun aa gg h => ?_
      have y0 := seen_out (v := .pointer (some ⟨w.heap.size + 1, 0, none⟩)) rfl rfl h.1
      have e0 := getD_of y0
      exact tupon_value (v := .pointer (some ⟨w.heap.size + 1, 0, none⟩)) (by simp [go_sem, e0, y0]) (Below.refl _ _) rfl
    · refine ob_plain [53] rfl rfl fun aa gg h => ?_
      obtain ⟨_, y0, rfl⟩ := seen_in rfl h.1
      have e0 := getD_of y0
      exact tupon_value (v := .agg #[.int .i64 x0, .int .i64 x1]) (by simp [go_sem, e0, y0, k0 gg, k1 gg]) (Below.refl _ _) rfl
    · refine ob_plain [54] rfl rfl fun aa gg h => ?_
      obtain ⟨_, y0, rfl⟩ := seen_in rfl h.1
      have e0 := getD_of y0
      refine tupon_enter (f := 8) (args := #[.agg #[.int .i64 x0, .int .i64 x1]]) (by simp [go_sem, e0, y0]) rfl ?_
      exact (HQ0.out gg.w).mono fun e w' ⟨he, hB⟩ => ⟨_, he, hB, rfl⟩
    · refine ob_plain [3] rfl rfl fun aa gg h => ?_
      have y0 := seen_out (v := .pointer (some ⟨w.heap.size + 1, 0, none⟩)) rfl rfl h.1
      have e0 := getD_of y0
      exact tupon_value (v := .pointer (some ⟨w.heap.size + 1, 2, none⟩)) (by simp [go_sem, e0, y0]) (Below.refl _ _) rfl
    · refine ob_plain [56] rfl rfl fun aa gg h => ?_
      obtain ⟨_, y0, rfl⟩ := seen_in rfl h.1
      have e0 := getD_of y0
      exact tupon_value (v := .agg #[.int .i64 x2, .int .i64 x3]) (by simp [go_sem, e0, y0, k2 gg, k3 gg]) (Below.refl _ _) rfl
    · refine ob_plain [57] rfl rfl fun aa gg h => ?_
      obtain ⟨_, y0, rfl⟩ := seen_in rfl h.1
      have e0 := getD_of y0
      refine tupon_enter (f := 8) (args := #[.agg #[.int .i64 x2, .int .i64 x3]]) (by simp [go_sem, e0, y0]) rfl ?_
      exact (HQ1.out gg.w).mono fun e w' ⟨he, hB⟩ => ⟨_, he, hB, rfl⟩
    · refine ob_plain [3] rfl rfl fun aa gg h => ?_
      have y0 := seen_out (v := .pointer (some ⟨w.heap.size + 1, 0, none⟩)) rfl rfl h.1
      have e0 := getD_of y0
      exact tupon_value (v := .pointer (some ⟨w.heap.size + 1, 4, none⟩)) (by simp [go_sem, e0, y0]) (Below.refl _ _) rfl
    · refine ob_plain [59] rfl rfl fun aa gg h => ?_
      obtain ⟨_, y0, rfl⟩ := seen_in rfl h.1
      have e0 := getD_of y0
      exact tupon_value (v := .agg #[.int .i64 x4, .int .i64 x5]) (by simp [go_sem, e0, y0, k4 gg, k5 gg]) (Below.refl _ _) rfl
    · refine ob_plain [60] rfl rfl fun aa gg h => ?_
      obtain ⟨_, y0, rfl⟩ := seen_in rfl h.1
      have e0 := getD_of y0
      refine tupon_enter (f := 8) (args := #[.agg #[.int .i64 x4, .int .i64 x5]]) (by simp [go_sem, e0, y0]) rfl ?_
      exact (HQ2.out gg.w).mono fun e w' ⟨he, hB⟩ => ⟨_, he, hB, rfl⟩
    · refine ob_plain [55, 58, 61] rfl rfl fun aa gg h => ?_
      obtain ⟨_, y0, rfl⟩ := seen_in rfl h.1
      have e0 := getD_of y0
      obtain ⟨_, y1, rfl⟩ := seen_in rfl h.2.1
      have e1 := getD_of y1
      obtain ⟨_, y2, rfl⟩ := seen_in rfl h.2.2.1
      have e2 := getD_of y2
      exact tupon_value (v := .slice (some ⟨gg.w.heap.size, 0, none⟩) 3 3) (w1 := gg.w.alloc (.cells #[.int .i64 q0, .int .i64 r0, .int .i64 q1, .int .i64 r1, .int .i64 q2, .int .i64 r2] 27)) (by simp [go_sem, e0, y0, e1, y1, e2, y2]) ((Below.refl _ _).alloc (Nat.le_refl _) _) (bx_lit3 _ _ _ _ _ _ _)
    · refine ob_plain [62] rfl rfl fun aa gg h => ?_
      obtain ⟨vv, y0, hvv⟩ := seen_in rfl h.1
      have e0 := getD_of y0
      exact tupon_value (v := vv) (by simp [go_sem, e0, y0]) (Below.refl _ _) hvv
  rintro w6 hB6 _ rfl _ rfl _ rfl _ rfl _ rfl _ rfl _ rfl _ rfl _ rfl vz hvz vy hvy
  simp only [Act.put, List.setIfInBounds_toArray, List.set_cons_succ, List.set_cons_zero, List.filterMap_nil, finP]
  have hT := below_then hTd hB6
  have TL := Lib.hid (HL0.out.grow hB6)
  have TM := Lib.hid (HM0.out.grow hB6)
  have BX := Lib.hid hvy
  have BEL := Lib.hid hT
  clear k0 k1 k2 k3 k4 k5 hvz hvy HL0 HM0 hTd hB6 hT HF1 HQ0 HQ1 HQ2
  have mtv := merge_tv nl.out nm.out
  have mln := merge_len l m
  have ptv := mulP_tv nl.out nm.out (show l.length * m.length ≤ 10000 from Nat.le_trans (Nat.mul_le_mul q3 q4) (by decide))
  have hcl := constT_len c
  have hcv2 := constT_tv HNC.out
  have stv := mulP_tv nl.out hcv2 (show l.length * (constT c).length ≤ 10000 from Nat.le_trans (Nat.mul_le_mul q3 hcl) (by decide))
  have K1 := Lib.hid (fun w h1 h2 => add_ok (.slice (some ⟨bu, ou, none⟩) l.length cu) (.slice (some ⟨bv, ov, none⟩) m.length cv) l m w h1 h2 CL.out CM.out sl.out sm.out mtv (by omega) (by omega))
  have K2 := Lib.hid (fun w h1 h2 => radd_ok bu ou cu (.slice (some ⟨bv, ov, none⟩) m.length cv) l m w h1 hcu h2 nl.out nm.out (by omega) (by omega))
  rw [fold_merge VL.out VM.out] at K2
  have K3 := Lib.hid (fun w h1 h2 => mul_ok (.slice (some ⟨bu, ou, none⟩) l.length cu) (.slice (some ⟨bv, ov, none⟩) m.length cv) l m n w h1 h2 nl.out nm.out (Nat.le_trans (Nat.mul_le_mul q3 q4) (by decide)))
  have K4 := Lib.hid (fun w h1 h2 => rmul_ok (.slice (some ⟨bu, ou, none⟩) l.length cu) (.slice (some ⟨bv, ov, none⟩) m.length cv) l m n w h1 h2 nl.out nm.out (Nat.le_trans (Nat.mul_le_mul q3 q4) (by decide)))
  have K5 := Lib.hid (fun w h1 => scale_ok (.slice (some ⟨bu, ou, none⟩) l.length cu) l c w h1 nl.out HNC.out (by omega))
  have K6 := Lib.hid (fun w h1 => rscale_ok (.slice (some ⟨bu, ou, none⟩) l.length cu) l c w h1 nl.out HNC.out (by omega))
  have K7 := Lib.hid (fun w h1 => truncate_ok (.slice (some ⟨bu, ou, none⟩) l.length cu) l n w h1 tl.out (by omega))
  have K8 := Lib.hid (fun w h1 => rtrunc_ok (.slice (some ⟨bu, ou, none⟩) l.length cu) l n w h1 tl.out (by omega))
  rw [trunc_min VL.out] at K8
  have t1 := truncP_tvz (l := mergeP l m) (D := 6) (m := (0, 0)) mtv
  have t2 : ∀ t ∈ (mulR l m n).1, TV t := truncP_tvz ptv
  have t3 : ∀ t ∈ (mulR l (constT c) 6).1, TV t := truncP_tvz stv
  have t4 := truncP_tvz (l := l) (D := n) (m := (0, 0)) tl.out
  have K9 := Lib.hid (fun w h1 => range_ok (.slice (some ⟨bu, ou, none⟩) l.length cu) l w h1 nl.out (by omega))
  have K10 := Lib.hid (fun w h1 => rrange_ok (.slice (some ⟨bu, ou, none⟩) l.length cu) l w h1 nl.out (by omega))
  have K11 := Lib.hid (fun w h1 h2 => eval_ok (.slice (some ⟨bu, ou, none⟩) l.length cu) vy l [(q0, r0), (q1, r1), (q2, r2)] w h1 h2 tl.out VB3.out (by omega))
  have K12 := Lib.hid (fun w h1 h2 => reval_ok (.slice (some ⟨bu, ou, none⟩) l.length cu) vy l [(q0, r0), (q1, r1), (q2, r2)] w h1 h2 tl.out VB3.out (by omega))
  have K13 := Lib.hid (fun w h1 => pdeg_ok (.slice (some ⟨bu, ou, none⟩) l.length cu) l w h1 tl.out)
  have K14 := Lib.hid (fun w h1 => rdegree_ok (.slice (some ⟨bu, ou, none⟩) l.length cu) l w h1 tl.out)
  obtain ⟨⟨L1, a1, b1⟩, h1⟩ : ∃ R, truncP (mergeP l m) 6 (0, 0) = R := ⟨_, rfl⟩
  rw [h1] at K1 K2 t1
  obtain ⟨⟨L2, a2, b2⟩, h2⟩ : ∃ R, mulR l m n = R := ⟨_, rfl⟩
  rw [h2] at K3 K4 t2
  obtain ⟨⟨L3, a3, b3⟩, h3⟩ : ∃ R, mulR l (constT c) 6 = R := ⟨_, rfl⟩
  rw [h3] at K5 K6 t3
  obtain ⟨⟨L4, a4, b4⟩, h4⟩ : ∃ R, truncP l n (0, 0) = R := ⟨_, rfl⟩
  rw [h4] at K7 K8 t4
  obtain ⟨⟨a5, b5⟩, h5⟩ : ∃ R, newR (sumR l) = R := ⟨_, rfl⟩
  rw [h5] at K9 K10
  obtain ⟨⟨a6, b6⟩, h6⟩ : ∃ R, evalP [(q0, r0), (q1, r1), (q2, r2)] l = R := ⟨_, rfl⟩
  rw [h6] at K11 K12
  obtain ⟨D, h7⟩ : ∃ D, degP l = D := ⟨_, rfl⟩
  rw [h7] at K13 K14
  dsimp only at K1 K2 K3 K4 K5 K6 K7 K8 K9 K10 K11 K12 K13 K14 t1 t2 t3 t4
  have T1 := Lib.hid t1
  have T2 := Lib.hid t2
  have T3 := Lib.hid t3
  have T4 := Lib.hid t4
  have T5 := Lib.hid (fun t ht => (hcv2 t ht).1)
  clear h1 h2 h3 h4 h5 h6 h7 t1 t2 t3 t4 mtv mln ptv hcl hcv2 stv nl nm sl sm tl VL VM CL CM VB3 HNC
  go_wp2_with (fail)
  refine (K1.out _ TL.out TM.out).mono ?_
  rintro e wc1 ⟨u1, rfl, hx1, _, hB1⟩
  have ha1 := hB1.alloc hB1.size (.cells #[.int .i64 a1, .int .i64 b1] 27)
  have TL_1 := Lib.hid (TL.out.grow ha1)
  have TM_1 := Lib.hid (TM.out.grow ha1)
  have BX_1 := Lib.hid (BX.out.grow ha1)
  have BEL_1 := Lib.hid (below_then BEL.out ha1)
  have TX1_1 := Lib.hid (hx1.grow ((Below.refl wc1.heap.size wc1).alloc (Nat.le_refl _) (.cells #[.int .i64 a1, .int .i64 b1] 27)))
  have IV1_1 := Lib.hid (IvC.new wc1 a1 b1)
  clear TL TM BX BEL hx1 hB1 ha1 K1
  go_wp2_with (fail)
  refine (K2.out _ TL_1.out TM_1.out).mono ?_
  rintro e wc2 ⟨u2, rfl, hx2, hB2⟩
  have ha2 := hB2.alloc hB2.size (.cells #[.int .i64 a1, .int .i64 b1] 27)
  have TL_2 := Lib.hid (TL_1.out.grow ha2)
  have TM_2 := Lib.hid (TM_1.out.grow ha2)
  have BX_2 := Lib.hid (BX_1.out.grow ha2)
  have BEL_2 := Lib.hid (below_then BEL_1.out ha2)
  have TX1_2 := Lib.hid (TX1_1.out.grow ha2)
  have IV1_2 := Lib.hid (IV1_1.out.grow ha2)
  have TX2_2 := Lib.hid (hx2.grow ((Below.refl wc2.heap.size wc2).alloc (Nat.le_refl _) (.cells #[.int .i64 a1, .int .i64 b1] 27)))
  have IV2_2 := Lib.hid (IvC.new wc2 a1 b1)
  clear TL_1 TM_1 BX_1 BEL_1 TX1_1 IV1_1 hx2 hB2 ha2 K2
  go_wp2_with (fail)
  refine (K3.out _ TL_2.out TM_2.out).mono ?_
  rintro e wc3 ⟨u3, rfl, hx3, _, hB3⟩
  have ha3 := hB3.alloc hB3.size (.cells #[.int .i64 a2, .int .i64 b2] 27)
  have TL_3 := Lib.hid (TL_2.out.grow ha3)
  have TM_3 := Lib.hid (TM_2.out.grow ha3)
  have BX_3 := Lib.hid (BX_2.out.grow ha3)
  have BEL_3 := Lib.hid (below_then BEL_2.out ha3)
  have TX1_3 := Lib.hid (TX1_2.out.grow ha3)
  have IV1_3 := Lib.hid (IV1_2.out.grow ha3)
  have TX2_3 := Lib.hid (TX2_2.out.grow ha3)
  have IV2_3 := Lib.hid (IV2_2.out.grow ha3)
  have TX3_3 := Lib.hid (hx3.grow ((Below.refl wc3.heap.size wc3).alloc (Nat.le_refl _) (.cells #[.int .i64 a2, .int .i64 b2] 27)))
  have IV3_3 := Lib.hid (IvC.new wc3 a2 b2)
  clear TL_2 TM_2 BX_2 BEL_2 TX1_2 IV1_2 TX2_2 IV2_2 hx3 hB3 ha3 K3
  go_wp2_with (fail)
  refine (K4.out _ TL_3.out TM_3.out).mono ?_
  rintro e wc4 ⟨u4, rfl, hx4, _, hB4⟩
  have ha4 := hB4.alloc hB4.size (.cells #[.int .i64 a2, .int .i64 b2] 27)
  have TL_4 := Lib.hid (TL_3.out.grow ha4)
  have TM_4 := Lib.hid (TM_3.out.grow ha4)
  have BX_4 := Lib.hid (BX_3.out.grow ha4)
  have BEL_4 := Lib.hid (below_then BEL_3.out ha4)
  have TX1_4 := Lib.hid (TX1_3.out.grow ha4)
  have IV1_4 := Lib.hid (IV1_3.out.grow ha4)
  have TX2_4 := Lib.hid (TX2_3.out.grow ha4)
  have IV2_4 := Lib.hid (IV2_3.out.grow ha4)
  have TX3_4 := Lib.hid (TX3_3.out.grow ha4)
  have IV3_4 := Lib.hid (IV3_3.out.grow ha4)
  have TX4_4 := Lib.hid (hx4.grow ((Below.refl wc4.heap.size wc4).alloc (Nat.le_refl _) (.cells #[.int .i64 a2, .int .i64 b2] 27)))
  have IV4_4 := Lib.hid (IvC.new wc4 a2 b2)
  clear TL_3 TM_3 BX_3 BEL_3 TX1_3 IV1_3 TX2_3 IV2_3 TX3_3 IV3_3 hx4 hB4 ha4 K4
  go_wp2_with (fail)
  refine (K5.out _ TL_4.out).mono ?_
  rintro e wc5 ⟨u5, rfl, hx5, _, hB5⟩
  have ha5 := hB5.alloc hB5.size (.cells #[.int .i64 a3, .int .i64 b3] 27)
  have TL_5 := Lib.hid (TL_4.out.grow ha5)
  have TM_5 := Lib.hid (TM_4.out.grow ha5)
  have BX_5 := Lib.hid (BX_4.out.grow ha5)
  have BEL_5 := Lib.hid (below_then BEL_4.out ha5)
  have TX1_5 := Lib.hid (TX1_4.out.grow ha5)
  have IV1_5 := Lib.hid (IV1_4.out.grow ha5)
  have TX2_5 := Lib.hid (TX2_4.out.grow ha5)
  have IV2_5 := Lib.hid (IV2_4.out.grow ha5)
  have TX3_5 := Lib.hid (TX3_4.out.grow ha5)
  have IV3_5 := Lib.hid (IV3_4.out.grow ha5)
  have TX4_5 := Lib.hid (TX4_4.out.grow ha5)
  have IV4_5 := Lib.hid (IV4_4.out.grow ha5)
  have TX5_5 := Lib.hid (hx5.grow ((Below.refl wc5.heap.size wc5).alloc (Nat.le_refl _) (.cells #[.int .i64 a3, .int .i64 b3] 27)))
  have IV5_5 := Lib.hid (IvC.new wc5 a3 b3)
  clear TL_4 TM_4 BX_4 BEL_4 TX1_4 IV1_4 TX2_4 IV2_4 TX3_4 IV3_4 TX4_4 IV4_4 hx5 hB5 ha5 K5
  go_wp2_with (fail)
  refine (K6.out _ TL_5.out).mono ?_
  rintro e wc6 ⟨u6, rfl, hx6, _, hB6⟩
  have ha6 := hB6.alloc hB6.size (.cells #[.int .i64 a3, .int .i64 b3] 27)
  have TL_6 := Lib.hid (TL_5.out.grow ha6)
  have TM_6 := Lib.hid (TM_5.out.grow ha6)
  have BX_6 := Lib.hid (BX_5.out.grow ha6)
  have BEL_6 := Lib.hid (below_then BEL_5.out ha6)
  have TX1_6 := Lib.hid (TX1_5.out.grow ha6)
  have IV1_6 := Lib.hid (IV1_5.out.grow ha6)
  have TX2_6 := Lib.hid (TX2_5.out.grow ha6)
  have IV2_6 := Lib.hid (IV2_5.out.grow ha6)
  have TX3_6 := Lib.hid (TX3_5.out.grow ha6)
  have IV3_6 := Lib.hid (IV3_5.out.grow ha6)
  have TX4_6 := Lib.hid (TX4_5.out.grow ha6)
  have IV4_6 := Lib.hid (IV4_5.out.grow ha6)
  have TX5_6 := Lib.hid (TX5_5.out.grow ha6)
  have IV5_6 := Lib.hid (IV5_5.out.grow ha6)
  have TX6_6 := Lib.hid (hx6.grow ((Below.refl wc6.heap.size wc6).alloc (Nat.le_refl _) (.cells #[.int .i64 a3, .int .i64 b3] 27)))
  have IV6_6 := Lib.hid (IvC.new wc6 a3 b3)
  clear TL_5 TM_5 BX_5 BEL_5 TX1_5 IV1_5 TX2_5 IV2_5 TX3_5 IV3_5 TX4_5 IV4_5 TX5_5 IV5_5 hx6 hB6 ha6 K6
  go_wp2_with (fail)
  refine (K7.out _ TL_6.out).mono ?_
  rintro e wc7 ⟨u7, rfl, hx7, _, hB7⟩
  have ha7 := hB7.alloc hB7.size (.cells #[.int .i64 a4, .int .i64 b4] 27)
  have TL_7 := Lib.hid (TL_6.out.grow ha7)
  have TM_7 := Lib.hid (TM_6.out.grow ha7)
  have BX_7 := Lib.hid (BX_6.out.grow ha7)
  have BEL_7 := Lib.hid (below_then BEL_6.out ha7)
  have TX1_7 := Lib.hid (TX1_6.out.grow ha7)
  have IV1_7 := Lib.hid (IV1_6.out.grow ha7)
  have TX2_7 := Lib.hid (TX2_6.out.grow ha7)
  have IV2_7 := Lib.hid (IV2_6.out.grow ha7)
  have TX3_7 := Lib.hid (TX3_6.out.grow ha7)
  have IV3_7 := Lib.hid (IV3_6.out.grow ha7)
  have TX4_7 := Lib.hid (TX4_6.out.grow ha7)
  have IV4_7 := Lib.hid (IV4_6.out.grow ha7)
  have TX5_7 := Lib.hid (TX5_6.out.grow ha7)
  have IV5_7 := Lib.hid (IV5_6.out.grow ha7)
  have TX6_7 := Lib.hid (TX6_6.out.grow ha7)
  have IV6_7 := Lib.hid (IV6_6.out.grow ha7)
  have TX7_7 := Lib.hid (hx7.grow ((Below.refl wc7.heap.size wc7).alloc (Nat.le_refl _) (.cells #[.int .i64 a4, .int .i64 b4] 27)))
  have IV7_7 := Lib.hid (IvC.new wc7 a4 b4)
  clear TL_6 TM_6 BX_6 BEL_6 TX1_6 IV1_6 TX2_6 IV2_6 TX3_6 IV3_6 TX4_6 IV4_6 TX5_6 IV5_6 TX6_6 IV6_6 hx7 hB7 ha7 K7
  go_wp2_with (fail)
  refine (K8.out _ TL_7.out).mono ?_
  rintro e wc8 ⟨u8, rfl, hx8, _, hB8⟩
  have ha8 := hB8.alloc hB8.size (.cells #[.int .i64 a4, .int .i64 b4] 27)
  have TL_8 := Lib.hid (TL_7.out.grow ha8)
  have TM_8 := Lib.hid (TM_7.out.grow ha8)
  have BX_8 := Lib.hid (BX_7.out.grow ha8)
  have BEL_8 := Lib.hid (below_then BEL_7.out ha8)
  have TX1_8 := Lib.hid (TX1_7.out.grow ha8)
  have IV1_8 := Lib.hid (IV1_7.out.grow ha8)
  have TX2_8 := Lib.hid (TX2_7.out.grow ha8)
  have IV2_8 := Lib.hid (IV2_7.out.grow ha8)
  have TX3_8 := Lib.hid (TX3_7.out.grow ha8)
  have IV3_8 := Lib.hid (IV3_7.out.grow ha8)
  have TX4_8 := Lib.hid (TX4_7.out.grow ha8)
  have IV4_8 := Lib.hid (IV4_7.out.grow ha8)
  have TX5_8 := Lib.hid (TX5_7.out.grow ha8)
  have IV5_8 := Lib.hid (IV5_7.out.grow ha8)
  have TX6_8 := Lib.hid (TX6_7.out.grow ha8)
  have IV6_8 := Lib.hid (IV6_7.out.grow ha8)
  have TX7_8 := Lib.hid (TX7_7.out.grow ha8)
  have IV7_8 := Lib.hid (IV7_7.out.grow ha8)
  have TX8_8 := Lib.hid (hx8.grow ((Below.refl wc8.heap.size wc8).alloc (Nat.le_refl _) (.cells #[.int .i64 a4, .int .i64 b4] 27)))
  have IV8_8 := Lib.hid (IvC.new wc8 a4 b4)
  clear TL_7 TM_7 BX_7 BEL_7 TX1_7 IV1_7 TX2_7 IV2_7 TX3_7 IV3_7 TX4_7 IV4_7 TX5_7 IV5_7 TX6_7 IV6_7 TX7_7 IV7_7 hx8 hB8 ha8 K8
  have K : Below (wc8.alloc (.cells #[.int .i64 a4, .int .i64 b4] 27)).heap.size (wc8.alloc (.cells #[.int .i64 a4, .int .i64 b4] 27)) (wc8.alloc (.cells #[.int .i64 a4, .int .i64 b4] 27)) := Below.refl _ _
  obtain ⟨WE, hWE⟩ : ∃ W, (wc8.alloc (.cells #[.int .i64 a4, .int .i64 b4] 27)) = W := ⟨_, rfl⟩
  rw [hWE] at K
  rw [hWE] at TL_8 TM_8 BX_8 BEL_8 TX1_8 IV1_8 TX2_8 IV2_8 TX3_8 IV3_8 TX4_8 IV4_8 TX5_8 IV5_8 TX6_8 IV6_8 TX7_8 IV7_8 TX8_8 IV8_8
  go_wp2_with (fail)
  try rw [hWE]
  clear hWE
  refine (same_yesz _ _ L1 _ (TX1_8.out.grow K) (TX2_8.out.grow K) T1.out).mono ?_
  rintro e yc0 ⟨rfl, kc0⟩
  have kd0 := K.trans (kc0.mono K.size)
  have za := (IV1_8.out.grow kd0).c0
  have zb := (IV1_8.out.grow kd0).c1
  have zc := (IV2_8.out.grow kd0).c0
  have zd := (IV2_8.out.grow kd0).c1
  dsimp only at za zb zc zd
  clear K kc0
  go_wp2_with (fail)
  refine (r2same_0 a1 b1 a1 b1 _ (by simp) (by simp)).mono ?_
  rintro e yc1 ⟨rfl, kc1⟩
  have kd1 := kd0.trans (kc1.mono kd0.size)
  clear za zb zc zd kd0 kc1
  go_wp2_with (fail)
  refine (same_yesz _ _ L2 _ (TX3_8.out.grow kd1) (TX4_8.out.grow kd1) T2.out).mono ?_
  rintro e yc2 ⟨rfl, kc2⟩
  have kd2 := kd1.trans (kc2.mono kd1.size)
  have za := (IV3_8.out.grow kd2).c0
  have zb := (IV3_8.out.grow kd2).c1
  have zc := (IV4_8.out.grow kd2).c0
  have zd := (IV4_8.out.grow kd2).c1
  dsimp only at za zb zc zd
  clear kd1 kc2
  go_wp2_with (fail)
  refine (r2same_0 a2 b2 a2 b2 _ (by simp) (by simp)).mono ?_
  rintro e yc3 ⟨rfl, kc3⟩
  have kd3 := kd2.trans (kc3.mono kd2.size)
  clear za zb zc zd kd2 kc3
  go_wp2_with (fail)
  refine (same_yesz _ _ L3 _ (TX5_8.out.grow kd3) (TX6_8.out.grow kd3) T3.out).mono ?_
  rintro e yc4 ⟨rfl, kc4⟩
  have kd4 := kd3.trans (kc4.mono kd3.size)
  have za := (IV5_8.out.grow kd4).c0
  have zb := (IV5_8.out.grow kd4).c1
  have zc := (IV6_8.out.grow kd4).c0
  have zd := (IV6_8.out.grow kd4).c1
  dsimp only at za zb zc zd
  clear kd3 kc4
  go_wp2_with (fail)
  refine (r2same_0 a3 b3 a3 b3 _ (by simp) (by simp)).mono ?_
  rintro e yc5 ⟨rfl, kc5⟩
  have kd5 := kd4.trans (kc5.mono kd4.size)
  clear za zb zc zd kd4 kc5
  go_wp2_with (fail)
  refine (same_yesz _ _ L4 _ (TX7_8.out.grow kd5) (TX8_8.out.grow kd5) T4.out).mono ?_
  rintro e yc6 ⟨rfl, kc6⟩
  have kd6 := kd5.trans (kc6.mono kd5.size)
  have za := (IV7_8.out.grow kd6).c0
  have zb := (IV7_8.out.grow kd6).c1
  have zc := (IV8_8.out.grow kd6).c0
  have zd := (IV8_8.out.grow kd6).c1
  dsimp only at za zb zc zd
  clear kd5 kc6
  go_wp2_with (fail)
  refine (r2same_0 a4 b4 a4 b4 _ (by simp) (by simp)).mono ?_
  rintro e yc7 ⟨rfl, kc7⟩
  have kd7 := kd6.trans (kc7.mono kd6.size)
  clear za zb zc zd kd6 kc7
  go_wp2_with (fail)
  refine (K9.out _ (TL_8.out.grow kd7)).mono ?_
  rintro e yc8 ⟨rfl, kc8⟩
  have kd8 := kd7.trans (kc8.mono kd7.size)
  clear kd7 kc8
  go_wp2_with (fail)
  refine (K10.out _ (TL_8.out.grow kd8)).mono ?_
  rintro e yc9 ⟨rfl, kc9⟩
  have kd9 := kd8.trans (kc9.mono kd8.size)
  clear kd8 kc9
  go_wp2_with (fail)
  refine (r2same_0 a5 b5 a5 b5 _ (by simp) (by simp)).mono ?_
  rintro e yc10 ⟨rfl, kc10⟩
  have kd10 := kd9.trans (kc10.mono kd9.size)
  clear kd9 kc10
  go_wp2_with (fail)
  refine (K11.out _ (TL_8.out.grow kd10) (BX_8.out.grow kd10)).mono ?_
  rintro e yc11 ⟨rfl, kc11⟩
  have kd11 := kd10.trans (kc11.mono kd10.size)
  clear kd10 kc11
  go_wp2_with (fail)
  refine (K12.out _ (TL_8.out.grow kd11) (BX_8.out.grow kd11)).mono ?_
  rintro e yc12 ⟨rfl, kc12⟩
  have kd12 := kd11.trans (kc12.mono kd11.size)
  clear kd11 kc12
  go_wp2_with (fail)
  refine (r2same_0 a6 b6 a6 b6 _ (by simp) (by simp)).mono ?_
  rintro e yc13 ⟨rfl, kc13⟩
  have kd13 := kd12.trans (kc13.mono kd12.size)
  clear kd12 kc13
  go_wp2_with (fail)
  refine (K13.out _ (TL_8.out.grow kd13)).mono ?_
  rintro e yc14 ⟨rfl, kc14⟩
  have kd14 := kd13.trans (kc14.mono kd13.size)
  clear kd13 kc14
  go_wp2_with (fail)
  refine (K14.out _ (TL_8.out.grow kd14)).mono ?_
  rintro e yc15 ⟨rfl, kc15⟩
  have kd15 := kd14.trans (kc15.mono kd14.size)
  clear kd14 kc15
  go_wp2_with (fail)
  refine (const_ok c _).mono ?_
  rintro e yc16 ⟨uc, rfl, hxc, kc16⟩
  have kd16 := kd15.trans (kc16.mono kd15.size)
  have HXc := Lib.hid hxc
  clear hxc
  clear kd15 kc16
  go_wp2_with (fail)
  refine (rconst_ok c _).mono ?_
  rintro e yc17 ⟨ud, rfl, hxd, kc17⟩
  have kd17 := kd16.trans (kc17.mono kd16.size)
  have HXd := Lib.hid hxd
  have HXc2 := Lib.hid (HXc.out.grow kc17)
  clear hxd HXc
  clear kd16 kc17
  go_wp2_with (fail)
  refine (same_yesz _ _ (constT c) _ HXc2.out HXd.out T5.out).mono ?_
  rintro e yc18 ⟨rfl, kc18⟩
  have kd18 := kd17.trans (kc18.mono kd17.size)
  clear HXc2 HXd
  clear kd17 kc18
  go_wp2_with (fail)
  refine (var_ok n _).mono ?_
  rintro e yc19 ⟨ue, rfl, hxe, kc19⟩
  have kd19 := kd18.trans (kc19.mono kd18.size)
  have HXe := Lib.hid hxe
  clear hxe
  clear kd18 kc19
  go_wp2_with (fail)
  refine (rvar_ok n _).mono ?_
  rintro e yc20 ⟨uf, rfl, hxf, kc20⟩
  have kd20 := kd19.trans (kc20.mono kd19.size)
  have HXf := Lib.hid hxf
  have HXe2 := Lib.hid (HXe.out.grow kc20)
  clear hxf HXe
  clear kd19 kc20
  go_wp2_with (fail)
  refine (same_yesz _ _ (varT n) _ HXe2.out HXf.out (varT_tvz n)).mono ?_
  rintro e yc21 ⟨rfl, kc21⟩
  have kd21 := kd20.trans (kc21.mono kd20.size)
  clear HXe2 HXf
  clear kd20 kc21
  go_wp2_with (fail)
  go_ret
  exact ⟨rfl, below_then BEL_8.out kd21⟩
end Go.Proofs.YtllnpamhldapdaaGreat
