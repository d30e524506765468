/-
  Package picard: images of boxes, and whether a box holds its image.
-/
import Derived.Test.YtecmgiihacigaaaVa
import Derived.Test.YtecmgiihacigaaaUC
namespace Go.Proofs.Ytecmgiihacigaaa
open Go.ChangeShapes Go.WideShapes Go.ChangeAt Go.RowKit
set_option linter.unusedVariables false
set_option linter.unusedSimpArgs false
set_option maxRecDepth 100000
attribute [local irreducible] Calls
theorem two_at {W : World} {X : Nat} (x : Int × Int) (h : W.heap[X]? = some (.cells #[.int .i64 x.1, .int .i64 x.2] 45 (0, 0))) : ∀ j u, (encB x)[j]? = some u → W.cell? ((⟨X, 0, none⟩ : Addr).add j) = some u := by
  intro j u hj
  have hk : j < 2 := by have := (List.getElem?_eq_some_iff.1 hj).1; simpa [encB] using this
  unfold encB at hj
  match j, hk, hj with
  | 0, _, hj => cases hj; simp [Addr.add, World.cell?, h]
  | 1, _, hj => cases hj; simp [Addr.add, World.cell?, h]
set_option maxHeartbeats 8000000 in
theorem im1_ok (a b c d H s0 s1 : Int) (eb : Nat) (w : World) (hv : VI a b) (hf : VI c d) (h0 : 0 ≤ H) (h1 : H ≤ 1000000) (hE : Blk w eb (.cells #[.int .i64 0, .int .i64 H] 45)) (hs : imgP H (a, b) (c, d) = (s0, s1)) :
    Calls Try.prog 45 #[.agg #[.int .i64 a, .int .i64 b], .agg #[.int .i64 c, .int .i64 d], .pointer (some ⟨eb, 0, none⟩)] w fun e w' => e = .returned (.agg #[.int .i64 s0, .int .i64 s1]) ∧ Below w.heap.size w w' := by
  rw [imgP_eq] at hs
  dsimp only at hs
  have KM := Lib.hid (fun w => iv_mul 0 H c d w (num_vi h0 h1) hf)
  have hm := mul_vi 0 H c d
  obtain ⟨m0, hm0⟩ : ∃ m, mulLo 0 H c d = m := ⟨_, rfl⟩
  obtain ⟨m1, hm1⟩ : ∃ m, mulHi 0 H c d = m := ⟨_, rfl⟩
  rw [hm0, hm1] at KM hm hs
  have KA := Lib.hid (fun w => iv_add a b m0 m1 w hv hm)
  obtain ⟨e0, e1⟩ := Prod.mk.inj hs
  rw [e0, e1] at KA
  have hba : Below w.heap.size w (((w.alloc (.cells #[.int .i64 a, .int .i64 b] 45)).alloc (.cells #[.int .i64 c, .int .i64 d] 45)).alloc (.cells #[.int .i64 0, .int .i64 0] 45)) := allocs_below [.cells #[.int .i64 a, .int .i64 b] 45, .cells #[.int .i64 c, .int .i64 d] 45, .cells #[.int .i64 0, .int .i64 0] 45] w
  have HA := Lib.hid (show Blk (((w.alloc (.cells #[.int .i64 a, .int .i64 b] 45)).alloc (.cells #[.int .i64 c, .int .i64 d] 45)).alloc (.cells #[.int .i64 0, .int .i64 0] 45)) w.heap.size (.cells #[.int .i64 a, .int .i64 b] 45) from allocs_at [.cells #[.int .i64 a, .int .i64 b] 45, .cells #[.int .i64 c, .int .i64 d] 45, .cells #[.int .i64 0, .int .i64 0] 45] w 0 _ rfl)
  have HC := Lib.hid (show Blk (((w.alloc (.cells #[.int .i64 a, .int .i64 b] 45)).alloc (.cells #[.int .i64 c, .int .i64 d] 45)).alloc (.cells #[.int .i64 0, .int .i64 0] 45)) (w.heap.size + 1) (.cells #[.int .i64 c, .int .i64 d] 45) from allocs_at [.cells #[.int .i64 a, .int .i64 b] 45, .cells #[.int .i64 c, .int .i64 d] 45, .cells #[.int .i64 0, .int .i64 0] 45] w 1 _ rfl)
  have HR := Lib.hid (show Blk (((w.alloc (.cells #[.int .i64 a, .int .i64 b] 45)).alloc (.cells #[.int .i64 c, .int .i64 d] 45)).alloc (.cells #[.int .i64 0, .int .i64 0] 45)) (w.heap.size + 2) (.cells #[.int .i64 0, .int .i64 0] 45) from allocs_at [.cells #[.int .i64 a, .int .i64 b] 45, .cells #[.int .i64 c, .int .i64 d] 45, .cells #[.int .i64 0, .int .i64 0] 45] w 2 _ rfl)
  have HE := Lib.hid (hE.grow hba)
  have HBA := Lib.hid hba
  clear hs hm hm0 hm1 e0 e1 hba hE hv hf h0 h1
  go_enter Try.func45, Try.ntmps45
  go_wp2_with (fail)
  generalize hW0 : World.alloc (World.alloc (World.alloc w _) _) _ = W0 at *
  clear hW0
  have a0 := fun g : Grown W0 => heapN_cellj (HA.out.grow g.h) (k := 0) rfl
  have a1 := fun g : Grown W0 => heapN_cellj (HA.out.grow g.h) (k := 1) rfl
  have c0 := fun g : Grown W0 => heapN_cellj (HC.out.grow g.h) (k := 0) rfl
  have c1 := fun g : Grown W0 => heapN_cellj (HC.out.grow g.h) (k := 1) rfl
  have e0 := fun g : Grown W0 => heapN_cellj (HE.out.grow g.h) (k := 0) rfl
  have e1 := fun g : Grown W0 => heapN_cellj (HE.out.grow g.h) (k := 1) rfl
  refine region_pred_l (lk [(6, fun z_ _ => z_ = .agg #[.int .i64 a, .int .i64 b]), (7, fun z_ _ => z_ = .agg #[.int .i64 0, .int .i64 H]), (8, fun z_ _ => z_ = .agg #[.int .i64 c, .int .i64 d]), (9, fun z_ _ => z_ = .agg #[.int .i64 m0, .int .i64 m1]), (10, fun z_ _ => z_ = .agg #[.int .i64 s0, .int .i64 s1])]) 5 _ rfl (by kernel_rfl) (by kernel_rfl) (by kernel_rfl) (lk_steady _ ⟨steady_eq _, steady_eq _, steady_eq _, steady_eq _, steady_eq _, trivial⟩) ?_ ?_
  · refine ⟨?_, ?_, ?_, ?_, ?_, ?_, trivial⟩
    · intro _
      refine ob_plain [3] rfl rfl fun aa g h => ?_
      have yy0 := seen_out (v := .pointer (some ⟨w.heap.size, 0, none⟩)) rfl rfl h.1
      have ee0 := getD_of yy0
      exact tupon_value (v := .agg #[.int .i64 a, .int .i64 b]) (by simp [go_sem, ee0, yy0, a0 g, a1 g]) (Below.refl _ _) rfl
    · intro _
      refine ob_plain [2] rfl rfl fun aa g h => ?_
      have yy0 := seen_out (v := .pointer (some ⟨eb, 0, none⟩)) rfl rfl h.1
      have ee0 := getD_of yy0
      exact tupon_value (v := .agg #[.int .i64 0, .int .i64 H]) (by simp [go_sem, ee0, yy0, e0 g, e1 g]) (Below.refl _ _) rfl
    · intro _
      refine ob_plain [4] rfl rfl fun aa g h => ?_
      have yy0 := seen_out (v := .pointer (some ⟨w.heap.size + 1, 0, none⟩)) rfl rfl h.1
      have ee0 := getD_of yy0
      exact tupon_value (v := .agg #[.int .i64 c, .int .i64 d]) (by simp [go_sem, ee0, yy0, c0 g, c1 g]) (Below.refl _ _) rfl
    · intro _
      refine ob_plain [7, 8] rfl rfl fun aa g h => ?_
      obtain ⟨_, yy0, rfl⟩ := seen_in rfl h.1
      have ee0 := getD_of yy0
      obtain ⟨_, yy1, rfl⟩ := seen_in rfl h.2.1
      have ee1 := getD_of yy1
      refine tupon_enter (f := 47) (args := #[.agg #[.int .i64 0, .int .i64 H], .agg #[.int .i64 c, .int .i64 d]]) (by simp [go_sem, ee0, yy0, ee1, yy1]) rfl ?_
      exact (KM.out g.w).mono fun e w' ⟨he, hB⟩ => ⟨_, he, hB, rfl⟩
    · intro _
      refine ob_plain [6, 9] rfl rfl fun aa g h => ?_
      obtain ⟨_, yy0, rfl⟩ := seen_in rfl h.1
      have ee0 := getD_of yy0
      obtain ⟨_, yy1, rfl⟩ := seen_in rfl h.2.1
      have ee1 := getD_of yy1
      refine tupon_enter (f := 46) (args := #[.agg #[.int .i64 a, .int .i64 b], .agg #[.int .i64 m0, .int .i64 m1]]) (by simp [go_sem, ee0, yy0, ee1, yy1]) rfl ?_
      exact (KA.out g.w).mono fun e w' ⟨he, hB⟩ => ⟨_, he, hB, rfl⟩
    · exact fun h => absurd rfl h
  rintro w5 hB5 _ rfl _ rfl _ rfl _ rfl _ rfl
  simp only [Act.put, List.setIfInBounds_toArray, List.set_cons_succ, List.set_cons_zero]
  have hB6 := below_then HBA.out hB5
  have hr5 : w5.heap[w.heap.size + 2]? = some (.cells #[.int .i64 0, .int .i64 0] 45 (0, 0)) := HR.out.grow hB5
  have q0 := heapN_cellj hr5 (k := 0) rfl
  have q1 := heapN_cellj hr5 (k := 1) rfl
  have z0 : w5.frozen? ⟨w.heap.size + 2, 0, none⟩ = false := by simp [World.frozen?, hr5]
  have z1 : w5.frozen? ⟨w.heap.size + 2, 1, none⟩ = false := by simp [World.frozen?, hr5]
  clear hr5
  refine ⟨_, by simp [go_sem, q0, q1, z0, z1]; rfl, ?_⟩
  clear a0 a1 c0 c1 e0 e1
  go_wp2_with (fail)
  refine bodyPost_ret (v := .agg #[.int .i64 s0, .int .i64 s1]) (by simp [results, Try.results45, go_sem, q0, q1]) rfl ⟨rfl, ?_⟩
  exact (hB6.setCell (p := ⟨w.heap.size + 2, 0, none⟩) (by simp) _).setCell (p := ⟨w.heap.size + 2, 1, none⟩) (by simp) _
set_option maxHeartbeats 16000000 in
theorem comb_ok (vx vf : Value) (X F P : List (Int × Int)) (H : Int) (eb : Nat) (w : World) (hx : Vx w vx X) (hf : Vx w vf F) (hl : F.length = X.length) (hsm : X.length ≤ 6) (hvx : ∀ p ∈ X, VI p.1 p.2) (hvf : ∀ p ∈ F, VI p.1 p.2) (h0 : 0 ≤ H) (h1 : H ≤ 1000000) (hE : Blk w eb (.cells #[.int .i64 0, .int .i64 H] 45)) (hP : imgL H X F = P) :
    Calls Try.prog 44 #[vx, vf, .func (.func 45) #[] #[.pointer (some ⟨eb, 0, none⟩)]] w fun e w' => ∃ p c, e = .returned (.slice p X.length c) ∧ w'.ownsRow w.heap.size 45 2 (.slice p X.length c) X.length (cr encB P) ∧ Below w.heap.size w w' := by
  obtain ⟨i0, hi, hz0, hz1, hz2⟩ := info_parts info_ivB
  obtain ⟨px, cx, rfl⟩ := hx.cut
  obtain ⟨pf, cf, rfl⟩ := hf.cut
  rw [hl] at hf ⊢
  have hPl : P.length = X.length := by rw [← hP]; exact imgL_len hl
  have HX := Lib.hid hx
  have HF := Lib.hid hf
  have HL := Lib.hid hl
  have HPL := Lib.hid hPl
  have HP := Lib.hid hP
  have HE := Lib.hid hE
  have HVX := Lib.hid hvx
  have HVF := Lib.hid hvf
  have KI := Lib.hid (fun (a b c d s0 s1 : Int) (w : World) (hv : VI a b) (hf : VI c d) hE hs => im1_ok a b c d H s0 s1 eb w hv hf h0 h1 hE hs)
  clear hx hf hl hPl hP hE hvx hvf h0 h1
  obtain ⟨w6, hw6⟩ : ∃ w6, w.alloc (.cells (madeCells (Value.agg #[.int .i64 0, .int .i64 0]).cells (X.length * 2)) 45) = w6 := ⟨_, rfl⟩
  have qmk : (Instr.makeSlice 26 (.int .i64 0) (.int .i64 (X.length : Int))).run Try.prog w = .ok (.slice (some ⟨w.heap.size, 0, none⟩) 0 X.length) w6 := by
    have := run_make (P := Try.prog) w 26 45 i0 _ Try.underlying26 hi hz0 .i64 .i64 0 X.length (Int.le_refl _) (by omega) (by rw [hz2]; omega) (by omega)
    rw [hz1] at this
    simpa [hw6] using this
  have hr6 : w6.ownsRow w.heap.size 45 2 (.slice (some ⟨w.heap.size, 0, none⟩) 0 X.length) 0 [] := by
    rw [← hw6]
    exact World.ownsRow_made w _ X.length (Nat.le_refl _) (by unfold maxLen; omega) (size_madeCells _ _)
  have hb6 : Below w.heap.size w w6 := by rw [← hw6]; exact (Below.refl _ w).alloc (Nat.le_refl _) _
  have HR6 := Lib.hid hr6
  have HB6 := Lib.hid hb6
  clear hw6 hr6 hb6
  go_enter Try.func44, Try.ntmps44
  go_wp2_with (fail)
  clear qmk
  go_loopw [7, 20] (fun v i wr => ∃ k : Nat, i = .int .i64 k ∧ k ≤ X.length ∧ Hid (wr.ownsRow w.heap.size 45 2 v k (cr encB (P.take k))) ∧ Hid (Below w.heap.size w wr)) (fun v i _ => X.length - (intOf i).toNat)
  case atStart => exact ⟨0, rfl, Nat.zero_le _, HR6, HB6⟩
  case round =>
    clear HR6 HB6
    obtain ⟨k, rfl, hk, HR, HB⟩ := hrel
    obtain ⟨pv, cv, rfl⟩ := own_slice HR.out
    have hsr := HB.out.size
    by_cases hlt : k < X.length
    · have i2 : (k : Int) < X.length := by omega
      obtain ⟨⟨a, b⟩, hxa⟩ : ∃ x, X[k]? = some x := ⟨_, List.getElem?_eq_getElem hlt⟩
      obtain ⟨⟨c, d⟩, hxc⟩ : ∃ x, F[k]? = some x := ⟨_, List.getElem?_eq_getElem (by rw [HL.out]; exact hlt)⟩
      obtain ⟨⟨s0, s1⟩, hs⟩ : ∃ s, imgP H (a, b) (c, d) = s := ⟨_, rfl⟩
      have hsn := imgL_snoc (H := H) hxa hxc
      rw [HP.out, hs] at hsn
      obtain ⟨bx, ox, hpe, hbx, rdx⟩ := vx_rd HX.out hxa
      obtain ⟨bf, of, hpf, hbf, rdf⟩ := vx_rd (n := X.length) HF.out hxc
      subst hpe hpf
      have KI1 := Lib.hid (fun w hE => KI.out a b c d s0 s1 w (HVX.out _ (List.mem_of_getElem? hxa)) (HVF.out _ (List.mem_of_getElem? hxc)) hE hs)
      have HS := Lib.hid hsn
      obtain ⟨x0, x1⟩ := rdx ⟨wr, HB.out⟩
      dsimp only at x0 x1
      have RDF := Lib.hid rdf
      clear hxa hxc hs hsn rdx rdf KI
      go_wp2_with (fail)
      have HB7 := Lib.hid (HB.out.alloc hsr (.cells #[.int .i64 a, .int .i64 b] 45))
      have HX7 := Lib.hid (show Blk (wr.alloc (.cells #[.int .i64 a, .int .i64 b] 45)) wr.heap.size (.cells #[.int .i64 a, .int .i64 b] 45) from World.alloc_heap_new wr _)
      have HR7 := Lib.hid (HR.out.alloc (.cells #[.int .i64 a, .int .i64 b] 45))
      generalize hW7 : World.alloc wr _ = W7 at *
      clear hW7 x0 x1
      have x0 := fun g : Grown W7 => heapN_cellj (HX7.out.grow g.h) (k := 0) rfl
      have x1 := fun g : Grown W7 => heapN_cellj (HX7.out.grow g.h) (k := 1) rfl
      have f0 := fun g : Grown W7 => (RDF.out ⟨g.w, HB7.out.trans (g.h.mono HB7.out.size)⟩).1
      have f1 := fun g : Grown W7 => (RDF.out ⟨g.w, HB7.out.trans (g.h.mono HB7.out.size)⟩).2
      have HE7 := Lib.hid (HE.out.grow HB7.out)
      refine region_pred_n 9 (lk [(25, fun z_ _ => z_ = .slice pv k cv), (26, fun z_ _ => z_ = .func (.func 45) #[] #[.pointer (some ⟨eb, 0, none⟩)]), (27, fun z_ _ => z_ = .agg #[.int .i64 a, .int .i64 b]), (28, fun z_ _ => z_ = .slice (some ⟨bf, of, none⟩) X.length cf), (29, fun z_ _ => z_ = .int .i64 (k : Int)), (30, fun z_ _ => z_ = .pointer (some ⟨bf, of + k * 2, none⟩)), (31, fun z_ _ => z_ = .agg #[.int .i64 c, .int .i64 d]), (32, fun z_ _ => z_ = .agg #[.int .i64 s0, .int .i64 s1]), (33, fun z_ w' => ∃ X_, z_ = .slice (some ⟨X_, 0, none⟩) 1 1 ∧ W7.heap.size ≤ X_ ∧ w'.heap[X_]? = some (.cells #[.int .i64 s0, .int .i64 s1] 45 (0, 0)))]) (by kernel_rfl) (by kernel_rfl) (lk_steady _ ⟨steady_eq _, steady_eq _, steady_eq _, steady_eq _, steady_eq _, steady_eq _, steady_eq _, steady_eq _, fun u w1 w2 hb ⟨X, e, h1, h2⟩ => ⟨X, e, h1, (hb.block X (Array.getElem?_eq_some_iff.1 h2).1).trans h2⟩, trivial⟩) ?_ ?_
      · refine ⟨?_, ?_, ?_, ?_, ?_, ?_, ?_, ?_, ?_, trivial⟩
        · refine ob_plain [7] rfl rfl fun aa g h => ?_
          have yy0 := seen_out (v := .slice pv k cv) rfl rfl h.1
          have ee0 := getD_of yy0
          exact tupon_value (v := .slice pv k cv) (by simp [go_sem, ee0, yy0]) (Below.refl _ _) rfl
        · refine ob_plain [2] rfl rfl fun aa g h => ?_
          have yy0 := seen_out (v := .func (.func 45) #[] #[.pointer (some ⟨eb, 0, none⟩)]) rfl rfl h.1
          have ee0 := getD_of yy0
          exact tupon_value (v := .func (.func 45) #[] #[.pointer (some ⟨eb, 0, none⟩)]) (by simp [go_sem, ee0, yy0]) (Below.refl _ _) rfl
        · refine ob_plain [9] rfl rfl fun aa g h => ?_
          have yy0 := seen_out (v := .pointer (some ⟨wr.heap.size, 0, none⟩)) rfl rfl h.1
          have ee0 := getD_of yy0
          exact tupon_value (v := .agg #[.int .i64 a, .int .i64 b]) (by simp [go_sem, ee0, yy0, x0 g, x1 g]) (Below.refl _ _) rfl
        · refine ob_plain [1] rfl rfl fun aa g h => ?_
          have yy0 := seen_out (v := .slice (some ⟨bf, of, none⟩) X.length cf) rfl rfl h.1
          have ee0 := getD_of yy0
          exact tupon_value (v := .slice (some ⟨bf, of, none⟩) X.length cf) (by simp [go_sem, ee0, yy0]) (Below.refl _ _) rfl
        · refine ob_plain [8] rfl rfl fun aa g h => ?_
          have yy0 := seen_out (v := .int .i64 (k : Int)) rfl rfl h.1
          have ee0 := getD_of yy0
          exact tupon_value (v := .int .i64 (k : Int)) (by simp [go_sem, ee0, yy0]) (Below.refl _ _) rfl
        · refine ob_plain [28, 29] rfl rfl fun aa g h => ?_
          obtain ⟨_, yy0, rfl⟩ := seen_in rfl h.1
          have ee0 := getD_of yy0
          obtain ⟨_, yy1, rfl⟩ := seen_in rfl h.2.1
          have ee1 := getD_of yy1
          exact tupon_value (v := .pointer (some ⟨bf, of + k * 2, none⟩)) (by simp [go_sem, ee0, yy0, ee1, yy1, i2]) (Below.refl _ _) rfl
        · refine ob_plain [30] rfl rfl fun aa g h => ?_
          obtain ⟨_, yy0, rfl⟩ := seen_in rfl h.1
          have ee0 := getD_of yy0
          exact tupon_value (v := .agg #[.int .i64 c, .int .i64 d]) (by simp [go_sem, ee0, yy0, f0 g, f1 g]) (Below.refl _ _) rfl
        · refine ob_plain [26, 27, 31] rfl rfl fun aa g h => ?_
          obtain ⟨_, yy0, rfl⟩ := seen_in rfl h.1
          have ee0 := getD_of yy0
          obtain ⟨_, yy1, rfl⟩ := seen_in rfl h.2.1
          have ee1 := getD_of yy1
          obtain ⟨_, yy2, rfl⟩ := seen_in rfl h.2.2.1
          have ee2 := getD_of yy2
          refine tupon_enter (f := 45) (args := #[.agg #[.int .i64 a, .int .i64 b], .agg #[.int .i64 c, .int .i64 d], .pointer (some ⟨eb, 0, none⟩)]) (by simp [go_sem, ee0, yy0, ee1, yy1, ee2, yy2]) rfl ?_
          exact (KI1.out g.w (HE7.out.grow g.h)).mono fun e w' ⟨he, hB⟩ => ⟨_, he, hB, rfl⟩
        · refine ob_plain [32] rfl rfl fun aa g h => ?_
          obtain ⟨_, yy0, rfl⟩ := seen_in rfl h.1
          have ee0 := getD_of yy0
          exact tupon_value (v := .slice (some ⟨g.w.heap.size, 0, none⟩) 1 1) (w1 := g.w.alloc (.cells #[.int .i64 s0, .int .i64 s1] 45)) (by simp [go_sem, ee0, yy0]) ((Below.refl _ _).alloc (Nat.le_refl _) _) ⟨_, rfl, g.h.size, World.alloc_heap_new _ _⟩
      rintro w9 hB9 _ rfl _ rfl _ rfl _ rfl _ rfl _ rfl _ rfl _ rfl _ ⟨X33, rfl, hX33, hI33⟩
      simp only [Act.put, List.setIfInBounds_toArray, List.set_cons_succ, List.set_cons_zero, finP, List.drop_succ_cons, List.drop_zero, List.take_zero, List.filterMap_nil]
      have HR9 := Lib.hid (own_keptN HR7.out hB9)
      have HB9 := Lib.hid (HB7.out.trans (hB9.mono HB7.out.size))
      have HNB := Lib.hid (two_at (s0, s1) hI33)
      clear hB9 hI33 hX33 f0 f1 x0 x1 HR HB HR7 HB7
      go_wp2_with (at_builtin; refine wpList_append_own _ rfl (.tmp 25) (.tmp 33) 26 rfl w.heap.size 45 i0 (.agg #[.int .i64 0, .int .i64 0]) 2 16 Try.underlying26 hi hz0 hz1 hz2 rfl (by decide) (.slice pv k cv) k _ rfl HR9.out ⟨X33, 0, none⟩ 1 1 (encB (s0, s1)) rfl rfl HNB.out (one_b _) (by unfold maxLen; omega) (by omega) HB9.out.size ?_)
      intro v' w8 hown' hgrow _
      have hB8 := Below.grown HB9.out hgrow HB9.out.size (fun i hi => (HR9.out.lt i hi).1)
      have HR8 := Lib.hid hown'
      have HB8 := Lib.hid hB8
      clear hown' hgrow hB8 HR9 HB9
      go_wp2_with (fail)
      go_roundw
      case rel => exact ⟨k + 1, by go_num, by omega, Lib.hid (by rw [HS.out, cr_snoc]; exact HR8.out), HB8⟩
      case measure => simp [intOf]; omega
    · obtain rfl : k = X.length := by omega
      have i2 : ¬ (X.length : Int) < X.length := by omega
      go_wp2_with (fail)
      go_ret
      refine ⟨_, _, rfl, ?_, HB.out⟩
      have h := HR.out
      rw [← HPL.out, List.take_length, HPL.out] at h
      exact h
end Go.Proofs.Ytecmgiihacigaaa
