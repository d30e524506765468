/-
  law04: MatrixMatchesReference.
-/
import Derived.Test.YtmcdkbnpcmiojaaGreatK4
import Derived.Test.YtmcdkbnpcmiojaaGreatRefH
import Derived.Test.YtmcdkbnpcmiojaaGreatRefJ
import Derived.Test.YtmcdkbnpcmiojaaGreatRefC
import Derived.Test.YtmcdkbnpcmiojaaGreatRead4
import Derived.Test.YtmcdkbnpcmiojaaGreatSan4
namespace Go.Proofs.YtmcdkbnpcmiojaaGreat
open Go.ChangeShapes Go.WideShapes Go.ChangeAt Go.RowKit
set_option linter.unusedVariables false
set_option linter.unusedSimpArgs false
set_option maxRecDepth 100000
attribute [local irreducible] Calls

theorem mref_end (w w15 : World) (aa : Act) (hdf : aa.defers = []) (hu : aa.tmps[6]? = some (.bool true)) (hT : Below w.heap.size w w15) : Code.ret.wp Tryz.prog (bodyPost Tryz.prog Tryz.f3 fun e w' => e = .returned (.bool true) ∧ Below w.heap.size w w') aa w15 :=
  wp_ret (bodyPost_ret (v := .bool true) (by simp [results, Tryz.results3, go_sem, hu]) hdf ⟨rfl, hT⟩)
section
variable (w : World) (k nn : Nat) (A B : List (List (Int × Int))) (P T : List (List Int)) (N : List (List (Int × Int))) (c : List (Int × Int)) (rb : Bool)
def phiMr : Tmp → Value → World → Prop := lk [(48, fun u w' => Mx w' u A),
  (49, fun u w' => Mx w' u B),
  (50, fun u w' => Mx w' u (mulT k A B)),
  (51, fun u w' => Mx w' u A),
  (52, fun u w' => Mx w' u B),
  (53, fun u w' => Mx w' u (mulT k A B)),
  (54, fun u _ => u = .bool true),
  (55, fun u _ => u = .bool true),
  (56, fun u w' => Mx w' u A),
  (57, fun u w' => Bx w' u c),
  (58, fun u w' => Bx w' u (apM A c)),
  (59, fun u w' => Mx w' u A),
  (60, fun u w' => Bx w' u c),
  (61, fun u w' => Bx w' u (apM A c)),
  (62, fun u _ => u = .bool true),
  (63, fun u _ => u = .bool true),
  (64, fun u _ => u = .bool true),
  (65, fun u w' => Mx w' u A),
  (66, fun u w' => Mx w' u (trM k A)),
  (67, fun u w' => Mx w' u A),
  (68, fun u w' => Mx w' u (trM k A)),
  (69, fun u _ => u = .bool true),
  (70, fun u _ => u = .bool true),
  (71, fun u _ => u = .bool true),
  (72, fun u w' => Mx w' u A),
  (73, fun u w' => Nx w' u (A.map (List.map midI))),
  (74, fun u w' => Mx w' u ((A.map (List.map midI)).map (List.map ptI))),
  (75, fun u w' => Mx w' u A),
  (76, fun u w' => Nx w' u (A.map (List.map midI))),
  (77, fun u w' => Mx w' u ((A.map (List.map midI)).map (List.map ptI))),
  (78, fun u _ => u = .bool true),
  (79, fun u _ => u = .bool true),
  (80, fun u _ => u = .bool true),
  (81, fun u w' => Nx w' u P),
  (82, fun u w' => Nx w' u T),
  (83, fun u w' => Mx w' u (T.map (List.map ptI))),
  (84, fun u w' => Nx w' u P),
  (85, fun u w' => Nx w' u T),
  (86, fun u w' => Mx w' u (T.map (List.map ptI))),
  (87, fun u _ => u = .bool true),
  (88, fun u _ => u = .bool true),
  (89, fun u _ => u = .bool true),
  (90, fun u w' => Mx w' u N),
  (91, fun u w' => Mx w' u N),
  (92, fun u _ => u = .bool true),
  (93, fun u _ => u = .bool true),
  (94, fun u _ => u = .bool true),
  (95, fun u _ => u = .bool rb),
  (96, fun u _ => u = .bool rb),
  (97, fun u _ => u = .bool true),
  (98, fun u _ => u = .bool true),
  (99, fun u _ => u = .bool true),
  (100, fun u _ => u = .pointer (some ⟨w.heap.size, 3, none⟩)),
  (101, fun u _ => u = .int .u8 (nn : Int)),
  (102, fun u _ => u = .int .i64 (nn : Int)),
  (103, fun u w' => Mx w' u (idM nn)),
  (104, fun u _ => u = .pointer (some ⟨w.heap.size, 3, none⟩)),
  (105, fun u _ => u = .int .u8 (nn : Int)),
  (106, fun u _ => u = .int .i64 (nn : Int)),
  (107, fun u w' => Mx w' u (idM nn)),
  (108, fun u _ => u = .bool true),
  (109, fun u _ => u = .bool true),
  (110, fun u _ => u = .bool true),
  (111, fun u _ => u = .bool true),
  (112, fun u _ => u = .bool true),
  (6, fun u _ => u = .bool true)]
theorem phiMr_steady : ∀ t v w1 w2, Below w1.heap.size w1 w2 → phiMr w k nn A B P T N c rb t v w1 → phiMr w k nn A B P T N c rb t v w2 := lk_steady _ ⟨steady_mx _, steady_mx _, steady_mx _, steady_mx _, steady_mx _, steady_mx _, steady_eq _, steady_eq _, steady_mx _, steady_bx _, steady_bx _, steady_mx _, steady_bx _, steady_bx _, steady_eq _, steady_eq _, steady_eq _, steady_mx _, steady_mx _, steady_mx _, steady_mx _, steady_eq _, steady_eq _, steady_eq _, steady_mx _, steady_nx _, steady_mx _, steady_mx _, steady_nx _, steady_mx _, steady_eq _, steady_eq _, steady_eq _, steady_nx _, steady_nx _, steady_mx _, steady_nx _, steady_nx _, steady_mx _, steady_eq _, steady_eq _, steady_eq _, steady_mx _, steady_mx _, steady_eq _, steady_eq _, steady_eq _, steady_eq _, steady_eq _, steady_eq _, steady_eq _, steady_eq _, steady_eq _, steady_eq _, steady_eq _, steady_mx _, steady_eq _, steady_eq _, steady_eq _, steady_mx _, steady_eq _, steady_eq _, steady_eq _, steady_eq _, steady_eq _, steady_eq _, trivial⟩
end
/-- What both inverses return. -/
def invR (M : List (List (Int × Int))) (n : Nat) : List (List (Int × Int)) × Bool := match invV M n with | none => ([], false) | some N => (N, true)
theorem inv_end {w w' : World} {M : List (List (Int × Int))} {n : Nat} {e : Ending} (h : InvEnd w M n e w') : ∃ u, e = .returned (.tuple #[u, .bool (invR M n).2]) ∧ Mx w' u (invR M n).1 ∧ Below w.heap.size w w' := by
  obtain ⟨h1, h2, h3⟩ := h
  unfold invR
  cases hi : invV M n with
  | none => exact ⟨_, h2 hi, Lx.nil, h3⟩
  | some N =>
    obtain ⟨u, e1, e2⟩ := h1 N hi
    exact ⟨u, e1, e2, h3⟩
theorem from_len {M : List (List (Int × Int))} {k : Nat} (h : Sq k M) : (M.map (List.map midI)).length = k ∧ ∀ r ∈ M.map (List.map midI), r.length = k := ⟨by rw [List.length_map, h.1], fun r hr => by
  rw [List.mem_map] at hr
  obtain ⟨s, hs, rfl⟩ := hr
  rw [List.length_map, (h.2 s hs).1]⟩
set_option maxHeartbeats 64000000 in
theorem matref (w : World) (vA vB vC : Value) (n : Int) (la lb lc : List (Int × Int)) (hA : Bx w vA la ∧ I64 la) (hB : Bx w vB lb ∧ I64 lb) (hC : Bx w vC lc ∧ I64 lc) (hn : 0 ≤ n ∧ n < 256) (a1 : Value) (a1l : List (List (Int × Int))) (w1 : Mx w a1 a1l ∧ ∀ r ∈ a1l, I64 r) (a2 : Value) (a2l : List Int) (w2 : Pt w a2 a2l ∧ ∀ x ∈ a2l, -9223372036854775808 ≤ x ∧ x ≤ 9223372036854775807) :
    Calls Tryz.prog 3 #[.agg #[vA, vB, vC, .int .u8 n], a1, a2] w fun e w' => e = .returned (.bool true) ∧ Below w.heap.size w w' := by
  obtain ⟨hn0, hn1⟩ := hn
  have hm0 : 0 ≤ n % 4 := Int.emod_nonneg _ (by decide)
  have hm1 : n % 4 < 4 := Int.emod_lt_of_pos _ (by decide)
  obtain ⟨k, hk⟩ : ∃ k : Nat, 1 + n % 4 = (k : Int) := ⟨(1 + n % 4).toNat, by omega⟩
  have hk1 : 1 ≤ k := by omega
  have hk4 : k ≤ 4 := by omega
  have hk6 : k ≤ 6 := by omega
  have HA := Lib.hid hA
  have HB := Lib.hid hB
  have HC := Lib.hid hC
  clear hA hB hC
  obtain ⟨nn, rfl⟩ : ∃ nn : Nat, n = (nn : Int) := ⟨n.toNat, by omega⟩
  have hnn : nn < 256 := by omega
  have WN := wrap_ok (nn : Int) (by omega) (by omega)
  have HD := Lib.hid (r4dim (nn : Int) · hn0 hn1)
  have HK := Lib.hid hk
  rw [hk] at HD
  have H1 := Lib.hid w1
  have H2 := Lib.hid w2
  obtain ⟨pr, cr, rfl⟩ := w1.1.cut
  clear w1 w2 hk hm0 hm1
  go_enter Tryz.func3, Tryz.ntmps3
  go_wp2_with (fail)
  generalize hW0 : World.alloc w _ = W0
  have hT0 : Below w.heap.size w W0 := by subst hW0; exact ((Below.refl w.heap.size w).alloc (by go_size) _)
  have Y0 : w.heap.size < W0.heap.size := by subst hW0; simp <;> omega
  have F0_0 : ∀ g : Grown W0, g.w.cell? ⟨w.heap.size, 0, none⟩ = some (vA) := fun g => (g.cell Y0).trans (by subst hW0; simp [go_sem])
  have F0_1 : ∀ g : Grown W0, g.w.cell? ⟨w.heap.size, 1, none⟩ = some (vB) := fun g => (g.cell Y0).trans (by subst hW0; simp [go_sem])
  have F0_2 : ∀ g : Grown W0, g.w.cell? ⟨w.heap.size, 2, none⟩ = some (vC) := fun g => (g.cell Y0).trans (by subst hW0; simp [go_sem])
  have F0_3 : ∀ g : Grown W0, g.w.cell? ⟨w.heap.size, 3, none⟩ = some (.int .u8 (nn : Int)) := fun g => (g.cell Y0).trans (by subst hW0; simp [go_sem])
  clear Y0 hW0
  obtain ⟨g0, hg0⟩ : ∃ g : Grown W0, W0 = g.w := ⟨⟨W0, Below.refl _ _⟩, rfl⟩
  rw [hg0]
  refine (sanity4 _).mono ?_
  rintro e w' ⟨rfl, hB⟩
  obtain ⟨g1, rfl⟩ := grow g0 hB
  clear hB hg0
  by_cases h8 : a1l.length ≤ 8
  · have i8 : (a1l.length : Int) ≤ 8 := by omega
    obtain ⟨vb8, hv8⟩ : ∃ b, (a1l.all vrow && sqB a1l) = b := ⟨_, rfl⟩
    have HV1 := Lib.hid (fun w => mx_valid (.slice pr a1l.length cr) a1l w)
    have HV2 := Lib.hid (fun w => r4valid_any (.slice pr a1l.length cr) a1l w)
    rw [hv8] at HV1 HV2
    clear hv8
    go_wp2_with (fail)
    refine (HV1.out _ ((H1.out.1.grow grows_bx hT0).grow grows_bx g1.h)).mono ?_
    rintro e w' ⟨rfl, hB⟩
    obtain ⟨g2, rfl⟩ := grow g1 hB
    clear hB
    go_wp2_with (fail)
    refine (HV2.out _ ((H1.out.1.grow grows_bx hT0).grow grows_bx g2.h)).mono ?_
    rintro e w' ⟨rfl, hB⟩
    obtain ⟨g3, rfl⟩ := grow g2 hB
    clear hB
    go_wp2_with (fail)
    refine (law4made vA vB vC la lb lc (nn : Int) k _ ((HA.out.1.grow hT0).grow g3.h) ((HB.out.1.grow hT0).grow g3.h) ((HC.out.1.grow hT0).grow g3.h) HA.out.2 HB.out.2 HC.out.2 hn0 hn1 HK.out).mono ?_
    rintro e w' ⟨va, vb, vx, c, rfl, sA, sB, qcl, qcv, hx, hB⟩
    obtain ⟨A, qA, ha⟩ := smat_mx sA hk6
    obtain ⟨B, qB, hb⟩ := smat_mx sB hk6
    have QA := Lib.hid (show Sq k A from qA)
    have QB := Lib.hid (show Sq k B from qB)
    have Qcl := Lib.hid qcl
    have Qcv := Lib.hid qcv
    clear sA sB qA qB qcl qcv
    obtain ⟨g4, rfl⟩ := grow g3 hB
    clear hB
    go_wp2_with (fail)
    refine (HD.out _).mono ?_
    rintro e w' ⟨rfl, rfl⟩
    go_wp2_with (fail)
    refine (r4numbers a2 a2l k _ ((H2.out.1.grow hT0).grow g4.h) H2.out.2 hk1 hk6).mono ?_
    rintro e w' ⟨vm, us, P, rfl, hPl, hPr, hO, hB⟩
    have hm := hO.nx (by rw [hPl]; unfold maxLen; omega) (fun r hr => by rw [(hPr r hr).1]; unfold maxLen; omega)
    have HPL := Lib.hid hPl
    have HPR : Hid (∀ r ∈ P, r.length = k) := Lib.hid (fun r hr => (hPr r hr).1)
    have HPB : Hid (∀ r ∈ P, ∀ x ∈ r, -16777216 ≤ x ∧ x ≤ 16777216) := Lib.hid (fun r hr x hx => by have := (hPr r hr).2 x hx; omega)
    clear hPl hPr hO
    obtain ⟨g5, rfl⟩ := grow g4 hB
    replace hx := hx.grow hB
    replace ha := ha.grow grows_bx hB
    replace hb := hb.grow grows_bx hB
    clear hB
    obtain ⟨N, hN⟩ : ∃ N, invR A k = N := ⟨_, rfl⟩
    obtain ⟨N, rb⟩ := N
    have HN := Lib.hid hN
    clear hN
    go_wp2_with (fail)
    refine (inv_ok va A k _ ha QA.out hk1 hk6).mono ?_
    rintro e w' he
    obtain ⟨v1, rfl, hi1, hB⟩ := inv_end he
    rw [HN.out]
    rw [HN.out] at hi1
    clear he
    dsimp only at hi1
    obtain ⟨g6, rfl⟩ := grow g5 hB
    replace hx := hx.grow hB
    replace ha := ha.grow grows_bx hB
    replace hb := hb.grow grows_bx hB
    replace hm := hm.grow grows_pt hB
    clear hB
    go_wp2_with (fail)
    refine (r4inv va A k _ ha QA.out hk1 hk6).mono ?_
    rintro e w' he
    obtain ⟨v2, rfl, hi2, hB⟩ := inv_end he
    rw [HN.out]
    rw [HN.out] at hi2
    clear he
    dsimp only at hi2
    obtain ⟨g7, rfl⟩ := grow g6 hB
    replace hx := hx.grow hB
    replace ha := ha.grow grows_bx hB
    replace hb := hb.grow grows_bx hB
    replace hi1 := hi1.grow grows_bx hB
    replace hm := hm.grow grows_pt hB
    clear hB
    have hpre := orth_pre HPL.out hk4 HPB.out
    obtain ⟨T, hT⟩ : ∃ T, matOf (orthF P k) k = T := ⟨_, rfl⟩
    have hTl : T.length = k := by rw [← hT]; simp [matOf]
    have hTr : ∀ r ∈ T, r.length = k := fun r h => by
      rw [← hT] at h
      unfold matOf at h
      rw [List.mem_map] at h
      obtain ⟨i, _, rfl⟩ := h
      simp [rowOf]
    have HTL := Lib.hid hTl
    have HTR := Lib.hid hTr
    have HO1 : Hid (∀ (v : Value) (W : World), Nx W v P → Calls Tryz.prog 24 #[v] W fun e w' => ∃ u, e = .returned u ∧ Nx w' u T ∧ Below W.heap.size W w') := Lib.hid (fun v W h => by rw [← hT]; exact orth_ok v P k W h HPL.out hk1 hk6 HPR.out hpre.1 hpre.2)
    have HO2 : Hid (∀ (v : Value) (W : World), Nx W v P → Calls Tryz.prog 25 #[v] W fun e w' => ∃ u, e = .returned u ∧ Nx w' u T ∧ Below W.heap.size W w') := Lib.hid (fun v W h => by rw [← hT]; exact r4orth v P k W h HPL.out hk1 hk4 HPR.out HPB.out)
    clear hT hTl hTr hpre
    have fB : ∀ gg : Grown g7.w, gg.w.cell? ⟨w.heap.size, 3, none⟩ = some (.int .u8 (nn : Int)) := fun gg => F0_3 ⟨gg.w, below_then g7.h gg.h⟩
    go_wp2_with (fail)
    simp only [List.append_eq, List.cons_append, List.nil_append]
    refine region_pred_raw (phiMr w k nn A B P T N c rb) rfl (by as_aux_lemma => kernel_rfl) (phiMr_steady w k nn A B P T N c rb) ?_ ?_
    · refine ⟨?_, ?_, ?_, ?_, ?_, ?_, ?_, ?_, ?_, ?_, ?_, ?_, ?_, ?_, ?_, ?_, ?_, ?_, ?_, ?_, ?_, ?_, ?_, ?_, ?_, ?_, ?_, ?_, ?_, ?_, ?_, ?_, ?_, ?_, ?_, ?_, ?_, ?_, ?_, ?_, ?_, ?_, ?_, ?_, ?_, ?_, ?_, ?_, ?_, ?_, ?_, ?_, ?_, ?_, ?_, ?_, ?_, ?_, ?_, ?_, ?_, ?_, ?_, ?_, ?_, ?_, trivial⟩
      · refine ob_plain [8] rfl rfl fun aa g h => ?_
        have r0 := seen_out (v := va) rfl rfl h.1
        have e0 := getD_of r0
        exact upon_value (v := va) (by simp [go_sem, e0, r0]) (Below.refl _ _) (ha.grow grows_bx g.h)
      · refine ob_plain [9] rfl rfl fun aa g h => ?_
        have r0 := seen_out (v := vb) rfl rfl h.1
        have e0 := getD_of r0
        exact upon_value (v := vb) (by simp [go_sem, e0, r0]) (Below.refl _ _) (hb.grow grows_bx g.h)
      · refine ob_plain [48, 49] rfl rfl fun aa g h => ?_
        obtain ⟨v0, r0, p0⟩ := seen_in rfl h.1
        have e0 := getD_of r0
        obtain ⟨v1, r1, p1⟩ := seen_in rfl h.2.1
        have e1 := getD_of r1
        refine upon_enter (f := 13) (args := #[v0, v1]) (by simp [go_sem, e0, r0, e1, r1]) rfl ?_
        exact (mul_k _ _ A B k _ (p0) (p1) QA.out QB.out hk1 hk6).mono fun e w' ⟨u, he, hu, hB⟩ => ⟨u, he, hB, hu⟩
      · refine ob_plain [8] rfl rfl fun aa g h => ?_
        have r0 := seen_out (v := va) rfl rfl h.1
        have e0 := getD_of r0
        exact upon_value (v := va) (by simp [go_sem, e0, r0]) (Below.refl _ _) (ha.grow grows_bx g.h)
      · refine ob_plain [9] rfl rfl fun aa g h => ?_
        have r0 := seen_out (v := vb) rfl rfl h.1
        have e0 := getD_of r0
        exact upon_value (v := vb) (by simp [go_sem, e0, r0]) (Below.refl _ _) (hb.grow grows_bx g.h)
      · refine ob_plain [51, 52] rfl rfl fun aa g h => ?_
        obtain ⟨v0, r0, p0⟩ := seen_in rfl h.1
        have e0 := getD_of r0
        obtain ⟨v1, r1, p1⟩ := seen_in rfl h.2.1
        have e1 := getD_of r1
        refine upon_enter (f := 14) (args := #[v0, v1]) (by simp [go_sem, e0, r0, e1, r1]) rfl ?_
        exact (r4mul _ _ A B k _ (p0) (p1) QA.out QB.out hk1 hk6).mono fun e w' ⟨u, he, hu, hB⟩ => ⟨u, he, hB, hu⟩
      · refine ob_plain [50, 53] rfl rfl fun aa g h => ?_
        obtain ⟨v0, r0, p0⟩ := seen_in rfl h.1
        have e0 := getD_of r0
        obtain ⟨v1, r1, p1⟩ := seen_in rfl h.2.1
        have e1 := getD_of r1
        refine upon_enter (f := 12) (args := #[v0, v1]) (by simp [go_sem, e0, r0, e1, r1]) rfl ?_
        exact (same_k _ _ (mulT k A B) (mulT k A B) _ (p0) (p1) rfl).mono fun e w' ⟨he, hB⟩ => ⟨_, he, hB, rfl⟩
      · refine ob_plain [54] rfl rfl fun aa g h => ?_
        obtain ⟨_, r0, rfl⟩ := seen_in rfl h.1
        have e0 := getD_of r0
        exact upon_value (v := .bool true) (by simp [go_sem, e0, r0]) (Below.refl _ _) rfl
      · refine ob_gtrue [8] 7 true 55 rfl rfl rfl rfl (fun v w h => h) fun aa g h => ?_
        have r0 := seen_out (v := va) rfl rfl h.1
        have e0 := getD_of r0
        exact upon_value (v := va) (by simp [go_sem, e0, r0]) (Below.refl _ _) (ha.grow grows_bx g.h)
      · refine ob_gtrue [10] 7 true 55 rfl rfl rfl rfl (fun v w h => h) fun aa g h => ?_
        have r0 := seen_out (v := vx) rfl rfl h.1
        have e0 := getD_of r0
        exact upon_value (v := vx) (by simp [go_sem, e0, r0]) (Below.refl _ _) (hx.grow g.h)
      · refine ob_gtrue [56, 57] 7 true 55 rfl rfl rfl rfl (fun v w h => h) fun aa g h => ?_
        obtain ⟨v0, r0, p0⟩ := seen_in rfl h.1
        have e0 := getD_of r0
        obtain ⟨v1, r1, p1⟩ := seen_in rfl h.2.1
        have e1 := getD_of r1
        refine upon_enter (f := 16) (args := #[v0, v1]) (by simp [go_sem, e0, r0, e1, r1]) rfl ?_
        exact (apply_k _ _ A c k _ (p0) (p1) QA.out Qcl.out Qcv.out hk6).mono fun e w' ⟨u, he, hu, hB⟩ => ⟨u, he, hB, hu⟩
      · refine ob_gtrue [8] 7 true 55 rfl rfl rfl rfl (fun v w h => h) fun aa g h => ?_
        have r0 := seen_out (v := va) rfl rfl h.1
        have e0 := getD_of r0
        exact upon_value (v := va) (by simp [go_sem, e0, r0]) (Below.refl _ _) (ha.grow grows_bx g.h)
      · refine ob_gtrue [10] 7 true 55 rfl rfl rfl rfl (fun v w h => h) fun aa g h => ?_
        have r0 := seen_out (v := vx) rfl rfl h.1
        have e0 := getD_of r0
        exact upon_value (v := vx) (by simp [go_sem, e0, r0]) (Below.refl _ _) (hx.grow g.h)
      · refine ob_gtrue [59, 60] 7 true 55 rfl rfl rfl rfl (fun v w h => h) fun aa g h => ?_
        obtain ⟨v0, r0, p0⟩ := seen_in rfl h.1
        have e0 := getD_of r0
        obtain ⟨v1, r1, p1⟩ := seen_in rfl h.2.1
        have e1 := getD_of r1
        refine upon_enter (f := 17) (args := #[v0, v1]) (by simp [go_sem, e0, r0, e1, r1]) rfl ?_
        exact (r4apply _ _ A c k _ (p0) (p1) QA.out Qcl.out Qcv.out hk1 hk6).mono fun e w' ⟨u, he, hu, hB⟩ => ⟨u, he, hB, hu⟩
      · refine ob_gtrue [58, 61] 7 true 55 rfl rfl rfl rfl (fun v w h => h) fun aa g h => ?_
        obtain ⟨v0, r0, p0⟩ := seen_in rfl h.1
        have e0 := getD_of r0
        obtain ⟨v1, r1, p1⟩ := seen_in rfl h.2.1
        have e1 := getD_of r1
        refine upon_enter (f := 15) (args := #[v0, v1]) (by simp [go_sem, e0, r0, e1, r1]) rfl ?_
        exact (same_b _ _ (apM A c) (apM A c) _ (p0) (p1) rfl).mono fun e w' ⟨he, hB⟩ => ⟨_, he, hB, rfl⟩
      · refine ob_plain [55, 62] rfl rfl fun aa g h => ?_
        obtain ⟨_, r0, rfl⟩ := seen_in rfl h.1
        have e0 := getD_of r0
        obtain ⟨_, r1, rfl⟩ := seen_in rfl h.2.1
        have e1 := getD_of r1
        exact upon_value (v := .bool true) (by simp [go_sem, e0, r0, e1, r1]) (Below.refl _ _) rfl
      · refine ob_plain [63] rfl rfl fun aa g h => ?_
        obtain ⟨_, r0, rfl⟩ := seen_in rfl h.1
        have e0 := getD_of r0
        exact upon_value (v := .bool true) (by simp [go_sem, e0, r0]) (Below.refl _ _) rfl
      · refine ob_gtrue [8] 16 true 64 rfl rfl rfl rfl (fun v w h => h) fun aa g h => ?_
        have r0 := seen_out (v := va) rfl rfl h.1
        have e0 := getD_of r0
        exact upon_value (v := va) (by simp [go_sem, e0, r0]) (Below.refl _ _) (ha.grow grows_bx g.h)
      · refine ob_gtrue [65] 16 true 64 rfl rfl rfl rfl (fun v w h => h) fun aa g h => ?_
        obtain ⟨v0, r0, p0⟩ := seen_in rfl h.1
        have e0 := getD_of r0
        refine upon_enter (f := 18) (args := #[v0]) (by simp [go_sem, e0, r0]) rfl ?_
        exact (transp_k _ A k _ (p0) QA.out hk1 hk6).mono fun e w' ⟨u, he, hu, hB⟩ => ⟨u, he, hB, hu⟩
      · refine ob_gtrue [8] 16 true 64 rfl rfl rfl rfl (fun v w h => h) fun aa g h => ?_
        have r0 := seen_out (v := va) rfl rfl h.1
        have e0 := getD_of r0
        exact upon_value (v := va) (by simp [go_sem, e0, r0]) (Below.refl _ _) (ha.grow grows_bx g.h)
      · refine ob_gtrue [67] 16 true 64 rfl rfl rfl rfl (fun v w h => h) fun aa g h => ?_
        obtain ⟨v0, r0, p0⟩ := seen_in rfl h.1
        have e0 := getD_of r0
        refine upon_enter (f := 19) (args := #[v0]) (by simp [go_sem, e0, r0]) rfl ?_
        exact (r4transp _ A k _ (p0) QA.out hk1 hk6).mono fun e w' ⟨u, he, hu, hB⟩ => ⟨u, he, hB, hu⟩
      · refine ob_gtrue [66, 68] 16 true 64 rfl rfl rfl rfl (fun v w h => h) fun aa g h => ?_
        obtain ⟨v0, r0, p0⟩ := seen_in rfl h.1
        have e0 := getD_of r0
        obtain ⟨v1, r1, p1⟩ := seen_in rfl h.2.1
        have e1 := getD_of r1
        refine upon_enter (f := 12) (args := #[v0, v1]) (by simp [go_sem, e0, r0, e1, r1]) rfl ?_
        exact (same_k _ _ (trM k A) (trM k A) _ (p0) (p1) rfl).mono fun e w' ⟨he, hB⟩ => ⟨_, he, hB, rfl⟩
      · refine ob_plain [64, 69] rfl rfl fun aa g h => ?_
        obtain ⟨_, r0, rfl⟩ := seen_in rfl h.1
        have e0 := getD_of r0
        obtain ⟨_, r1, rfl⟩ := seen_in rfl h.2.1
        have e1 := getD_of r1
        exact upon_value (v := .bool true) (by simp [go_sem, e0, r0, e1, r1]) (Below.refl _ _) rfl
      · refine ob_plain [70] rfl rfl fun aa g h => ?_
        obtain ⟨_, r0, rfl⟩ := seen_in rfl h.1
        have e0 := getD_of r0
        exact upon_value (v := .bool true) (by simp [go_sem, e0, r0]) (Below.refl _ _) rfl
      · refine ob_gtrue [8] 23 true 71 rfl rfl rfl rfl (fun v w h => h) fun aa g h => ?_
        have r0 := seen_out (v := va) rfl rfl h.1
        have e0 := getD_of r0
        exact upon_value (v := va) (by simp [go_sem, e0, r0]) (Below.refl _ _) (ha.grow grows_bx g.h)
      · refine ob_gtrue [72] 23 true 71 rfl rfl rfl rfl (fun v w h => h) fun aa g h => ?_
        obtain ⟨v0, r0, p0⟩ := seen_in rfl h.1
        have e0 := getD_of r0
        refine upon_enter (f := 21) (args := #[v0]) (by simp [go_sem, e0, r0]) rfl ?_
        exact (mx_midm _ A _ (p0) (by rw [QA.out.1]; omega) (fun r hr => ⟨by rw [(QA.out.2 r hr).1]; omega, (QA.out.2 r hr).2⟩)).mono fun e w' ⟨u, he, hu, hB⟩ => ⟨u, he, hB, hu⟩
      · refine ob_gtrue [73] 23 true 71 rfl rfl rfl rfl (fun v w h => h) fun aa g h => ?_
        obtain ⟨v0, r0, p0⟩ := seen_in rfl h.1
        have e0 := getD_of r0
        refine upon_enter (f := 20) (args := #[v0]) (by simp [go_sem, e0, r0]) rfl ?_
        exact (mx_from _ (A.map (List.map midI)) _ (p0) (by rw [(from_len QA.out).1]; omega) (fun r hr => by rw [(from_len QA.out).2 r hr]; omega)).mono fun e w' ⟨u, he, hu, hB⟩ => ⟨u, he, hB, hu⟩
      · refine ob_gtrue [8] 23 true 71 rfl rfl rfl rfl (fun v w h => h) fun aa g h => ?_
        have r0 := seen_out (v := va) rfl rfl h.1
        have e0 := getD_of r0
        exact upon_value (v := va) (by simp [go_sem, e0, r0]) (Below.refl _ _) (ha.grow grows_bx g.h)
      · refine ob_gtrue [75] 23 true 71 rfl rfl rfl rfl (fun v w h => h) fun aa g h => ?_
        obtain ⟨v0, r0, p0⟩ := seen_in rfl h.1
        have e0 := getD_of r0
        refine upon_enter (f := 23) (args := #[v0]) (by simp [go_sem, e0, r0]) rfl ?_
        exact (r4mid _ A k _ (p0) QA.out hk1 hk6).mono fun e w' ⟨u, he, hu, hB⟩ => ⟨u, he, hB, hu⟩
      · refine ob_gtrue [76] 23 true 71 rfl rfl rfl rfl (fun v w h => h) fun aa g h => ?_
        obtain ⟨v0, r0, p0⟩ := seen_in rfl h.1
        have e0 := getD_of r0
        refine upon_enter (f := 22) (args := #[v0]) (by simp [go_sem, e0, r0]) rfl ?_
        exact (r4from _ (A.map (List.map midI)) k _ (p0) (from_len QA.out).1 (from_len QA.out).2 hk1 hk6).mono fun e w' ⟨u, he, hu, hB⟩ => ⟨u, he, hB, hu⟩
      · refine ob_gtrue [74, 77] 23 true 71 rfl rfl rfl rfl (fun v w h => h) fun aa g h => ?_
        obtain ⟨v0, r0, p0⟩ := seen_in rfl h.1
        have e0 := getD_of r0
        obtain ⟨v1, r1, p1⟩ := seen_in rfl h.2.1
        have e1 := getD_of r1
        refine upon_enter (f := 12) (args := #[v0, v1]) (by simp [go_sem, e0, r0, e1, r1]) rfl ?_
        exact (same_k _ _ ((A.map (List.map midI)).map (List.map ptI)) ((A.map (List.map midI)).map (List.map ptI)) _ (p0) (p1) rfl).mono fun e w' ⟨he, hB⟩ => ⟨_, he, hB, rfl⟩
      · refine ob_plain [71, 78] rfl rfl fun aa g h => ?_
        obtain ⟨_, r0, rfl⟩ := seen_in rfl h.1
        have e0 := getD_of r0
        obtain ⟨_, r1, rfl⟩ := seen_in rfl h.2.1
        have e1 := getD_of r1
        exact upon_value (v := .bool true) (by simp [go_sem, e0, r0, e1, r1]) (Below.refl _ _) rfl
      · refine ob_plain [79] rfl rfl fun aa g h => ?_
        obtain ⟨_, r0, rfl⟩ := seen_in rfl h.1
        have e0 := getD_of r0
        exact upon_value (v := .bool true) (by simp [go_sem, e0, r0]) (Below.refl _ _) rfl
      · refine ob_gtrue [11] 32 true 80 rfl rfl rfl rfl (fun v w h => h) fun aa g h => ?_
        have r0 := seen_out (v := vm) rfl rfl h.1
        have e0 := getD_of r0
        exact upon_value (v := vm) (by simp [go_sem, e0, r0]) (Below.refl _ _) (hm.grow grows_pt g.h)
      · refine ob_gtrue [81] 32 true 80 rfl rfl rfl rfl (fun v w h => h) fun aa g h => ?_
        obtain ⟨v0, r0, p0⟩ := seen_in rfl h.1
        have e0 := getD_of r0
        refine upon_enter (f := 24) (args := #[v0]) (by simp [go_sem, e0, r0]) rfl ?_
        exact (HO1.out _ _ (p0)).mono fun e w' ⟨u, he, hu, hB⟩ => ⟨u, he, hB, hu⟩
      · refine ob_gtrue [82] 32 true 80 rfl rfl rfl rfl (fun v w h => h) fun aa g h => ?_
        obtain ⟨v0, r0, p0⟩ := seen_in rfl h.1
        have e0 := getD_of r0
        refine upon_enter (f := 20) (args := #[v0]) (by simp [go_sem, e0, r0]) rfl ?_
        exact (mx_from _ T _ (p0) (by rw [HTL.out]; omega) (fun r hr => by rw [HTR.out r hr]; omega)).mono fun e w' ⟨u, he, hu, hB⟩ => ⟨u, he, hB, hu⟩
      · refine ob_gtrue [11] 32 true 80 rfl rfl rfl rfl (fun v w h => h) fun aa g h => ?_
        have r0 := seen_out (v := vm) rfl rfl h.1
        have e0 := getD_of r0
        exact upon_value (v := vm) (by simp [go_sem, e0, r0]) (Below.refl _ _) (hm.grow grows_pt g.h)
      · refine ob_gtrue [84] 32 true 80 rfl rfl rfl rfl (fun v w h => h) fun aa g h => ?_
        obtain ⟨v0, r0, p0⟩ := seen_in rfl h.1
        have e0 := getD_of r0
        refine upon_enter (f := 25) (args := #[v0]) (by simp [go_sem, e0, r0]) rfl ?_
        exact (HO2.out _ _ (p0)).mono fun e w' ⟨u, he, hu, hB⟩ => ⟨u, he, hB, hu⟩
      · refine ob_gtrue [85] 32 true 80 rfl rfl rfl rfl (fun v w h => h) fun aa g h => ?_
        obtain ⟨v0, r0, p0⟩ := seen_in rfl h.1
        have e0 := getD_of r0
        refine upon_enter (f := 22) (args := #[v0]) (by simp [go_sem, e0, r0]) rfl ?_
        exact (r4from _ T k _ (p0) HTL.out HTR.out hk1 hk6).mono fun e w' ⟨u, he, hu, hB⟩ => ⟨u, he, hB, hu⟩
      · refine ob_gtrue [83, 86] 32 true 80 rfl rfl rfl rfl (fun v w h => h) fun aa g h => ?_
        obtain ⟨v0, r0, p0⟩ := seen_in rfl h.1
        have e0 := getD_of r0
        obtain ⟨v1, r1, p1⟩ := seen_in rfl h.2.1
        have e1 := getD_of r1
        refine upon_enter (f := 12) (args := #[v0, v1]) (by simp [go_sem, e0, r0, e1, r1]) rfl ?_
        exact (same_k _ _ (T.map (List.map ptI)) (T.map (List.map ptI)) _ (p0) (p1) rfl).mono fun e w' ⟨he, hB⟩ => ⟨_, he, hB, rfl⟩
      · refine ob_plain [80, 87] rfl rfl fun aa g h => ?_
        obtain ⟨_, r0, rfl⟩ := seen_in rfl h.1
        have e0 := getD_of r0
        obtain ⟨_, r1, rfl⟩ := seen_in rfl h.2.1
        have e1 := getD_of r1
        exact upon_value (v := .bool true) (by simp [go_sem, e0, r0, e1, r1]) (Below.refl _ _) rfl
      · refine ob_plain [88] rfl rfl fun aa g h => ?_
        obtain ⟨_, r0, rfl⟩ := seen_in rfl h.1
        have e0 := getD_of r0
        exact upon_value (v := .bool true) (by simp [go_sem, e0, r0]) (Below.refl _ _) rfl
      · refine ob_gtrue [12] 41 true 89 rfl rfl rfl rfl (fun v w h => h) fun aa g h => ?_
        have r0 := seen_out (v := v1) rfl rfl h.1
        have e0 := getD_of r0
        exact upon_value (v := v1) (by simp [go_sem, e0, r0]) (Below.refl _ _) (hi1.grow grows_bx g.h)
      · refine ob_gtrue [14] 41 true 89 rfl rfl rfl rfl (fun v w h => h) fun aa g h => ?_
        have r0 := seen_out (v := v2) rfl rfl h.1
        have e0 := getD_of r0
        exact upon_value (v := v2) (by simp [go_sem, e0, r0]) (Below.refl _ _) (hi2.grow grows_bx g.h)
      · refine ob_gtrue [90, 91] 41 true 89 rfl rfl rfl rfl (fun v w h => h) fun aa g h => ?_
        obtain ⟨v0, r0, p0⟩ := seen_in rfl h.1
        have e0 := getD_of r0
        obtain ⟨v1, r1, p1⟩ := seen_in rfl h.2.1
        have e1 := getD_of r1
        refine upon_enter (f := 12) (args := #[v0, v1]) (by simp [go_sem, e0, r0, e1, r1]) rfl ?_
        exact (same_k _ _ N N _ (p0) (p1) rfl).mono fun e w' ⟨he, hB⟩ => ⟨_, he, hB, rfl⟩
      · refine ob_plain [89, 92] rfl rfl fun aa g h => ?_
        obtain ⟨_, r0, rfl⟩ := seen_in rfl h.1
        have e0 := getD_of r0
        obtain ⟨_, r1, rfl⟩ := seen_in rfl h.2.1
        have e1 := getD_of r1
        exact upon_value (v := .bool true) (by simp [go_sem, e0, r0, e1, r1]) (Below.refl _ _) rfl
      · refine ob_plain [93] rfl rfl fun aa g h => ?_
        obtain ⟨_, r0, rfl⟩ := seen_in rfl h.1
        have e0 := getD_of r0
        exact upon_value (v := .bool true) (by simp [go_sem, e0, r0]) (Below.refl _ _) rfl
      · refine ob_gtrue [13] 46 true 94 rfl rfl rfl rfl (fun v w h => h) fun aa g h => ?_
        have r0 := seen_out (v := .bool rb) rfl rfl h.1
        have e0 := getD_of r0
        exact upon_value (v := .bool rb) (by simp [go_sem, e0, r0]) (Below.refl _ _) rfl
      · refine ob_gtrue [15] 46 true 94 rfl rfl rfl rfl (fun v w h => h) fun aa g h => ?_
        have r0 := seen_out (v := .bool rb) rfl rfl h.1
        have e0 := getD_of r0
        exact upon_value (v := .bool rb) (by simp [go_sem, e0, r0]) (Below.refl _ _) rfl
      · refine ob_gtrue [95, 96] 46 true 94 rfl rfl rfl rfl (fun v w h => h) fun aa g h => ?_
        obtain ⟨_, r0, rfl⟩ := seen_in rfl h.1
        have e0 := getD_of r0
        obtain ⟨_, r1, rfl⟩ := seen_in rfl h.2.1
        have e1 := getD_of r1
        exact upon_value (v := .bool true) (by simp [go_sem, e0, r0, e1, r1]) (Below.refl _ _) rfl
      · refine ob_plain [94, 97] rfl rfl fun aa g h => ?_
        obtain ⟨_, r0, rfl⟩ := seen_in rfl h.1
        have e0 := getD_of r0
        obtain ⟨_, r1, rfl⟩ := seen_in rfl h.2.1
        have e1 := getD_of r1
        exact upon_value (v := .bool true) (by simp [go_sem, e0, r0, e1, r1]) (Below.refl _ _) rfl
      · refine ob_plain [98] rfl rfl fun aa g h => ?_
        obtain ⟨_, r0, rfl⟩ := seen_in rfl h.1
        have e0 := getD_of r0
        exact upon_value (v := .bool true) (by simp [go_sem, e0, r0]) (Below.refl _ _) rfl
      · refine ob_gtrue [3] 51 true 99 rfl rfl rfl rfl (fun v w h => h) fun aa g h => ?_
        have r0 := seen_out (v := .pointer (some ⟨w.heap.size, 0, none⟩)) rfl rfl h.1
        have e0 := getD_of r0
        exact upon_value (v := .pointer (some ⟨w.heap.size, 3, none⟩)) (by simp [go_sem, e0, r0]) (Below.refl _ _) rfl
      · refine ob_gtrue [100] 51 true 99 rfl rfl rfl rfl (fun v w h => h) fun aa g h => ?_
        obtain ⟨_, r0, rfl⟩ := seen_in rfl h.1
        have e0 := getD_of r0
        exact upon_value (v := .int .u8 (nn : Int)) (by simp [go_sem, e0, r0, fB g]) (Below.refl _ _) rfl
      · refine ob_gtrue [101] 51 true 99 rfl rfl rfl rfl (fun v w h => h) fun aa g h => ?_
        obtain ⟨_, r0, rfl⟩ := seen_in rfl h.1
        have e0 := getD_of r0
        exact upon_value (v := .int .i64 (nn : Int)) (by simp [go_sem, e0, r0, WN]) (Below.refl _ _) rfl
      · refine ob_gtrue [102] 51 true 99 rfl rfl rfl rfl (fun v w h => h) fun aa g h => ?_
        obtain ⟨_, r0, rfl⟩ := seen_in rfl h.1
        have e0 := getD_of r0
        refine upon_enter (f := 26) (args := #[.int .i64 (nn : Int)]) (by simp [go_sem, e0, r0]) rfl ?_
        exact (ident_any nn _ (by omega)).mono fun e w' ⟨u, he, hu, hB⟩ => ⟨u, he, hB, hu⟩
      · refine ob_gtrue [3] 51 true 99 rfl rfl rfl rfl (fun v w h => h) fun aa g h => ?_
        have r0 := seen_out (v := .pointer (some ⟨w.heap.size, 0, none⟩)) rfl rfl h.1
        have e0 := getD_of r0
        exact upon_value (v := .pointer (some ⟨w.heap.size, 3, none⟩)) (by simp [go_sem, e0, r0]) (Below.refl _ _) rfl
      · refine ob_gtrue [104] 51 true 99 rfl rfl rfl rfl (fun v w h => h) fun aa g h => ?_
        obtain ⟨_, r0, rfl⟩ := seen_in rfl h.1
        have e0 := getD_of r0
        exact upon_value (v := .int .u8 (nn : Int)) (by simp [go_sem, e0, r0, fB g]) (Below.refl _ _) rfl
      · refine ob_gtrue [105] 51 true 99 rfl rfl rfl rfl (fun v w h => h) fun aa g h => ?_
        obtain ⟨_, r0, rfl⟩ := seen_in rfl h.1
        have e0 := getD_of r0
        exact upon_value (v := .int .i64 (nn : Int)) (by simp [go_sem, e0, r0, WN]) (Below.refl _ _) rfl
      · refine ob_gtrue [106] 51 true 99 rfl rfl rfl rfl (fun v w h => h) fun aa g h => ?_
        obtain ⟨_, r0, rfl⟩ := seen_in rfl h.1
        have e0 := getD_of r0
        refine upon_enter (f := 27) (args := #[.int .i64 (nn : Int)]) (by simp [go_sem, e0, r0]) rfl ?_
        exact (r4ident_any nn _ (by omega)).mono fun e w' ⟨u, he, hu, hB⟩ => ⟨u, he, hB, hu⟩
      · refine ob_gtrue [103, 107] 51 true 99 rfl rfl rfl rfl (fun v w h => h) fun aa g h => ?_
        obtain ⟨v0, r0, p0⟩ := seen_in rfl h.1
        have e0 := getD_of r0
        obtain ⟨v1, r1, p1⟩ := seen_in rfl h.2.1
        have e1 := getD_of r1
        refine upon_enter (f := 12) (args := #[v0, v1]) (by simp [go_sem, e0, r0, e1, r1]) rfl ?_
        exact (same_k _ _ (idM nn) (idM nn) _ (p0) (p1) rfl).mono fun e w' ⟨he, hB⟩ => ⟨_, he, hB, rfl⟩
      · refine ob_plain [99, 108] rfl rfl fun aa g h => ?_
        obtain ⟨_, r0, rfl⟩ := seen_in rfl h.1
        have e0 := getD_of r0
        obtain ⟨_, r1, rfl⟩ := seen_in rfl h.2.1
        have e1 := getD_of r1
        exact upon_value (v := .bool true) (by simp [go_sem, e0, r0, e1, r1]) (Below.refl _ _) rfl
      · refine ob_plain [109] rfl rfl fun aa g h => ?_
        obtain ⟨_, r0, rfl⟩ := seen_in rfl h.1
        have e0 := getD_of r0
        exact upon_value (v := .bool true) (by simp [go_sem, e0, r0]) (Below.refl _ _) rfl
      · refine ob_gtrue [7] 62 true 110 rfl rfl rfl rfl (fun v w h => h) fun aa g h => ?_
        have r0 := seen_out (v := .bool true) rfl rfl h.1
        have e0 := getD_of r0
        exact upon_value (v := .bool true) (by simp [go_sem, e0, r0]) (Below.refl _ _) rfl
      · refine ob_plain [110, 111] rfl rfl fun aa g h => ?_
        obtain ⟨_, r0, rfl⟩ := seen_in rfl h.1
        have e0 := getD_of r0
        obtain ⟨_, r1, rfl⟩ := seen_in rfl h.2.1
        have e1 := getD_of r1
        exact upon_value (v := .bool true) (by simp [go_sem, e0, r0, e1, r1]) (Below.refl _ _) rfl
      · refine ob_plain [112] rfl rfl fun aa g h => ?_
        obtain ⟨_, r0, rfl⟩ := seen_in rfl h.1
        have e0 := getD_of r0
        exact upon_value (v := .bool true) (by simp [go_sem, e0, r0]) (Below.refl _ _) rfl
    · intro aa gg hdf hsz hold hval
      obtain ⟨u, hu', hpu⟩ := hval 6 (by decide)
      obtain rfl : u = .bool true := hpu
      rename_i K hK
      exact hK _ _ (mref_end w gg.w aa hdf hu' (below_then (below_then hT0 g7.h) gg.h))
  · have i8 : (8 : Int) < a1l.length := by omega
    go_wp2_with (fail)
    refine (law4made vA vB vC la lb lc (nn : Int) k _ ((HA.out.1.grow hT0).grow g1.h) ((HB.out.1.grow hT0).grow g1.h) ((HC.out.1.grow hT0).grow g1.h) HA.out.2 HB.out.2 HC.out.2 hn0 hn1 HK.out).mono ?_
    rintro e w' ⟨va, vb, vx, c, rfl, sA, sB, qcl, qcv, hx, hB⟩
    obtain ⟨A, qA, ha⟩ := smat_mx sA hk6
    obtain ⟨B, qB, hb⟩ := smat_mx sB hk6
    have QA := Lib.hid (show Sq k A from qA)
    have QB := Lib.hid (show Sq k B from qB)
    have Qcl := Lib.hid qcl
    have Qcv := Lib.hid qcv
    clear sA sB qA qB qcl qcv
    obtain ⟨g2, rfl⟩ := grow g1 hB
    clear hB
    go_wp2_with (fail)
    refine (HD.out _).mono ?_
    rintro e w' ⟨rfl, rfl⟩
    go_wp2_with (fail)
    refine (r4numbers a2 a2l k _ ((H2.out.1.grow hT0).grow g2.h) H2.out.2 hk1 hk6).mono ?_
    rintro e w' ⟨vm, us, P, rfl, hPl, hPr, hO, hB⟩
    have hm := hO.nx (by rw [hPl]; unfold maxLen; omega) (fun r hr => by rw [(hPr r hr).1]; unfold maxLen; omega)
    have HPL := Lib.hid hPl
    have HPR : Hid (∀ r ∈ P, r.length = k) := Lib.hid (fun r hr => (hPr r hr).1)
    have HPB : Hid (∀ r ∈ P, ∀ x ∈ r, -16777216 ≤ x ∧ x ≤ 16777216) := Lib.hid (fun r hr x hx => by have := (hPr r hr).2 x hx; omega)
    clear hPl hPr hO
    obtain ⟨g3, rfl⟩ := grow g2 hB
    replace hx := hx.grow hB
    replace ha := ha.grow grows_bx hB
    replace hb := hb.grow grows_bx hB
    clear hB
    obtain ⟨N, hN⟩ : ∃ N, invR A k = N := ⟨_, rfl⟩
    obtain ⟨N, rb⟩ := N
    have HN := Lib.hid hN
    clear hN
    go_wp2_with (fail)
    refine (inv_ok va A k _ ha QA.out hk1 hk6).mono ?_
    rintro e w' he
    obtain ⟨v1, rfl, hi1, hB⟩ := inv_end he
    rw [HN.out]
    rw [HN.out] at hi1
    clear he
    dsimp only at hi1
    obtain ⟨g4, rfl⟩ := grow g3 hB
    replace hx := hx.grow hB
    replace ha := ha.grow grows_bx hB
    replace hb := hb.grow grows_bx hB
    replace hm := hm.grow grows_pt hB
    clear hB
    go_wp2_with (fail)
    refine (r4inv va A k _ ha QA.out hk1 hk6).mono ?_
    rintro e w' he
    obtain ⟨v2, rfl, hi2, hB⟩ := inv_end he
    rw [HN.out]
    rw [HN.out] at hi2
    clear he
    dsimp only at hi2
    obtain ⟨g5, rfl⟩ := grow g4 hB
    replace hx := hx.grow hB
    replace ha := ha.grow grows_bx hB
    replace hb := hb.grow grows_bx hB
    replace hi1 := hi1.grow grows_bx hB
    replace hm := hm.grow grows_pt hB
    clear hB
    have hpre := orth_pre HPL.out hk4 HPB.out
    obtain ⟨T, hT⟩ : ∃ T, matOf (orthF P k) k = T := ⟨_, rfl⟩
    have hTl : T.length = k := by rw [← hT]; simp [matOf]
    have hTr : ∀ r ∈ T, r.length = k := fun r h => by
      rw [← hT] at h
      unfold matOf at h
      rw [List.mem_map] at h
      obtain ⟨i, _, rfl⟩ := h
      simp [rowOf]
    have HTL := Lib.hid hTl
    have HTR := Lib.hid hTr
    have HO1 : Hid (∀ (v : Value) (W : World), Nx W v P → Calls Tryz.prog 24 #[v] W fun e w' => ∃ u, e = .returned u ∧ Nx w' u T ∧ Below W.heap.size W w') := Lib.hid (fun v W h => by rw [← hT]; exact orth_ok v P k W h HPL.out hk1 hk6 HPR.out hpre.1 hpre.2)
    have HO2 : Hid (∀ (v : Value) (W : World), Nx W v P → Calls Tryz.prog 25 #[v] W fun e w' => ∃ u, e = .returned u ∧ Nx w' u T ∧ Below W.heap.size W w') := Lib.hid (fun v W h => by rw [← hT]; exact r4orth v P k W h HPL.out hk1 hk4 HPR.out HPB.out)
    clear hT hTl hTr hpre
    have fB : ∀ gg : Grown g5.w, gg.w.cell? ⟨w.heap.size, 3, none⟩ = some (.int .u8 (nn : Int)) := fun gg => F0_3 ⟨gg.w, below_then g5.h gg.h⟩
    go_wp2_with (fail)
    simp only [List.append_eq, List.cons_append, List.nil_append]
    refine region_pred_raw (phiMr w k nn A B P T N c rb) rfl (by as_aux_lemma => kernel_rfl) (phiMr_steady w k nn A B P T N c rb) ?_ ?_
    · refine ⟨?_, ?_, ?_, ?_, ?_, ?_, ?_, ?_, ?_, ?_, ?_, ?_, ?_, ?_, ?_, ?_, ?_, ?_, ?_, ?_, ?_, ?_, ?_, ?_, ?_, ?_, ?_, ?_, ?_, ?_, ?_, ?_, ?_, ?_, ?_, ?_, ?_, ?_, ?_, ?_, ?_, ?_, ?_, ?_, ?_, ?_, ?_, ?_, ?_, ?_, ?_, ?_, ?_, ?_, ?_, ?_, ?_, ?_, ?_, ?_, ?_, ?_, ?_, ?_, ?_, ?_, trivial⟩
      · refine ob_plain [8] rfl rfl fun aa g h => ?_
        have r0 := seen_out (v := va) rfl rfl h.1
        have e0 := getD_of r0
        exact upon_value (v := va) (by simp [go_sem, e0, r0]) (Below.refl _ _) (ha.grow grows_bx g.h)
      · refine ob_plain [9] rfl rfl fun aa g h => ?_
        have r0 := seen_out (v := vb) rfl rfl h.1
        have e0 := getD_of r0
        exact upon_value (v := vb) (by simp [go_sem, e0, r0]) (Below.refl _ _) (hb.grow grows_bx g.h)
      · refine ob_plain [48, 49] rfl rfl fun aa g h => ?_
        obtain ⟨v0, r0, p0⟩ := seen_in rfl h.1
        have e0 := getD_of r0
        obtain ⟨v1, r1, p1⟩ := seen_in rfl h.2.1
        have e1 := getD_of r1
        refine upon_enter (f := 13) (args := #[v0, v1]) (by simp [go_sem, e0, r0, e1, r1]) rfl ?_
        exact (mul_k _ _ A B k _ (p0) (p1) QA.out QB.out hk1 hk6).mono fun e w' ⟨u, he, hu, hB⟩ => ⟨u, he, hB, hu⟩
      · refine ob_plain [8] rfl rfl fun aa g h => ?_
        have r0 := seen_out (v := va) rfl rfl h.1
        have e0 := getD_of r0
        exact upon_value (v := va) (by simp [go_sem, e0, r0]) (Below.refl _ _) (ha.grow grows_bx g.h)
      · refine ob_plain [9] rfl rfl fun aa g h => ?_
        have r0 := seen_out (v := vb) rfl rfl h.1
        have e0 := getD_of r0
        exact upon_value (v := vb) (by simp [go_sem, e0, r0]) (Below.refl _ _) (hb.grow grows_bx g.h)
      · refine ob_plain [51, 52] rfl rfl fun aa g h => ?_
        obtain ⟨v0, r0, p0⟩ := seen_in rfl h.1
        have e0 := getD_of r0
        obtain ⟨v1, r1, p1⟩ := seen_in rfl h.2.1
        have e1 := getD_of r1
        refine upon_enter (f := 14) (args := #[v0, v1]) (by simp [go_sem, e0, r0, e1, r1]) rfl ?_
        exact (r4mul _ _ A B k _ (p0) (p1) QA.out QB.out hk1 hk6).mono fun e w' ⟨u, he, hu, hB⟩ => ⟨u, he, hB, hu⟩
      · refine ob_plain [50, 53] rfl rfl fun aa g h => ?_
        obtain ⟨v0, r0, p0⟩ := seen_in rfl h.1
        have e0 := getD_of r0
        obtain ⟨v1, r1, p1⟩ := seen_in rfl h.2.1
        have e1 := getD_of r1
        refine upon_enter (f := 12) (args := #[v0, v1]) (by simp [go_sem, e0, r0, e1, r1]) rfl ?_
        exact (same_k _ _ (mulT k A B) (mulT k A B) _ (p0) (p1) rfl).mono fun e w' ⟨he, hB⟩ => ⟨_, he, hB, rfl⟩
      · refine ob_plain [54] rfl rfl fun aa g h => ?_
        obtain ⟨_, r0, rfl⟩ := seen_in rfl h.1
        have e0 := getD_of r0
        exact upon_value (v := .bool true) (by simp [go_sem, e0, r0]) (Below.refl _ _) rfl
      · refine ob_gtrue [8] 7 true 55 rfl rfl rfl rfl (fun v w h => h) fun aa g h => ?_
        have r0 := seen_out (v := va) rfl rfl h.1
        have e0 := getD_of r0
        exact upon_value (v := va) (by simp [go_sem, e0, r0]) (Below.refl _ _) (ha.grow grows_bx g.h)
      · refine ob_gtrue [10] 7 true 55 rfl rfl rfl rfl (fun v w h => h) fun aa g h => ?_
        have r0 := seen_out (v := vx) rfl rfl h.1
        have e0 := getD_of r0
        exact upon_value (v := vx) (by simp [go_sem, e0, r0]) (Below.refl _ _) (hx.grow g.h)
      · refine ob_gtrue [56, 57] 7 true 55 rfl rfl rfl rfl (fun v w h => h) fun aa g h => ?_
        obtain ⟨v0, r0, p0⟩ := seen_in rfl h.1
        have e0 := getD_of r0
        obtain ⟨v1, r1, p1⟩ := seen_in rfl h.2.1
        have e1 := getD_of r1
        refine upon_enter (f := 16) (args := #[v0, v1]) (by simp [go_sem, e0, r0, e1, r1]) rfl ?_
        exact (apply_k _ _ A c k _ (p0) (p1) QA.out Qcl.out Qcv.out hk6).mono fun e w' ⟨u, he, hu, hB⟩ => ⟨u, he, hB, hu⟩
      · refine ob_gtrue [8] 7 true 55 rfl rfl rfl rfl (fun v w h => h) fun aa g h => ?_
        have r0 := seen_out (v := va) rfl rfl h.1
        have e0 := getD_of r0
        exact upon_value (v := va) (by simp [go_sem, e0, r0]) (Below.refl _ _) (ha.grow grows_bx g.h)
      · refine ob_gtrue [10] 7 true 55 rfl rfl rfl rfl (fun v w h => h) fun aa g h => ?_
        have r0 := seen_out (v := vx) rfl rfl h.1
        have e0 := getD_of r0
        exact upon_value (v := vx) (by simp [go_sem, e0, r0]) (Below.refl _ _) (hx.grow g.h)
      · refine ob_gtrue [59, 60] 7 true 55 rfl rfl rfl rfl (fun v w h => h) fun aa g h => ?_
        obtain ⟨v0, r0, p0⟩ := seen_in rfl h.1
        have e0 := getD_of r0
        obtain ⟨v1, r1, p1⟩ := seen_in rfl h.2.1
        have e1 := getD_of r1
        refine upon_enter (f := 17) (args := #[v0, v1]) (by simp [go_sem, e0, r0, e1, r1]) rfl ?_
        exact (r4apply _ _ A c k _ (p0) (p1) QA.out Qcl.out Qcv.out hk1 hk6).mono fun e w' ⟨u, he, hu, hB⟩ => ⟨u, he, hB, hu⟩
      · refine ob_gtrue [58, 61] 7 true 55 rfl rfl rfl rfl (fun v w h => h) fun aa g h => ?_
        obtain ⟨v0, r0, p0⟩ := seen_in rfl h.1
        have e0 := getD_of r0
        obtain ⟨v1, r1, p1⟩ := seen_in rfl h.2.1
        have e1 := getD_of r1
        refine upon_enter (f := 15) (args := #[v0, v1]) (by simp [go_sem, e0, r0, e1, r1]) rfl ?_
        exact (same_b _ _ (apM A c) (apM A c) _ (p0) (p1) rfl).mono fun e w' ⟨he, hB⟩ => ⟨_, he, hB, rfl⟩
      · refine ob_plain [55, 62] rfl rfl fun aa g h => ?_
        obtain ⟨_, r0, rfl⟩ := seen_in rfl h.1
        have e0 := getD_of r0
        obtain ⟨_, r1, rfl⟩ := seen_in rfl h.2.1
        have e1 := getD_of r1
        exact upon_value (v := .bool true) (by simp [go_sem, e0, r0, e1, r1]) (Below.refl _ _) rfl
      · refine ob_plain [63] rfl rfl fun aa g h => ?_
        obtain ⟨_, r0, rfl⟩ := seen_in rfl h.1
        have e0 := getD_of r0
        exact upon_value (v := .bool true) (by simp [go_sem, e0, r0]) (Below.refl _ _) rfl
      · refine ob_gtrue [8] 16 true 64 rfl rfl rfl rfl (fun v w h => h) fun aa g h => ?_
        have r0 := seen_out (v := va) rfl rfl h.1
        have e0 := getD_of r0
        exact upon_value (v := va) (by simp [go_sem, e0, r0]) (Below.refl _ _) (ha.grow grows_bx g.h)
      · refine ob_gtrue [65] 16 true 64 rfl rfl rfl rfl (fun v w h => h) fun aa g h => ?_
        obtain ⟨v0, r0, p0⟩ := seen_in rfl h.1
        have e0 := getD_of r0
        refine upon_enter (f := 18) (args := #[v0]) (by simp [go_sem, e0, r0]) rfl ?_
        exact (transp_k _ A k _ (p0) QA.out hk1 hk6).mono fun e w' ⟨u, he, hu, hB⟩ => ⟨u, he, hB, hu⟩
      · refine ob_gtrue [8] 16 true 64 rfl rfl rfl rfl (fun v w h => h) fun aa g h => ?_
        have r0 := seen_out (v := va) rfl rfl h.1
        have e0 := getD_of r0
        exact upon_value (v := va) (by simp [go_sem, e0, r0]) (Below.refl _ _) (ha.grow grows_bx g.h)
      · refine ob_gtrue [67] 16 true 64 rfl rfl rfl rfl (fun v w h => h) fun aa g h => ?_
        obtain ⟨v0, r0, p0⟩ := seen_in rfl h.1
        have e0 := getD_of r0
        refine upon_enter (f := 19) (args := #[v0]) (by simp [go_sem, e0, r0]) rfl ?_
        exact (r4transp _ A k _ (p0) QA.out hk1 hk6).mono fun e w' ⟨u, he, hu, hB⟩ => ⟨u, he, hB, hu⟩
      · refine ob_gtrue [66, 68] 16 true 64 rfl rfl rfl rfl (fun v w h => h) fun aa g h => ?_
        obtain ⟨v0, r0, p0⟩ := seen_in rfl h.1
        have e0 := getD_of r0
        obtain ⟨v1, r1, p1⟩ := seen_in rfl h.2.1
        have e1 := getD_of r1
        refine upon_enter (f := 12) (args := #[v0, v1]) (by simp [go_sem, e0, r0, e1, r1]) rfl ?_
        exact (same_k _ _ (trM k A) (trM k A) _ (p0) (p1) rfl).mono fun e w' ⟨he, hB⟩ => ⟨_, he, hB, rfl⟩
      · refine ob_plain [64, 69] rfl rfl fun aa g h => ?_
        obtain ⟨_, r0, rfl⟩ := seen_in rfl h.1
        have e0 := getD_of r0
        obtain ⟨_, r1, rfl⟩ := seen_in rfl h.2.1
        have e1 := getD_of r1
        exact upon_value (v := .bool true) (by simp [go_sem, e0, r0, e1, r1]) (Below.refl _ _) rfl
      · refine ob_plain [70] rfl rfl fun aa g h => ?_
        obtain ⟨_, r0, rfl⟩ := seen_in rfl h.1
        have e0 := getD_of r0
        exact upon_value (v := .bool true) (by simp [go_sem, e0, r0]) (Below.refl _ _) rfl
      · refine ob_gtrue [8] 23 true 71 rfl rfl rfl rfl (fun v w h => h) fun aa g h => ?_
        have r0 := seen_out (v := va) rfl rfl h.1
        have e0 := getD_of r0
        exact upon_value (v := va) (by simp [go_sem, e0, r0]) (Below.refl _ _) (ha.grow grows_bx g.h)
      · refine ob_gtrue [72] 23 true 71 rfl rfl rfl rfl (fun v w h => h) fun aa g h => ?_
        obtain ⟨v0, r0, p0⟩ := seen_in rfl h.1
        have e0 := getD_of r0
        refine upon_enter (f := 21) (args := #[v0]) (by simp [go_sem, e0, r0]) rfl ?_
        exact (mx_midm _ A _ (p0) (by rw [QA.out.1]; omega) (fun r hr => ⟨by rw [(QA.out.2 r hr).1]; omega, (QA.out.2 r hr).2⟩)).mono fun e w' ⟨u, he, hu, hB⟩ => ⟨u, he, hB, hu⟩
      · refine ob_gtrue [73] 23 true 71 rfl rfl rfl rfl (fun v w h => h) fun aa g h => ?_
        obtain ⟨v0, r0, p0⟩ := seen_in rfl h.1
        have e0 := getD_of r0
        refine upon_enter (f := 20) (args := #[v0]) (by simp [go_sem, e0, r0]) rfl ?_
        exact (mx_from _ (A.map (List.map midI)) _ (p0) (by rw [(from_len QA.out).1]; omega) (fun r hr => by rw [(from_len QA.out).2 r hr]; omega)).mono fun e w' ⟨u, he, hu, hB⟩ => ⟨u, he, hB, hu⟩
      · refine ob_gtrue [8] 23 true 71 rfl rfl rfl rfl (fun v w h => h) fun aa g h => ?_
        have r0 := seen_out (v := va) rfl rfl h.1
        have e0 := getD_of r0
        exact upon_value (v := va) (by simp [go_sem, e0, r0]) (Below.refl _ _) (ha.grow grows_bx g.h)
      · refine ob_gtrue [75] 23 true 71 rfl rfl rfl rfl (fun v w h => h) fun aa g h => ?_
        obtain ⟨v0, r0, p0⟩ := seen_in rfl h.1
        have e0 := getD_of r0
        refine upon_enter (f := 23) (args := #[v0]) (by simp [go_sem, e0, r0]) rfl ?_
        exact (r4mid _ A k _ (p0) QA.out hk1 hk6).mono fun e w' ⟨u, he, hu, hB⟩ => ⟨u, he, hB, hu⟩
      · refine ob_gtrue [76] 23 true 71 rfl rfl rfl rfl (fun v w h => h) fun aa g h => ?_
        obtain ⟨v0, r0, p0⟩ := seen_in rfl h.1
        have e0 := getD_of r0
        refine upon_enter (f := 22) (args := #[v0]) (by simp [go_sem, e0, r0]) rfl ?_
        exact (r4from _ (A.map (List.map midI)) k _ (p0) (from_len QA.out).1 (from_len QA.out).2 hk1 hk6).mono fun e w' ⟨u, he, hu, hB⟩ => ⟨u, he, hB, hu⟩
      · refine ob_gtrue [74, 77] 23 true 71 rfl rfl rfl rfl (fun v w h => h) fun aa g h => ?_
        obtain ⟨v0, r0, p0⟩ := seen_in rfl h.1
        have e0 := getD_of r0
        obtain ⟨v1, r1, p1⟩ := seen_in rfl h.2.1
        have e1 := getD_of r1
        refine upon_enter (f := 12) (args := #[v0, v1]) (by simp [go_sem, e0, r0, e1, r1]) rfl ?_
        exact (same_k _ _ ((A.map (List.map midI)).map (List.map ptI)) ((A.map (List.map midI)).map (List.map ptI)) _ (p0) (p1) rfl).mono fun e w' ⟨he, hB⟩ => ⟨_, he, hB, rfl⟩
      · refine ob_plain [71, 78] rfl rfl fun aa g h => ?_
        obtain ⟨_, r0, rfl⟩ := seen_in rfl h.1
        have e0 := getD_of r0
        obtain ⟨_, r1, rfl⟩ := seen_in rfl h.2.1
        have e1 := getD_of r1
        exact upon_value (v := .bool true) (by simp [go_sem, e0, r0, e1, r1]) (Below.refl _ _) rfl
      · refine ob_plain [79] rfl rfl fun aa g h => ?_
        obtain ⟨_, r0, rfl⟩ := seen_in rfl h.1
        have e0 := getD_of r0
        exact upon_value (v := .bool true) (by simp [go_sem, e0, r0]) (Below.refl _ _) rfl
      · refine ob_gtrue [11] 32 true 80 rfl rfl rfl rfl (fun v w h => h) fun aa g h => ?_
        have r0 := seen_out (v := vm) rfl rfl h.1
        have e0 := getD_of r0
        exact upon_value (v := vm) (by simp [go_sem, e0, r0]) (Below.refl _ _) (hm.grow grows_pt g.h)
      · refine ob_gtrue [81] 32 true 80 rfl rfl rfl rfl (fun v w h => h) fun aa g h => ?_
        obtain ⟨v0, r0, p0⟩ := seen_in rfl h.1
        have e0 := getD_of r0
        refine upon_enter (f := 24) (args := #[v0]) (by simp [go_sem, e0, r0]) rfl ?_
        exact (HO1.out _ _ (p0)).mono fun e w' ⟨u, he, hu, hB⟩ => ⟨u, he, hB, hu⟩
      · refine ob_gtrue [82] 32 true 80 rfl rfl rfl rfl (fun v w h => h) fun aa g h => ?_
        obtain ⟨v0, r0, p0⟩ := seen_in rfl h.1
        have e0 := getD_of r0
        refine upon_enter (f := 20) (args := #[v0]) (by simp [go_sem, e0, r0]) rfl ?_
        exact (mx_from _ T _ (p0) (by rw [HTL.out]; omega) (fun r hr => by rw [HTR.out r hr]; omega)).mono fun e w' ⟨u, he, hu, hB⟩ => ⟨u, he, hB, hu⟩
      · refine ob_gtrue [11] 32 true 80 rfl rfl rfl rfl (fun v w h => h) fun aa g h => ?_
        have r0 := seen_out (v := vm) rfl rfl h.1
        have e0 := getD_of r0
        exact upon_value (v := vm) (by simp [go_sem, e0, r0]) (Below.refl _ _) (hm.grow grows_pt g.h)
      · refine ob_gtrue [84] 32 true 80 rfl rfl rfl rfl (fun v w h => h) fun aa g h => ?_
        obtain ⟨v0, r0, p0⟩ := seen_in rfl h.1
        have e0 := getD_of r0
        refine upon_enter (f := 25) (args := #[v0]) (by simp [go_sem, e0, r0]) rfl ?_
        exact (HO2.out _ _ (p0)).mono fun e w' ⟨u, he, hu, hB⟩ => ⟨u, he, hB, hu⟩
      · refine ob_gtrue [85] 32 true 80 rfl rfl rfl rfl (fun v w h => h) fun aa g h => ?_
        obtain ⟨v0, r0, p0⟩ := seen_in rfl h.1
        have e0 := getD_of r0
        refine upon_enter (f := 22) (args := #[v0]) (by simp [go_sem, e0, r0]) rfl ?_
        exact (r4from _ T k _ (p0) HTL.out HTR.out hk1 hk6).mono fun e w' ⟨u, he, hu, hB⟩ => ⟨u, he, hB, hu⟩
      · refine ob_gtrue [83, 86] 32 true 80 rfl rfl rfl rfl (fun v w h => h) fun aa g h => ?_
        obtain ⟨v0, r0, p0⟩ := seen_in rfl h.1
        have e0 := getD_of r0
        obtain ⟨v1, r1, p1⟩ := seen_in rfl h.2.1
        have e1 := getD_of r1
        refine upon_enter (f := 12) (args := #[v0, v1]) (by simp [go_sem, e0, r0, e1, r1]) rfl ?_
        exact (same_k _ _ (T.map (List.map ptI)) (T.map (List.map ptI)) _ (p0) (p1) rfl).mono fun e w' ⟨he, hB⟩ => ⟨_, he, hB, rfl⟩
      · refine ob_plain [80, 87] rfl rfl fun aa g h => ?_
        obtain ⟨_, r0, rfl⟩ := seen_in rfl h.1
        have e0 := getD_of r0
        obtain ⟨_, r1, rfl⟩ := seen_in rfl h.2.1
        have e1 := getD_of r1
        exact upon_value (v := .bool true) (by simp [go_sem, e0, r0, e1, r1]) (Below.refl _ _) rfl
      · refine ob_plain [88] rfl rfl fun aa g h => ?_
        obtain ⟨_, r0, rfl⟩ := seen_in rfl h.1
        have e0 := getD_of r0
        exact upon_value (v := .bool true) (by simp [go_sem, e0, r0]) (Below.refl _ _) rfl
      · refine ob_gtrue [12] 41 true 89 rfl rfl rfl rfl (fun v w h => h) fun aa g h => ?_
        have r0 := seen_out (v := v1) rfl rfl h.1
        have e0 := getD_of r0
        exact upon_value (v := v1) (by simp [go_sem, e0, r0]) (Below.refl _ _) (hi1.grow grows_bx g.h)
      · refine ob_gtrue [14] 41 true 89 rfl rfl rfl rfl (fun v w h => h) fun aa g h => ?_
        have r0 := seen_out (v := v2) rfl rfl h.1
        have e0 := getD_of r0
        exact upon_value (v := v2) (by simp [go_sem, e0, r0]) (Below.refl _ _) (hi2.grow grows_bx g.h)
      · refine ob_gtrue [90, 91] 41 true 89 rfl rfl rfl rfl (fun v w h => h) fun aa g h => ?_
        obtain ⟨v0, r0, p0⟩ := seen_in rfl h.1
        have e0 := getD_of r0
        obtain ⟨v1, r1, p1⟩ := seen_in rfl h.2.1
        have e1 := getD_of r1
        refine upon_enter (f := 12) (args := #[v0, v1]) (by simp [go_sem, e0, r0, e1, r1]) rfl ?_
        exact (same_k _ _ N N _ (p0) (p1) rfl).mono fun e w' ⟨he, hB⟩ => ⟨_, he, hB, rfl⟩
      · refine ob_plain [89, 92] rfl rfl fun aa g h => ?_
        obtain ⟨_, r0, rfl⟩ := seen_in rfl h.1
        have e0 := getD_of r0
        obtain ⟨_, r1, rfl⟩ := seen_in rfl h.2.1
        have e1 := getD_of r1
        exact upon_value (v := .bool true) (by simp [go_sem, e0, r0, e1, r1]) (Below.refl _ _) rfl
      · refine ob_plain [93] rfl rfl fun aa g h => ?_
        obtain ⟨_, r0, rfl⟩ := seen_in rfl h.1
        have e0 := getD_of r0
        exact upon_value (v := .bool true) (by simp [go_sem, e0, r0]) (Below.refl _ _) rfl
      · refine ob_gtrue [13] 46 true 94 rfl rfl rfl rfl (fun v w h => h) fun aa g h => ?_
        have r0 := seen_out (v := .bool rb) rfl rfl h.1
        have e0 := getD_of r0
        exact upon_value (v := .bool rb) (by simp [go_sem, e0, r0]) (Below.refl _ _) rfl
      · refine ob_gtrue [15] 46 true 94 rfl rfl rfl rfl (fun v w h => h) fun aa g h => ?_
        have r0 := seen_out (v := .bool rb) rfl rfl h.1
        have e0 := getD_of r0
        exact upon_value (v := .bool rb) (by simp [go_sem, e0, r0]) (Below.refl _ _) rfl
      · refine ob_gtrue [95, 96] 46 true 94 rfl rfl rfl rfl (fun v w h => h) fun aa g h => ?_
        obtain ⟨_, r0, rfl⟩ := seen_in rfl h.1
        have e0 := getD_of r0
        obtain ⟨_, r1, rfl⟩ := seen_in rfl h.2.1
        have e1 := getD_of r1
        exact upon_value (v := .bool true) (by simp [go_sem, e0, r0, e1, r1]) (Below.refl _ _) rfl
      · refine ob_plain [94, 97] rfl rfl fun aa g h => ?_
        obtain ⟨_, r0, rfl⟩ := seen_in rfl h.1
        have e0 := getD_of r0
        obtain ⟨_, r1, rfl⟩ := seen_in rfl h.2.1
        have e1 := getD_of r1
        exact upon_value (v := .bool true) (by simp [go_sem, e0, r0, e1, r1]) (Below.refl _ _) rfl
      · refine ob_plain [98] rfl rfl fun aa g h => ?_
        obtain ⟨_, r0, rfl⟩ := seen_in rfl h.1
        have e0 := getD_of r0
        exact upon_value (v := .bool true) (by simp [go_sem, e0, r0]) (Below.refl _ _) rfl
      · refine ob_gtrue [3] 51 true 99 rfl rfl rfl rfl (fun v w h => h) fun aa g h => ?_
        have r0 := seen_out (v := .pointer (some ⟨w.heap.size, 0, none⟩)) rfl rfl h.1
        have e0 := getD_of r0
        exact upon_value (v := .pointer (some ⟨w.heap.size, 3, none⟩)) (by simp [go_sem, e0, r0]) (Below.refl _ _) rfl
      · refine ob_gtrue [100] 51 true 99 rfl rfl rfl rfl (fun v w h => h) fun aa g h => ?_
        obtain ⟨_, r0, rfl⟩ := seen_in rfl h.1
        have e0 := getD_of r0
        exact upon_value (v := .int .u8 (nn : Int)) (by simp [go_sem, e0, r0, fB g]) (Below.refl _ _) rfl
      · refine ob_gtrue [101] 51 true 99 rfl rfl rfl rfl (fun v w h => h) fun aa g h => ?_
        obtain ⟨_, r0, rfl⟩ := seen_in rfl h.1
        have e0 := getD_of r0
        exact upon_value (v := .int .i64 (nn : Int)) (by simp [go_sem, e0, r0, WN]) (Below.refl _ _) rfl
      · refine ob_gtrue [102] 51 true 99 rfl rfl rfl rfl (fun v w h => h) fun aa g h => ?_
        obtain ⟨_, r0, rfl⟩ := seen_in rfl h.1
        have e0 := getD_of r0
        refine upon_enter (f := 26) (args := #[.int .i64 (nn : Int)]) (by simp [go_sem, e0, r0]) rfl ?_
        exact (ident_any nn _ (by omega)).mono fun e w' ⟨u, he, hu, hB⟩ => ⟨u, he, hB, hu⟩
      · refine ob_gtrue [3] 51 true 99 rfl rfl rfl rfl (fun v w h => h) fun aa g h => ?_
        have r0 := seen_out (v := .pointer (some ⟨w.heap.size, 0, none⟩)) rfl rfl h.1
        have e0 := getD_of r0
        exact upon_value (v := .pointer (some ⟨w.heap.size, 3, none⟩)) (by simp [go_sem, e0, r0]) (Below.refl _ _) rfl
      · refine ob_gtrue [104] 51 true 99 rfl rfl rfl rfl (fun v w h => h) fun aa g h => ?_
        obtain ⟨_, r0, rfl⟩ := seen_in rfl h.1
        have e0 := getD_of r0
        exact upon_value (v := .int .u8 (nn : Int)) (by simp [go_sem, e0, r0, fB g]) (Below.refl _ _) rfl
      · refine ob_gtrue [105] 51 true 99 rfl rfl rfl rfl (fun v w h => h) fun aa g h => ?_
        obtain ⟨_, r0, rfl⟩ := seen_in rfl h.1
        have e0 := getD_of r0
        exact upon_value (v := .int .i64 (nn : Int)) (by simp [go_sem, e0, r0, WN]) (Below.refl _ _) rfl
      · refine ob_gtrue [106] 51 true 99 rfl rfl rfl rfl (fun v w h => h) fun aa g h => ?_
        obtain ⟨_, r0, rfl⟩ := seen_in rfl h.1
        have e0 := getD_of r0
        refine upon_enter (f := 27) (args := #[.int .i64 (nn : Int)]) (by simp [go_sem, e0, r0]) rfl ?_
        exact (r4ident_any nn _ (by omega)).mono fun e w' ⟨u, he, hu, hB⟩ => ⟨u, he, hB, hu⟩
      · refine ob_gtrue [103, 107] 51 true 99 rfl rfl rfl rfl (fun v w h => h) fun aa g h => ?_
        obtain ⟨v0, r0, p0⟩ := seen_in rfl h.1
        have e0 := getD_of r0
        obtain ⟨v1, r1, p1⟩ := seen_in rfl h.2.1
        have e1 := getD_of r1
        refine upon_enter (f := 12) (args := #[v0, v1]) (by simp [go_sem, e0, r0, e1, r1]) rfl ?_
        exact (same_k _ _ (idM nn) (idM nn) _ (p0) (p1) rfl).mono fun e w' ⟨he, hB⟩ => ⟨_, he, hB, rfl⟩
      · refine ob_plain [99, 108] rfl rfl fun aa g h => ?_
        obtain ⟨_, r0, rfl⟩ := seen_in rfl h.1
        have e0 := getD_of r0
        obtain ⟨_, r1, rfl⟩ := seen_in rfl h.2.1
        have e1 := getD_of r1
        exact upon_value (v := .bool true) (by simp [go_sem, e0, r0, e1, r1]) (Below.refl _ _) rfl
      · refine ob_plain [109] rfl rfl fun aa g h => ?_
        obtain ⟨_, r0, rfl⟩ := seen_in rfl h.1
        have e0 := getD_of r0
        exact upon_value (v := .bool true) (by simp [go_sem, e0, r0]) (Below.refl _ _) rfl
      · refine ob_gtrue [7] 62 true 110 rfl rfl rfl rfl (fun v w h => h) fun aa g h => ?_
        have r0 := seen_out (v := .bool true) rfl rfl h.1
        have e0 := getD_of r0
        exact upon_value (v := .bool true) (by simp [go_sem, e0, r0]) (Below.refl _ _) rfl
      · refine ob_plain [110, 111] rfl rfl fun aa g h => ?_
        obtain ⟨_, r0, rfl⟩ := seen_in rfl h.1
        have e0 := getD_of r0
        obtain ⟨_, r1, rfl⟩ := seen_in rfl h.2.1
        have e1 := getD_of r1
        exact upon_value (v := .bool true) (by simp [go_sem, e0, r0, e1, r1]) (Below.refl _ _) rfl
      · refine ob_plain [112] rfl rfl fun aa g h => ?_
        obtain ⟨_, r0, rfl⟩ := seen_in rfl h.1
        have e0 := getD_of r0
        exact upon_value (v := .bool true) (by simp [go_sem, e0, r0]) (Below.refl _ _) rfl
    · intro aa gg hdf hsz hold hval
      obtain ⟨u, hu', hpu⟩ := hval 6 (by decide)
      obtain rfl : u = .bool true := hpu
      rename_i K hK
      exact hK _ _ (mref_end w gg.w aa hdf hu' (below_then (below_then hT0 g5.h) gg.h))
end Go.Proofs.YtmcdkbnpcmiojaaGreat
