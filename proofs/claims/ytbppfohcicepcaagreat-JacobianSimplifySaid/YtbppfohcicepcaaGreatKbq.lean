/-
  Jd
-/
import Derived.Test.YtbppfohcicepcaaGreatKbo
import Derived.Test.YtbppfohcicepcaaGreatKbp
namespace Go.Proofs.YtbppfohcicepcaaGreat
open Go.ChangeShapes Go.WideShapes Go.ChangeAt Go.RowKit
set_option linter.unusedVariables false
set_option linter.unusedSimpArgs false
set_option maxRecDepth 100000
attribute [local irreducible] Calls
variable {Fz : Nat}
set_option maxHeartbeats 4000000 in
theorem cmp_add (N : Int) (v u : Value) (a b : Ex) (w : World) (hv : TmP Fz w v a) (hu : TmP Fz w u b) (ha : EV N a) (hb : EV N b) :
    Calls Tryz.prog 128 #[.func (.func 56) #[] #[], v, u] w fun e w' => ∃ z, e = .returned z ∧ TmO Fz w' z (cmpR 7 a b) ∧ Below w.heap.size w w' := by
  have K1 := Lib.hid (ispt_ok v a w hv)
  have K2 := Lib.hid (fun w1 (hB : Below w.heap.size w w1) => ispt_ok u b w1 (hu.grow hB))
  have HFZ := Lib.hid hv.fz
  have HV := Lib.hid hv
  have HU := Lib.hid hu
  obtain ⟨b1, S1, rfl, _⟩ := hv.root
  obtain ⟨b2, S2, rfl, _⟩ := hu.root
  clear hv hu
  unfold cmpR
  cases hp : isPt a with
  | false =>
    rw [hp] at K1
    rw [Bool.false_and, Bool.false_and, if_neg (by decide)]
    clear hp ha hb
    go_enter Tryz.func128, Tryz.ntmps128
    go_wp2_with (fail)
    refine K1.out.mono ?_
    rintro e w1 ⟨rfl, hB⟩
    go_wp2_with (fail)
    go_ret
    exact ⟨_, rfl, rfl, hB⟩
  | true =>
  rw [hp] at K1
  cases hq : isPt b with
  | false =>
    rw [hq] at K2
    rw [Bool.and_false, Bool.false_and, if_neg (by decide)]
    clear hp hq ha hb
    go_enter Tryz.func128, Tryz.ntmps128
    go_wp2_with (fail)
    refine K1.out.mono ?_
    rintro e w1 ⟨rfl, hB⟩
    go_wp2_with (fail)
    refine (K2.out _ hB).mono ?_
    rintro e w2 ⟨rfl, hB2⟩
    have hB3 := below_then hB hB2
    clear hB hB2
    go_wp2_with (fail)
    go_ret
    exact ⟨_, rfl, rfl, hB3⟩
  | true =>
  rw [hq] at K2
  have va := cI_vi ha hp
  have vb := cI_vi hb hq
  have KC := Lib.hid (fun w => iv_add _ _ _ _ w va vb)
  have vr := opI_vi 7 va vb
  rw [opI_7] at vr ⊢
  dsimp only at vr ⊢
  generalize hr1 : addLo _ _ _ _ = r1 at *
  generalize hr2 : addHi _ _ _ _ = r2 at *
  clear hr1 hr2 va vb
  have e1 : (cI a).2 = (cI a).1 := by have := (isPt_pt ha hp).1; rw [this]; rfl
  have e2 : (cI b).2 = (cI b).1 := by have := (isPt_pt hb hq).1; rw [this]; rfl
  rw [e1, e2] at KC
  have f1 : (rtN a).lo = (cI a).1 := rfl
  have f1' : (rtN a).hi = (cI a).1 := e1
  have f2 : (rtN b).lo = (cI b).1 := rfl
  have f2' : (rtN b).hi = (cI b).1 := e2
  generalize (cI a).1 = c at *
  generalize (cI b).1 = d at *
  have Q1 := Lib.hid f1
  have Q1' := Lib.hid f1'
  have Q2 := Lib.hid f2
  have Q2' := Lib.hid f2'
  clear e1 e2 f1 f1' f2 f2' hp hq ha hb
  rw [Bool.and_true, Bool.true_and]
  have VR := Lib.hid vr
  generalize hres : (if decide (r1 = r2) = true then some (pt r1) else none) = rr
  have HR := Lib.hid hres
  clear vr hres
  go_enter Tryz.func128, Tryz.ntmps128
  go_wp2_with (fail)
  refine K1.out.mono ?_
  rintro e w1 ⟨rfl, hB⟩
  go_wp2_with (fail)
  refine (K2.out _ hB).mono ?_
  rintro e w2 ⟨rfl, hB2⟩
  have hB3 := below_then hB hB2
  obtain ⟨b', S', eb, hc1⟩ := (HV.out.grow hB3).root
  cases eb
  obtain ⟨b', S', eb, hc2⟩ := (HU.out.grow hB3).root
  cases eb
  have a2 := fun g : Grown w2 => (hc1.grow g.h).c2
  have a3 := fun g : Grown w2 => (hc1.grow g.h).c3
  have d2 := fun g : Grown w2 => (hc2.grow g.h).c2
  have d3 := fun g : Grown w2 => (hc2.grow g.h).c3
  simp only [Q1.out] at a2
  simp only [Q1'.out] at a3
  simp only [Q2.out] at d2
  simp only [Q2'.out] at d3
  have HB3 := Lib.hid hB3
  clear hB hB2 hB3 hc1 hc2 HV HU Q1 Q1' Q2 Q2' K1 K2
  go_wp2_with (fail)
  refine region_pred_l (lk [(16, fun z_ _ => z_ = .func (.func 56) #[] #[]), (17, fun z_ _ => z_ = .pointer (some ⟨b1, 0, none⟩)), (18, fun z_ _ => z_ = .pointer (some ⟨b1, 0, none⟩)), (19, fun z_ _ => z_ = .pointer (some ⟨b1, 0, none⟩)), (20, fun z_ _ => z_ = .pointer (some ⟨b1, 2, none⟩)), (21, fun z_ _ => z_ = .agg #[.int .i64 c, .int .i64 c]), (22, fun z_ _ => z_ = .pointer (some ⟨b2, 0, none⟩)), (23, fun z_ _ => z_ = .pointer (some ⟨b2, 0, none⟩)), (24, fun z_ _ => z_ = .pointer (some ⟨b2, 0, none⟩)), (25, fun z_ _ => z_ = .pointer (some ⟨b2, 2, none⟩)), (26, fun z_ _ => z_ = .agg #[.int .i64 d, .int .i64 d]), (27, fun z_ _ => z_ = .agg #[.int .i64 r1, .int .i64 r2]), (7, fun z_ w' => ∃ X_, z_ = .pointer (some ⟨X_, 0, none⟩) ∧ w2.heap.size ≤ X_ ∧ w'.heap[X_]? = some (.cells #[.int .i64 0, .int .i64 0] 26 (0, 0)))]) 13 _ rfl (by kernel_rfl) (by kernel_rfl) (by kernel_rfl) (lk_steady _ ⟨steady_eq _, steady_eq _, steady_eq _, steady_eq _, steady_eq _, steady_eq _, steady_eq _, steady_eq _, steady_eq _, steady_eq _, steady_eq _, steady_eq _, fun u w1 w2 hb ⟨X, e, h1, h2⟩ => ⟨X, e, h1, (hb.block X (Array.getElem?_eq_some_iff.1 h2).1).trans h2⟩, trivial⟩) ?_ ?_
  · refine ⟨?_, ?_, ?_, ?_, ?_, ?_, ?_, ?_, ?_, ?_, ?_, ?_, ?_, ?_, trivial⟩
    · intro _
      refine ob_plain [0] rfl rfl fun aa g h => ?_
      have yy0 := seen_out (v := .func (.func 56) #[] #[]) rfl rfl h.1
      have ee0 := getD_of yy0
      exact tupon_value (v := .func (.func 56) #[] #[]) (by simp [go_sem, ee0, yy0]) (Below.refl _ _) rfl
    · intro _
      refine ob_plain [1] rfl rfl fun aa g h => ?_
      have yy0 := seen_out (v := .pointer (some ⟨b1, 0, none⟩)) rfl rfl h.1
      have ee0 := getD_of yy0
      exact tupon_value (v := .pointer (some ⟨b1, 0, none⟩)) (by simp [go_sem, ee0, yy0]) (Below.refl _ _) rfl
    · intro _
      refine ob_plain [17] rfl rfl fun aa g h => ?_
      obtain ⟨_, yy0, rfl⟩ := seen_in rfl h.1
      have ee0 := getD_of yy0
      exact tupon_value (v := .pointer (some ⟨b1, 0, none⟩)) (by simp [go_sem, ee0, yy0]) (Below.refl _ _) rfl
    · intro _
      refine ob_plain [18] rfl rfl fun aa g h => ?_
      obtain ⟨_, yy0, rfl⟩ := seen_in rfl h.1
      have ee0 := getD_of yy0
      exact tupon_value (v := .pointer (some ⟨b1, 0, none⟩)) (by simp [go_sem, ee0, yy0]) (Below.refl _ _) rfl
    · intro _
      refine ob_plain [19] rfl rfl fun aa g h => ?_
      obtain ⟨_, yy0, rfl⟩ := seen_in rfl h.1
      have ee0 := getD_of yy0
      exact tupon_value (v := .pointer (some ⟨b1, 2, none⟩)) (by simp [go_sem, ee0, yy0]) (Below.refl _ _) rfl
    · intro _
      refine ob_plain [20] rfl rfl fun aa g h => ?_
      obtain ⟨_, yy0, rfl⟩ := seen_in rfl h.1
      have ee0 := getD_of yy0
      exact tupon_value (v := .agg #[.int .i64 c, .int .i64 c]) (by simp [go_sem, ee0, yy0, a2 g, a3 g]) (Below.refl _ _) rfl
    · intro _
      refine ob_plain [2] rfl rfl fun aa g h => ?_
      have yy0 := seen_out (v := .pointer (some ⟨b2, 0, none⟩)) rfl rfl h.1
      have ee0 := getD_of yy0
      exact tupon_value (v := .pointer (some ⟨b2, 0, none⟩)) (by simp [go_sem, ee0, yy0]) (Below.refl _ _) rfl
    · intro _
      refine ob_plain [22] rfl rfl fun aa g h => ?_
      obtain ⟨_, yy0, rfl⟩ := seen_in rfl h.1
      have ee0 := getD_of yy0
      exact tupon_value (v := .pointer (some ⟨b2, 0, none⟩)) (by simp [go_sem, ee0, yy0]) (Below.refl _ _) rfl
    · intro _
      refine ob_plain [23] rfl rfl fun aa g h => ?_
      obtain ⟨_, yy0, rfl⟩ := seen_in rfl h.1
      have ee0 := getD_of yy0
      exact tupon_value (v := .pointer (some ⟨b2, 0, none⟩)) (by simp [go_sem, ee0, yy0]) (Below.refl _ _) rfl
    · intro _
      refine ob_plain [24] rfl rfl fun aa g h => ?_
      obtain ⟨_, yy0, rfl⟩ := seen_in rfl h.1
      have ee0 := getD_of yy0
      exact tupon_value (v := .pointer (some ⟨b2, 2, none⟩)) (by simp [go_sem, ee0, yy0]) (Below.refl _ _) rfl
    · intro _
      refine ob_plain [25] rfl rfl fun aa g h => ?_
      obtain ⟨_, yy0, rfl⟩ := seen_in rfl h.1
      have ee0 := getD_of yy0
      exact tupon_value (v := .agg #[.int .i64 d, .int .i64 d]) (by simp [go_sem, ee0, yy0, d2 g, d3 g]) (Below.refl _ _) rfl
    · intro _
      refine ob_plain [16, 21, 26] rfl rfl fun aa g h => ?_
      obtain ⟨_, yy0, rfl⟩ := seen_in rfl h.1
      have ee0 := getD_of yy0
      obtain ⟨_, yy1, rfl⟩ := seen_in rfl h.2.1
      have ee1 := getD_of yy1
      obtain ⟨_, yy2, rfl⟩ := seen_in rfl h.2.2.1
      have ee2 := getD_of yy2
      refine tupon_enter (f := 56) (args := #[.agg #[.int .i64 c, .int .i64 c], .agg #[.int .i64 d, .int .i64 d]]) (by simp [go_sem, ee0, yy0, ee1, yy1, ee2, yy2]) rfl ?_
      exact (KC.out g.w).mono fun e w' ⟨he, hB⟩ => ⟨_, he, hB, rfl⟩
    · intro _
      refine ob_plain [] rfl rfl fun aa g h => ?_
      exact tupon_value (v := .pointer (some ⟨g.w.heap.size, 0, none⟩)) (w1 := g.w.alloc (.cells #[.int .i64 0, .int .i64 0] 26)) (by simp [go_sem]) ((Below.refl _ _).alloc (Nat.le_refl _) _) ⟨_, rfl, g.h.size, World.alloc_heap_new _ _⟩
    · exact fun h => absurd rfl h
  rintro w5 hB _ rfl _ rfl _ rfl _ rfl _ rfl _ rfl _ rfl _ rfl _ rfl _ rfl _ rfl _ rfl _ ⟨X7, rfl, hX7, hI7⟩
  simp only [Act.put, List.setIfInBounds_toArray, List.set_cons_succ, List.set_cons_zero, List.filterMap_nil]
  have q0 := heapN_cellj hI7 (k := 0) rfl
  have y0 : w5.frozen? ⟨X7, 0, none⟩ = false := by simp [World.frozen?, show w5.heap[X7]? = _ from hI7]
  have q1 := heapN_cellj hI7 (k := 1) rfl
  have y1 : w5.frozen? ⟨X7, 1, none⟩ = false := by simp [World.frozen?, show w5.heap[X7]? = _ from hI7]
  refine ⟨_, by simp [go_sem, q0, y0, q1, y1]; rfl, ?_⟩
  clear q0 y0 q1 y1
  obtain ⟨w6, ew6, HIw6, HOw6⟩ := set2 (h := hI7) (.int .i64 r1) (.int .i64 r2)
  rw [ew6]
  clear ew6
  have hB6 : Below w.heap.size w w6 := HOw6.bel (below_then HB3.out hB) (by have := HB3.out.size; omega) (by have := HB3.out.size; have := hB.size; omega)
  have x0 := heapN_cellj HIw6 (k := 0) (u := .int .i64 r1) rfl
  have x1 := heapN_cellj HIw6 (k := 1) (u := .int .i64 r2) rfl
  have HB6 := Lib.hid hB6
  clear hB6 HIw6 HOw6 hB hX7 hI7 a2 a3 d2 d3 HB3
  by_cases h12 : r1 = r2
  · subst h12
    have KN := Lib.hid (fun (w1 : World) (hF : Fz ≤ w1.heap.size) => number_ok r1 w1 (vi_pt.1 VR.out) hF)
    go_wp2_with (fail)
    refine (KN.out _ (Nat.le_trans HFZ.out HB6.out.size)).mono ?_
    rintro e w7 ⟨z, rfl, hz, hB7⟩
    have HZ := Lib.hid hz
    have HB7 := Lib.hid (below_then HB6.out hB7)
    clear hz hB7
    go_wp2_with (fail)
    go_ret
    exact ⟨_, rfl, by rw [← HR.out, if_pos (by simp)]; exact HZ.out, HB7.out⟩
  · have q : (r1 != r2) = true := by simpa using h12
    go_wp2_with (fail)
    go_ret
    exact ⟨_, rfl, by rw [← HR.out, if_neg (by simpa using h12)]; rfl, HB6.out⟩
set_option maxHeartbeats 4000000 in
theorem cmp_sub (N : Int) (v u : Value) (a b : Ex) (w : World) (hv : TmP Fz w v a) (hu : TmP Fz w u b) (ha : EV N a) (hb : EV N b) :
    Calls Tryz.prog 128 #[.func (.func 114) #[] #[], v, u] w fun e w' => ∃ z, e = .returned z ∧ TmO Fz w' z (cmpR 8 a b) ∧ Below w.heap.size w w' := by
  have K1 := Lib.hid (ispt_ok v a w hv)
  have K2 := Lib.hid (fun w1 (hB : Below w.heap.size w w1) => ispt_ok u b w1 (hu.grow hB))
  have HFZ := Lib.hid hv.fz
  have HV := Lib.hid hv
  have HU := Lib.hid hu
  obtain ⟨b1, S1, rfl, _⟩ := hv.root
  obtain ⟨b2, S2, rfl, _⟩ := hu.root
  clear hv hu
  unfold cmpR
  cases hp : isPt a with
  | false =>
    rw [hp] at K1
    rw [Bool.false_and, Bool.false_and, if_neg (by decide)]
    clear hp ha hb
    go_enter Tryz.func128, Tryz.ntmps128
    go_wp2_with (fail)
    refine K1.out.mono ?_
    rintro e w1 ⟨rfl, hB⟩
    go_wp2_with (fail)
    go_ret
    exact ⟨_, rfl, rfl, hB⟩
  | true =>
  rw [hp] at K1
  cases hq : isPt b with
  | false =>
    rw [hq] at K2
    rw [Bool.and_false, Bool.false_and, if_neg (by decide)]
    clear hp hq ha hb
    go_enter Tryz.func128, Tryz.ntmps128
    go_wp2_with (fail)
    refine K1.out.mono ?_
    rintro e w1 ⟨rfl, hB⟩
    go_wp2_with (fail)
    refine (K2.out _ hB).mono ?_
    rintro e w2 ⟨rfl, hB2⟩
    have hB3 := below_then hB hB2
    clear hB hB2
    go_wp2_with (fail)
    go_ret
    exact ⟨_, rfl, rfl, hB3⟩
  | true =>
  rw [hq] at K2
  have va := cI_vi ha hp
  have vb := cI_vi hb hq
  have KC := Lib.hid (fun w => iv_sub _ _ _ _ w va vb)
  have vr := opI_vi 8 va vb
  rw [opI_8] at vr ⊢
  dsimp only at vr ⊢
  generalize hr1 : addLo _ _ _ _ = r1 at *
  generalize hr2 : addHi _ _ _ _ = r2 at *
  clear hr1 hr2 va vb
  have e1 : (cI a).2 = (cI a).1 := by have := (isPt_pt ha hp).1; rw [this]; rfl
  have e2 : (cI b).2 = (cI b).1 := by have := (isPt_pt hb hq).1; rw [this]; rfl
  rw [e1, e2] at KC
  have f1 : (rtN a).lo = (cI a).1 := rfl
  have f1' : (rtN a).hi = (cI a).1 := e1
  have f2 : (rtN b).lo = (cI b).1 := rfl
  have f2' : (rtN b).hi = (cI b).1 := e2
  generalize (cI a).1 = c at *
  generalize (cI b).1 = d at *
  have Q1 := Lib.hid f1
  have Q1' := Lib.hid f1'
  have Q2 := Lib.hid f2
  have Q2' := Lib.hid f2'
  clear e1 e2 f1 f1' f2 f2' hp hq ha hb
  rw [Bool.and_true, Bool.true_and]
  have VR := Lib.hid vr
  generalize hres : (if decide (r1 = r2) = true then some (pt r1) else none) = rr
  have HR := Lib.hid hres
  clear vr hres
  go_enter Tryz.func128, Tryz.ntmps128
  go_wp2_with (fail)
  refine K1.out.mono ?_
  rintro e w1 ⟨rfl, hB⟩
  go_wp2_with (fail)
  refine (K2.out _ hB).mono ?_
  rintro e w2 ⟨rfl, hB2⟩
  have hB3 := below_then hB hB2
  obtain ⟨b', S', eb, hc1⟩ := (HV.out.grow hB3).root
  cases eb
  obtain ⟨b', S', eb, hc2⟩ := (HU.out.grow hB3).root
  cases eb
  have a2 := fun g : Grown w2 => (hc1.grow g.h).c2
  have a3 := fun g : Grown w2 => (hc1.grow g.h).c3
  have d2 := fun g : Grown w2 => (hc2.grow g.h).c2
  have d3 := fun g : Grown w2 => (hc2.grow g.h).c3
  simp only [Q1.out] at a2
  simp only [Q1'.out] at a3
  simp only [Q2.out] at d2
  simp only [Q2'.out] at d3
  have HB3 := Lib.hid hB3
  clear hB hB2 hB3 hc1 hc2 HV HU Q1 Q1' Q2 Q2' K1 K2
  go_wp2_with (fail)
  refine region_pred_l (lk [(16, fun z_ _ => z_ = .func (.func 114) #[] #[]), (17, fun z_ _ => z_ = .pointer (some ⟨b1, 0, none⟩)), (18, fun z_ _ => z_ = .pointer (some ⟨b1, 0, none⟩)), (19, fun z_ _ => z_ = .pointer (some ⟨b1, 0, none⟩)), (20, fun z_ _ => z_ = .pointer (some ⟨b1, 2, none⟩)), (21, fun z_ _ => z_ = .agg #[.int .i64 c, .int .i64 c]), (22, fun z_ _ => z_ = .pointer (some ⟨b2, 0, none⟩)), (23, fun z_ _ => z_ = .pointer (some ⟨b2, 0, none⟩)), (24, fun z_ _ => z_ = .pointer (some ⟨b2, 0, none⟩)), (25, fun z_ _ => z_ = .pointer (some ⟨b2, 2, none⟩)), (26, fun z_ _ => z_ = .agg #[.int .i64 d, .int .i64 d]), (27, fun z_ _ => z_ = .agg #[.int .i64 r1, .int .i64 r2]), (7, fun z_ w' => ∃ X_, z_ = .pointer (some ⟨X_, 0, none⟩) ∧ w2.heap.size ≤ X_ ∧ w'.heap[X_]? = some (.cells #[.int .i64 0, .int .i64 0] 26 (0, 0)))]) 13 _ rfl (by kernel_rfl) (by kernel_rfl) (by kernel_rfl) (lk_steady _ ⟨steady_eq _, steady_eq _, steady_eq _, steady_eq _, steady_eq _, steady_eq _, steady_eq _, steady_eq _, steady_eq _, steady_eq _, steady_eq _, steady_eq _, fun u w1 w2 hb ⟨X, e, h1, h2⟩ => ⟨X, e, h1, (hb.block X (Array.getElem?_eq_some_iff.1 h2).1).trans h2⟩, trivial⟩) ?_ ?_
  · refine ⟨?_, ?_, ?_, ?_, ?_, ?_, ?_, ?_, ?_, ?_, ?_, ?_, ?_, ?_, trivial⟩
    · intro _
      refine ob_plain [0] rfl rfl fun aa g h => ?_
      have yy0 := seen_out (v := .func (.func 114) #[] #[]) rfl rfl h.1
      have ee0 := getD_of yy0
      exact tupon_value (v := .func (.func 114) #[] #[]) (by simp [go_sem, ee0, yy0]) (Below.refl _ _) rfl
    · intro _
      refine ob_plain [1] rfl rfl fun aa g h => ?_
      have yy0 := seen_out (v := .pointer (some ⟨b1, 0, none⟩)) rfl rfl h.1
      have ee0 := getD_of yy0
      exact tupon_value (v := .pointer (some ⟨b1, 0, none⟩)) (by simp [go_sem, ee0, yy0]) (Below.refl _ _) rfl
    · intro _
      refine ob_plain [17] rfl rfl fun aa g h => ?_
      obtain ⟨_, yy0, rfl⟩ := seen_in rfl h.1
      have ee0 := getD_of yy0
      exact tupon_value (v := .pointer (some ⟨b1, 0, none⟩)) (by simp [go_sem, ee0, yy0]) (Below.refl _ _) rfl
    · intro _
      refine ob_plain [18] rfl rfl fun aa g h => ?_
      obtain ⟨_, yy0, rfl⟩ := seen_in rfl h.1
      have ee0 := getD_of yy0
      exact tupon_value (v := .pointer (some ⟨b1, 0, none⟩)) (by simp [go_sem, ee0, yy0]) (Below.refl _ _) rfl
    · intro _
      refine ob_plain [19] rfl rfl fun aa g h => ?_
      obtain ⟨_, yy0, rfl⟩ := seen_in rfl h.1
      have ee0 := getD_of yy0
      exact tupon_value (v := .pointer (some ⟨b1, 2, none⟩)) (by simp [go_sem, ee0, yy0]) (Below.refl _ _) rfl
    · intro _
      refine ob_plain [20] rfl rfl fun aa g h => ?_
      obtain ⟨_, yy0, rfl⟩ := seen_in rfl h.1
      have ee0 := getD_of yy0
      exact tupon_value (v := .agg #[.int .i64 c, .int .i64 c]) (by simp [go_sem, ee0, yy0, a2 g, a3 g]) (Below.refl _ _) rfl
    · intro _
      refine ob_plain [2] rfl rfl fun aa g h => ?_
      have yy0 := seen_out (v := .pointer (some ⟨b2, 0, none⟩)) rfl rfl h.1
      have ee0 := getD_of yy0
      exact tupon_value (v := .pointer (some ⟨b2, 0, none⟩)) (by simp [go_sem, ee0, yy0]) (Below.refl _ _) rfl
    · intro _
      refine ob_plain [22] rfl rfl fun aa g h => ?_
      obtain ⟨_, yy0, rfl⟩ := seen_in rfl h.1
      have ee0 := getD_of yy0
      exact tupon_value (v := .pointer (some ⟨b2, 0, none⟩)) (by simp [go_sem, ee0, yy0]) (Below.refl _ _) rfl
    · intro _
      refine ob_plain [23] rfl rfl fun aa g h => ?_
      obtain ⟨_, yy0, rfl⟩ := seen_in rfl h.1
      have ee0 := getD_of yy0
      exact tupon_value (v := .pointer (some ⟨b2, 0, none⟩)) (by simp [go_sem, ee0, yy0]) (Below.refl _ _) rfl
    · intro _
      refine ob_plain [24] rfl rfl fun aa g h => ?_
      obtain ⟨_, yy0, rfl⟩ := seen_in rfl h.1
      have ee0 := getD_of yy0
      exact tupon_value (v := .pointer (some ⟨b2, 2, none⟩)) (by simp [go_sem, ee0, yy0]) (Below.refl _ _) rfl
    · intro _
      refine ob_plain [25] rfl rfl fun aa g h => ?_
      obtain ⟨_, yy0, rfl⟩ := seen_in rfl h.1
      have ee0 := getD_of yy0
      exact tupon_value (v := .agg #[.int .i64 d, .int .i64 d]) (by simp [go_sem, ee0, yy0, d2 g, d3 g]) (Below.refl _ _) rfl
    · intro _
      refine ob_plain [16, 21, 26] rfl rfl fun aa g h => ?_
      obtain ⟨_, yy0, rfl⟩ := seen_in rfl h.1
      have ee0 := getD_of yy0
      obtain ⟨_, yy1, rfl⟩ := seen_in rfl h.2.1
      have ee1 := getD_of yy1
      obtain ⟨_, yy2, rfl⟩ := seen_in rfl h.2.2.1
      have ee2 := getD_of yy2
      refine tupon_enter (f := 114) (args := #[.agg #[.int .i64 c, .int .i64 c], .agg #[.int .i64 d, .int .i64 d]]) (by simp [go_sem, ee0, yy0, ee1, yy1, ee2, yy2]) rfl ?_
      exact (KC.out g.w).mono fun e w' ⟨he, hB⟩ => ⟨_, he, hB, rfl⟩
    · intro _
      refine ob_plain [] rfl rfl fun aa g h => ?_
      exact tupon_value (v := .pointer (some ⟨g.w.heap.size, 0, none⟩)) (w1 := g.w.alloc (.cells #[.int .i64 0, .int .i64 0] 26)) (by simp [go_sem]) ((Below.refl _ _).alloc (Nat.le_refl _) _) ⟨_, rfl, g.h.size, World.alloc_heap_new _ _⟩
    · exact fun h => absurd rfl h
  rintro w5 hB _ rfl _ rfl _ rfl _ rfl _ rfl _ rfl _ rfl _ rfl _ rfl _ rfl _ rfl _ rfl _ ⟨X7, rfl, hX7, hI7⟩
  simp only [Act.put, List.setIfInBounds_toArray, List.set_cons_succ, List.set_cons_zero, List.filterMap_nil]
  have q0 := heapN_cellj hI7 (k := 0) rfl
  have y0 : w5.frozen? ⟨X7, 0, none⟩ = false := by simp [World.frozen?, show w5.heap[X7]? = _ from hI7]
  have q1 := heapN_cellj hI7 (k := 1) rfl
  have y1 : w5.frozen? ⟨X7, 1, none⟩ = false := by simp [World.frozen?, show w5.heap[X7]? = _ from hI7]
  refine ⟨_, by simp [go_sem, q0, y0, q1, y1]; rfl, ?_⟩
  clear q0 y0 q1 y1
  obtain ⟨w6, ew6, HIw6, HOw6⟩ := set2 (h := hI7) (.int .i64 r1) (.int .i64 r2)
  rw [ew6]
  clear ew6
  have hB6 : Below w.heap.size w w6 := HOw6.bel (below_then HB3.out hB) (by have := HB3.out.size; omega) (by have := HB3.out.size; have := hB.size; omega)
  have x0 := heapN_cellj HIw6 (k := 0) (u := .int .i64 r1) rfl
  have x1 := heapN_cellj HIw6 (k := 1) (u := .int .i64 r2) rfl
  have HB6 := Lib.hid hB6
  clear hB6 HIw6 HOw6 hB hX7 hI7 a2 a3 d2 d3 HB3
  by_cases h12 : r1 = r2
  · subst h12
    have KN := Lib.hid (fun (w1 : World) (hF : Fz ≤ w1.heap.size) => number_ok r1 w1 (vi_pt.1 VR.out) hF)
    go_wp2_with (fail)
    refine (KN.out _ (Nat.le_trans HFZ.out HB6.out.size)).mono ?_
    rintro e w7 ⟨z, rfl, hz, hB7⟩
    have HZ := Lib.hid hz
    have HB7 := Lib.hid (below_then HB6.out hB7)
    clear hz hB7
    go_wp2_with (fail)
    go_ret
    exact ⟨_, rfl, by rw [← HR.out, if_pos (by simp)]; exact HZ.out, HB7.out⟩
  · have q : (r1 != r2) = true := by simpa using h12
    go_wp2_with (fail)
    go_ret
    exact ⟨_, rfl, by rw [← HR.out, if_neg (by simpa using h12)]; rfl, HB6.out⟩
set_option maxHeartbeats 4000000 in
theorem cmp_mul (N : Int) (v u : Value) (a b : Ex) (w : World) (hv : TmP Fz w v a) (hu : TmP Fz w u b) (ha : EV N a) (hb : EV N b) :
    Calls Tryz.prog 128 #[.func (.func 57) #[] #[], v, u] w fun e w' => ∃ z, e = .returned z ∧ TmO Fz w' z (cmpR 9 a b) ∧ Below w.heap.size w w' := by
  have K1 := Lib.hid (ispt_ok v a w hv)
  have K2 := Lib.hid (fun w1 (hB : Below w.heap.size w w1) => ispt_ok u b w1 (hu.grow hB))
  have HFZ := Lib.hid hv.fz
  have HV := Lib.hid hv
  have HU := Lib.hid hu
  obtain ⟨b1, S1, rfl, _⟩ := hv.root
  obtain ⟨b2, S2, rfl, _⟩ := hu.root
  clear hv hu
  unfold cmpR
  cases hp : isPt a with
  | false =>
    rw [hp] at K1
    rw [Bool.false_and, Bool.false_and, if_neg (by decide)]
    clear hp ha hb
    go_enter Tryz.func128, Tryz.ntmps128
    go_wp2_with (fail)
    refine K1.out.mono ?_
    rintro e w1 ⟨rfl, hB⟩
    go_wp2_with (fail)
    go_ret
    exact ⟨_, rfl, rfl, hB⟩
  | true =>
  rw [hp] at K1
  cases hq : isPt b with
  | false =>
    rw [hq] at K2
    rw [Bool.and_false, Bool.false_and, if_neg (by decide)]
    clear hp hq ha hb
    go_enter Tryz.func128, Tryz.ntmps128
    go_wp2_with (fail)
    refine K1.out.mono ?_
    rintro e w1 ⟨rfl, hB⟩
    go_wp2_with (fail)
    refine (K2.out _ hB).mono ?_
    rintro e w2 ⟨rfl, hB2⟩
    have hB3 := below_then hB hB2
    clear hB hB2
    go_wp2_with (fail)
    go_ret
    exact ⟨_, rfl, rfl, hB3⟩
  | true =>
  rw [hq] at K2
  have va := cI_vi ha hp
  have vb := cI_vi hb hq
  have KC := Lib.hid (fun w => iv_mul _ _ _ _ w va vb)
  have vr := opI_vi 9 va vb
  rw [opI_9] at vr ⊢
  dsimp only at vr ⊢
  generalize hr1 : mulLo _ _ _ _ = r1 at *
  generalize hr2 : mulHi _ _ _ _ = r2 at *
  clear hr1 hr2 va vb
  have e1 : (cI a).2 = (cI a).1 := by have := (isPt_pt ha hp).1; rw [this]; rfl
  have e2 : (cI b).2 = (cI b).1 := by have := (isPt_pt hb hq).1; rw [this]; rfl
  rw [e1, e2] at KC
  have f1 : (rtN a).lo = (cI a).1 := rfl
  have f1' : (rtN a).hi = (cI a).1 := e1
  have f2 : (rtN b).lo = (cI b).1 := rfl
  have f2' : (rtN b).hi = (cI b).1 := e2
  generalize (cI a).1 = c at *
  generalize (cI b).1 = d at *
  have Q1 := Lib.hid f1
  have Q1' := Lib.hid f1'
  have Q2 := Lib.hid f2
  have Q2' := Lib.hid f2'
  clear e1 e2 f1 f1' f2 f2' hp hq ha hb
  rw [Bool.and_true, Bool.true_and]
  have VR := Lib.hid vr
  generalize hres : (if decide (r1 = r2) = true then some (pt r1) else none) = rr
  have HR := Lib.hid hres
  clear vr hres
  go_enter Tryz.func128, Tryz.ntmps128
  go_wp2_with (fail)
  refine K1.out.mono ?_
  rintro e w1 ⟨rfl, hB⟩
  go_wp2_with (fail)
  refine (K2.out _ hB).mono ?_
  rintro e w2 ⟨rfl, hB2⟩
  have hB3 := below_then hB hB2
  obtain ⟨b', S', eb, hc1⟩ := (HV.out.grow hB3).root
  cases eb
  obtain ⟨b', S', eb, hc2⟩ := (HU.out.grow hB3).root
  cases eb
  have a2 := fun g : Grown w2 => (hc1.grow g.h).c2
  have a3 := fun g : Grown w2 => (hc1.grow g.h).c3
  have d2 := fun g : Grown w2 => (hc2.grow g.h).c2
  have d3 := fun g : Grown w2 => (hc2.grow g.h).c3
  simp only [Q1.out] at a2
  simp only [Q1'.out] at a3
  simp only [Q2.out] at d2
  simp only [Q2'.out] at d3
  have HB3 := Lib.hid hB3
  clear hB hB2 hB3 hc1 hc2 HV HU Q1 Q1' Q2 Q2' K1 K2
  go_wp2_with (fail)
  refine region_pred_l (lk [(16, fun z_ _ => z_ = .func (.func 57) #[] #[]), (17, fun z_ _ => z_ = .pointer (some ⟨b1, 0, none⟩)), (18, fun z_ _ => z_ = .pointer (some ⟨b1, 0, none⟩)), (19, fun z_ _ => z_ = .pointer (some ⟨b1, 0, none⟩)), (20, fun z_ _ => z_ = .pointer (some ⟨b1, 2, none⟩)), (21, fun z_ _ => z_ = .agg #[.int .i64 c, .int .i64 c]), (22, fun z_ _ => z_ = .pointer (some ⟨b2, 0, none⟩)), (23, fun z_ _ => z_ = .pointer (some ⟨b2, 0, none⟩)), (24, fun z_ _ => z_ = .pointer (some ⟨b2, 0, none⟩)), (25, fun z_ _ => z_ = .pointer (some ⟨b2, 2, none⟩)), (26, fun z_ _ => z_ = .agg #[.int .i64 d, .int .i64 d]), (27, fun z_ _ => z_ = .agg #[.int .i64 r1, .int .i64 r2]), (7, fun z_ w' => ∃ X_, z_ = .pointer (some ⟨X_, 0, none⟩) ∧ w2.heap.size ≤ X_ ∧ w'.heap[X_]? = some (.cells #[.int .i64 0, .int .i64 0] 26 (0, 0)))]) 13 _ rfl (by kernel_rfl) (by kernel_rfl) (by kernel_rfl) (lk_steady _ ⟨steady_eq _, steady_eq _, steady_eq _, steady_eq _, steady_eq _, steady_eq _, steady_eq _, steady_eq _, steady_eq _, steady_eq _, steady_eq _, steady_eq _, fun u w1 w2 hb ⟨X, e, h1, h2⟩ => ⟨X, e, h1, (hb.block X (Array.getElem?_eq_some_iff.1 h2).1).trans h2⟩, trivial⟩) ?_ ?_
  · refine ⟨?_, ?_, ?_, ?_, ?_, ?_, ?_, ?_, ?_, ?_, ?_, ?_, ?_, ?_, trivial⟩
    · intro _
      refine ob_plain [0] rfl rfl fun aa g h => ?_
      have yy0 := seen_out (v := .func (.func 57) #[] #[]) rfl rfl h.1
      have ee0 := getD_of yy0
      exact tupon_value (v := .func (.func 57) #[] #[]) (by simp [go_sem, ee0, yy0]) (Below.refl _ _) rfl
    · intro _
      refine ob_plain [1] rfl rfl fun aa g h => ?_
      have yy0 := seen_out (v := .pointer (some ⟨b1, 0, none⟩)) rfl rfl h.1
      have ee0 := getD_of yy0
      exact tupon_value (v := .pointer (some ⟨b1, 0, none⟩)) (by simp [go_sem, ee0, yy0]) (Below.refl _ _) rfl
    · intro _
      refine ob_plain [17] rfl rfl fun aa g h => ?_
      obtain ⟨_, yy0, rfl⟩ := seen_in rfl h.1
      have ee0 := getD_of yy0
      exact tupon_value (v := .pointer (some ⟨b1, 0, none⟩)) (by simp [go_sem, ee0, yy0]) (Below.refl _ _) rfl
    · intro _
      refine ob_plain [18] rfl rfl fun aa g h => ?_
      obtain ⟨_, yy0, rfl⟩ := seen_in rfl h.1
      have ee0 := getD_of yy0
      exact tupon_value (v := .pointer (some ⟨b1, 0, none⟩)) (by simp [go_sem, ee0, yy0]) (Below.refl _ _) rfl
    · intro _
      refine ob_plain [19] rfl rfl fun aa g h => ?_
      obtain ⟨_, yy0, rfl⟩ := seen_in rfl h.1
      have ee0 := getD_of yy0
      exact tupon_value (v := .pointer (some ⟨b1, 2, none⟩)) (by simp [go_sem, ee0, yy0]) (Below.refl _ _) rfl
    · intro _
      refine ob_plain [20] rfl rfl fun aa g h => ?_
      obtain ⟨_, yy0, rfl⟩ := seen_in rfl h.1
      have ee0 := getD_of yy0
      exact tupon_value (v := .agg #[.int .i64 c, .int .i64 c]) (by simp [go_sem, ee0, yy0, a2 g, a3 g]) (Below.refl _ _) rfl
    · intro _
      refine ob_plain [2] rfl rfl fun aa g h => ?_
      have yy0 := seen_out (v := .pointer (some ⟨b2, 0, none⟩)) rfl rfl h.1
      have ee0 := getD_of yy0
      exact tupon_value (v := .pointer (some ⟨b2, 0, none⟩)) (by simp [go_sem, ee0, yy0]) (Below.refl _ _) rfl
    · intro _
      refine ob_plain [22] rfl rfl fun aa g h => ?_
      obtain ⟨_, yy0, rfl⟩ := seen_in rfl h.1
      have ee0 := getD_of yy0
      exact tupon_value (v := .pointer (some ⟨b2, 0, none⟩)) (by simp [go_sem, ee0, yy0]) (Below.refl _ _) rfl
    · intro _
      refine ob_plain [23] rfl rfl fun aa g h => ?_
      obtain ⟨_, yy0, rfl⟩ := seen_in rfl h.1
      have ee0 := getD_of yy0
      exact tupon_value (v := .pointer (some ⟨b2, 0, none⟩)) (by simp [go_sem, ee0, yy0]) (Below.refl _ _) rfl
    · intro _
      refine ob_plain [24] rfl rfl fun aa g h => ?_
      obtain ⟨_, yy0, rfl⟩ := seen_in rfl h.1
      have ee0 := getD_of yy0
      exact tupon_value (v := .pointer (some ⟨b2, 2, none⟩)) (by simp [go_sem, ee0, yy0]) (Below.refl _ _) rfl
    · intro _
      refine ob_plain [25] rfl rfl fun aa g h => ?_
      obtain ⟨_, yy0, rfl⟩ := seen_in rfl h.1
      have ee0 := getD_of yy0
      exact tupon_value (v := .agg #[.int .i64 d, .int .i64 d]) (by simp [go_sem, ee0, yy0, d2 g, d3 g]) (Below.refl _ _) rfl
    · intro _
      refine ob_plain [16, 21, 26] rfl rfl fun aa g h => ?_
      obtain ⟨_, yy0, rfl⟩ := seen_in rfl h.1
      have ee0 := getD_of yy0
      obtain ⟨_, yy1, rfl⟩ := seen_in rfl h.2.1
      have ee1 := getD_of yy1
      obtain ⟨_, yy2, rfl⟩ := seen_in rfl h.2.2.1
      have ee2 := getD_of yy2
      refine tupon_enter (f := 57) (args := #[.agg #[.int .i64 c, .int .i64 c], .agg #[.int .i64 d, .int .i64 d]]) (by simp [go_sem, ee0, yy0, ee1, yy1, ee2, yy2]) rfl ?_
      exact (KC.out g.w).mono fun e w' ⟨he, hB⟩ => ⟨_, he, hB, rfl⟩
    · intro _
      refine ob_plain [] rfl rfl fun aa g h => ?_
      exact tupon_value (v := .pointer (some ⟨g.w.heap.size, 0, none⟩)) (w1 := g.w.alloc (.cells #[.int .i64 0, .int .i64 0] 26)) (by simp [go_sem]) ((Below.refl _ _).alloc (Nat.le_refl _) _) ⟨_, rfl, g.h.size, World.alloc_heap_new _ _⟩
    · exact fun h => absurd rfl h
  rintro w5 hB _ rfl _ rfl _ rfl _ rfl _ rfl _ rfl _ rfl _ rfl _ rfl _ rfl _ rfl _ rfl _ ⟨X7, rfl, hX7, hI7⟩
  simp only [Act.put, List.setIfInBounds_toArray, List.set_cons_succ, List.set_cons_zero, List.filterMap_nil]
  have q0 := heapN_cellj hI7 (k := 0) rfl
  have y0 : w5.frozen? ⟨X7, 0, none⟩ = false := by simp [World.frozen?, show w5.heap[X7]? = _ from hI7]
  have q1 := heapN_cellj hI7 (k := 1) rfl
  have y1 : w5.frozen? ⟨X7, 1, none⟩ = false := by simp [World.frozen?, show w5.heap[X7]? = _ from hI7]
  refine ⟨_, by simp [go_sem, q0, y0, q1, y1]; rfl, ?_⟩
  clear q0 y0 q1 y1
  obtain ⟨w6, ew6, HIw6, HOw6⟩ := set2 (h := hI7) (.int .i64 r1) (.int .i64 r2)
  rw [ew6]
  clear ew6
  have hB6 : Below w.heap.size w w6 := HOw6.bel (below_then HB3.out hB) (by have := HB3.out.size; omega) (by have := HB3.out.size; have := hB.size; omega)
  have x0 := heapN_cellj HIw6 (k := 0) (u := .int .i64 r1) rfl
  have x1 := heapN_cellj HIw6 (k := 1) (u := .int .i64 r2) rfl
  have HB6 := Lib.hid hB6
  clear hB6 HIw6 HOw6 hB hX7 hI7 a2 a3 d2 d3 HB3
  by_cases h12 : r1 = r2
  · subst h12
    have KN := Lib.hid (fun (w1 : World) (hF : Fz ≤ w1.heap.size) => number_ok r1 w1 (vi_pt.1 VR.out) hF)
    go_wp2_with (fail)
    refine (KN.out _ (Nat.le_trans HFZ.out HB6.out.size)).mono ?_
    rintro e w7 ⟨z, rfl, hz, hB7⟩
    have HZ := Lib.hid hz
    have HB7 := Lib.hid (below_then HB6.out hB7)
    clear hz hB7
    go_wp2_with (fail)
    go_ret
    exact ⟨_, rfl, by rw [← HR.out, if_pos (by simp)]; exact HZ.out, HB7.out⟩
  · have q : (r1 != r2) = true := by simpa using h12
    go_wp2_with (fail)
    go_ret
    exact ⟨_, rfl, by rw [← HR.out, if_neg (by simpa using h12)]; rfl, HB6.out⟩
theorem wrap_0 : IntKind.i64.wrap 0 = 0 := by decide
theorem wrap_1 : IntKind.i64.wrap 1 = 1 := by decide
theorem TmO.grow {w w' : World} (hb : Below w.heap.size w w') {o : Option Ex} {v : Value} (h : TmO Fz w v o) : TmO Fz w' v o := by
  cases o with
  | none => exact h
  | some T => exact TmP.grow hb h
theorem steady_tmo (o : Option Ex) : Steady (fun v w => TmO Fz w v o) := fun _ _ _ hb h => h.grow hb
theorem steady_tmp (T : Ex) : Steady (fun v w => TmP Fz w v T) := fun _ _ _ hb h => h.grow hb
set_option maxHeartbeats 4000000 in
theorem red1_ok (N op : Int) (v u : Value) (a : Ex) (w : World) (hop : op = 4 ∨ op = 5 ∨ op = 6) (hv : TmP Fz w v a) (ha : EV N a) :
    Calls Tryz.prog 72 #[.int .i64 op, v, u] w fun e w' => ∃ z, e = .returned z ∧ TmO Fz w' z (red1 op a) ∧ Below w.heap.size w w' := by
  unfold red1
  rcases hop with rfl | hop
  · have K := Lib.hid (rneg_ok N v a w hv ha)
    rw [if_pos rfl]
    clear hv ha
    go_enter Tryz.func72, Tryz.ntmps72
    go_wp2_with (fail)
    refine K.out.mono ?_
    rintro e w1 ⟨z, rfl, hz, hB⟩
    have HZ := Lib.hid hz
    have HB := Lib.hid hB
    clear hz hB
    go_wp2_with (fail)
    go_ret
    exact ⟨_, rfl, HZ.out, HB.out⟩
  have K0 := Lib.hid (isc_ok 0 v a w hv)
  have K1 := Lib.hid (fun w1 (hB : Below w.heap.size w w1) => isc_ok 65536 v a w1 (hv.grow hB))
  have HV := Lib.hid hv
  rw [if_neg (by omega)]
  clear hv ha
  rcases hop with rfl | rfl
  · cases h0 : isC 0 a with
    | true =>
      rw [h0] at K0
      rw [Bool.true_or, if_pos rfl]
      clear h0
      go_enter Tryz.func72, Tryz.ntmps72
      go_wp2_with (fail)
      refine K0.out.mono ?_
      rintro e w1 ⟨rfl, hB⟩
      have HB := Lib.hid hB
      clear hB
      go_wp2_with (fail)
      go_ret
      exact ⟨_, rfl, HV.out.grow HB.out, HB.out⟩
    | false =>
      rw [h0] at K0
      rw [Bool.false_or]
      clear h0
      cases h1 : isC 65536 a with
      | true =>
        rw [h1] at K1
        rw [if_pos rfl]
        clear h1
        go_enter Tryz.func72, Tryz.ntmps72
        go_wp2_with (fail)
        refine K0.out.mono ?_
        rintro e w1 ⟨rfl, hB⟩
        go_wp2_with (fail)
        refine (K1.out _ hB).mono ?_
        rintro e w2 ⟨rfl, hB2⟩
        have HB := Lib.hid (below_then hB hB2)
        clear hB hB2
        go_wp2_with (fail)
        go_ret
        exact ⟨_, rfl, HV.out.grow HB.out, HB.out⟩
      | false =>
        rw [h1] at K1
        rw [if_neg (by decide)]
        clear h1
        go_enter Tryz.func72, Tryz.ntmps72
        go_wp2_with (fail)
        refine K0.out.mono ?_
        rintro e w1 ⟨rfl, hB⟩
        go_wp2_with (fail)
        refine (K1.out _ hB).mono ?_
        rintro e w2 ⟨rfl, hB2⟩
        have HB := Lib.hid (below_then hB hB2)
        clear hB hB2
        go_wp2_with (fail)
        go_ret
        exact ⟨_, rfl, rfl, HB.out⟩
  · cases h0 : isC 0 a with
    | true =>
      rw [h0] at K0
      rw [Bool.true_or, if_pos rfl]
      clear h0
      go_enter Tryz.func72, Tryz.ntmps72
      go_wp2_with (fail)
      refine K0.out.mono ?_
      rintro e w1 ⟨rfl, hB⟩
      have HB := Lib.hid hB
      clear hB
      go_wp2_with (fail)
      go_ret
      exact ⟨_, rfl, HV.out.grow HB.out, HB.out⟩
    | false =>
      rw [h0] at K0
      rw [Bool.false_or]
      clear h0
      cases h1 : isC 65536 a with
      | true =>
        rw [h1] at K1
        rw [if_pos rfl]
        clear h1
        go_enter Tryz.func72, Tryz.ntmps72
        go_wp2_with (fail)
        refine K0.out.mono ?_
        rintro e w1 ⟨rfl, hB⟩
        go_wp2_with (fail)
        refine (K1.out _ hB).mono ?_
        rintro e w2 ⟨rfl, hB2⟩
        have HB := Lib.hid (below_then hB hB2)
        clear hB hB2
        go_wp2_with (fail)
        go_ret
        exact ⟨_, rfl, HV.out.grow HB.out, HB.out⟩
      | false =>
        rw [h1] at K1
        rw [if_neg (by decide)]
        clear h1
        go_enter Tryz.func72, Tryz.ntmps72
        go_wp2_with (fail)
        refine K0.out.mono ?_
        rintro e w1 ⟨rfl, hB⟩
        go_wp2_with (fail)
        refine (K1.out _ hB).mono ?_
        rintro e w2 ⟨rfl, hB2⟩
        have HB := Lib.hid (below_then hB hB2)
        clear hB hB2
        go_wp2_with (fail)
        go_ret
        exact ⟨_, rfl, rfl, HB.out⟩
set_option maxHeartbeats 4000000 in
theorem simp0_ok (op n lo hi : Int) (c : Nat) (w : World) (S : Value) (p0 : Option Addr) (hS : S = .slice p0 0 c) (hF : Fz ≤ w.heap.size) :
    Calls Tryz.prog 45 #[.agg #[.int .i64 op, .int .i64 n, .int .i64 lo, .int .i64 hi], S] w fun e w' => ∃ z, e = .returned z ∧ TmP Fz w' z (.e0 ⟨op, n, lo, hi⟩) ∧ Below w.heap.size w w' := by
  subst hS
  go_enter Tryz.func45, Tryz.ntmps45
  go_wp2_with (fail)
  go_ret
  have hx := TmC.new (w.alloc (.cells #[.int .i64 op, .int .i64 n, .int .i64 lo, .int .i64 hi] 63)) ⟨op, n, lo, hi⟩ (.slice p0 0 c)
  rw [alloc_sz] at hx
  exact ⟨_, rfl, ⟨_, p0, c, rfl, hx, by omega⟩, ((Below.refl _ _).alloc (Nat.le_refl _) _).alloc (by rw [alloc_sz]; omega) _⟩
set_option maxHeartbeats 4000000 in
theorem simp1_ok (op n lo hi : Int) (c : Nat) (w : World) (N : Int) (r o : Nat) (u1 : Value) (a : Ex) (h1 : w.cell? ⟨r, o, none⟩ = some u1) (ha : TmP Fz w u1 a) (ea : EV N a) (hop : op = 4 ∨ op = 5 ∨ op = 6) (hr : Fz ≤ r) :
    Calls Tryz.prog 45 #[.agg #[.int .i64 op, .int .i64 n, .int .i64 lo, .int .i64 hi], .slice (some ⟨r, o, none⟩) 1 c] w fun e w' => ∃ z, e = .returned z ∧ TmP Fz w' z (s1 ⟨op, n, lo, hi⟩ a) ∧ Below w.heap.size w w' := by
  obtain ⟨b1, S1, rfl, _⟩ := ha.root
  have HFZ := Lib.hid ha.fz
  have hE : Below w.heap.size w (w.alloc (.cells #[.int .i64 op, .int .i64 n, .int .i64 lo, .int .i64 hi] 63)) := allocs_below [.cells #[.int .i64 op, .int .i64 n, .int .i64 lo, .int .i64 hi] 63] w
  have HN := Lib.hid (show Blk (w.alloc (.cells #[.int .i64 op, .int .i64 n, .int .i64 lo, .int .i64 hi] 63)) (w.heap.size) (.cells #[.int .i64 op, .int .i64 n, .int .i64 lo, .int .i64 hi] 63) from allocs_at [.cells #[.int .i64 op, .int .i64 n, .int .i64 lo, .int .i64 hi] 63] w 0 _ rfl)
  have HE := Lib.hid hE
  have fo := fun g : Grown (w.alloc (.cells #[.int .i64 op, .int .i64 n, .int .i64 lo, .int .i64 hi] 63)) => heapN_cellj (HN.out.grow g.h) (k := 0) rfl
  have fr1 := fun g : Grown (w.alloc (.cells #[.int .i64 op, .int .i64 n, .int .i64 lo, .int .i64 hi] 63)) => cell_grow (cell_grow h1 hE) g.h
  have C1 := Lib.hid h1
  have KR := Lib.hid (fun g : Grown (w.alloc (.cells #[.int .i64 op, .int .i64 n, .int .i64 lo, .int .i64 hi] 63)) => red1_ok N op (.pointer (some ⟨b1, 0, none⟩)) (.pointer (some ⟨b1, 0, none⟩)) a g.w hop ((ha.grow hE).grow g.h) ea)
  have HA := Lib.hid ha
  clear h1 ha ea hop
  have hsr : w.heap.size < ((w.alloc (.cells #[.int .i64 op, .int .i64 n, .int .i64 lo, .int .i64 hi] 63))).heap.size := by rw [alloc_sz]; omega
  unfold s1
  dsimp only
  generalize hred : red1 op a = rr at *
  clear hred hE
  go_enter Tryz.func45, Tryz.ntmps45
  go_wp2_with (fail)
  refine region_pred (lk [(9, fun z_ _ => z_ = .pointer (some ⟨w.heap.size, 0, none⟩)), (10, fun z_ _ => z_ = .int .i64 op), (11, fun z_ _ => z_ = .slice (some ⟨r, o, none⟩) 1 c), (12, fun z_ _ => z_ = .pointer (some ⟨r, o, none⟩)), (13, fun z_ _ => z_ = .pointer (some ⟨b1, 0, none⟩)), (14, fun z_ _ => z_ = .slice (some ⟨r, o, none⟩) 1 c), (15, fun z_ _ => z_ = .slice (some ⟨r, o, none⟩) 1 c), (16, fun z_ _ => z_ = .int .i64 1), (17, fun z_ _ => z_ = .int .i64 0), (18, fun z_ _ => z_ = .pointer (some ⟨r, o, none⟩)), (19, fun z_ _ => z_ = .pointer (some ⟨b1, 0, none⟩)), (20, fun z_ w_ => TmO Fz w_ z_ rr), (5, fun z_ w_ => TmO Fz w_ z_ rr)]) (by kernel_rfl) (by kernel_rfl) (lk_steady _ ⟨steady_eq _, steady_eq _, steady_eq _, steady_eq _, steady_eq _, steady_eq _, steady_eq _, steady_eq _, steady_eq _, steady_eq _, steady_eq _, steady_tmo _, steady_tmo _, trivial⟩) ?_ ?_
  · refine ⟨?_, ?_, ?_, ?_, ?_, ?_, ?_, ?_, ?_, ?_, ?_, ?_, ?_, trivial⟩
    · refine ob_plain [2] rfl rfl fun aa g h => ?_
      have yy0 := seen_out (v := .pointer (some ⟨w.heap.size, 0, none⟩)) rfl rfl h.1
      have ee0 := getD_of yy0
      exact tupon_value (v := .pointer (some ⟨w.heap.size, 0, none⟩)) (by simp [go_sem, ee0, yy0]) (Below.refl _ _) rfl
    · refine ob_plain [9] rfl rfl fun aa g h => ?_
      obtain ⟨_, yy0, rfl⟩ := seen_in rfl h.1
      have ee0 := getD_of yy0
      exact tupon_value (v := .int .i64 op) (by simp [go_sem, ee0, yy0, fo g]) (Below.refl _ _) rfl
    · refine ob_plain [1] rfl rfl fun aa g h => ?_
      have yy0 := seen_out (v := .slice (some ⟨r, o, none⟩) 1 c) rfl rfl h.1
      have ee0 := getD_of yy0
      exact tupon_value (v := .slice (some ⟨r, o, none⟩) 1 c) (by simp [go_sem, ee0, yy0]) (Below.refl _ _) rfl
    · refine ob_plain [11] rfl rfl fun aa g h => ?_
      obtain ⟨_, yy0, rfl⟩ := seen_in rfl h.1
      have ee0 := getD_of yy0
      exact tupon_value (v := .pointer (some ⟨r, o, none⟩)) (by simp [go_sem, ee0, yy0]) (Below.refl _ _) rfl
    · refine ob_plain [12] rfl rfl fun aa g h => ?_
      obtain ⟨_, yy0, rfl⟩ := seen_in rfl h.1
      have ee0 := getD_of yy0
      exact tupon_value (v := .pointer (some ⟨b1, 0, none⟩)) (by simp [go_sem, ee0, yy0, fr1 g]) (Below.refl _ _) rfl
    · refine ob_plain [1] rfl rfl fun aa g h => ?_
      have yy0 := seen_out (v := .slice (some ⟨r, o, none⟩) 1 c) rfl rfl h.1
      have ee0 := getD_of yy0
      exact tupon_value (v := .slice (some ⟨r, o, none⟩) 1 c) (by simp [go_sem, ee0, yy0]) (Below.refl _ _) rfl
    · refine ob_plain [1] rfl rfl fun aa g h => ?_
      have yy0 := seen_out (v := .slice (some ⟨r, o, none⟩) 1 c) rfl rfl h.1
      have ee0 := getD_of yy0
      exact tupon_value (v := .slice (some ⟨r, o, none⟩) 1 c) (by simp [go_sem, ee0, yy0]) (Below.refl _ _) rfl
    · refine ob_plain [15] rfl rfl fun aa g h => ?_
      obtain ⟨_, yy0, rfl⟩ := seen_in rfl h.1
      have ee0 := getD_of yy0
      exact tupon_value (v := .int .i64 1) (by simp [go_sem, ee0, yy0]) (Below.refl _ _) rfl
    · refine ob_plain [16] rfl rfl fun aa g h => ?_
      obtain ⟨_, yy0, rfl⟩ := seen_in rfl h.1
      have ee0 := getD_of yy0
      exact tupon_value (v := .int .i64 0) (by simp [go_sem, ee0, yy0, wrap_0]) (Below.refl _ _) rfl
    · refine ob_plain [14, 17] rfl rfl fun aa g h => ?_
      obtain ⟨_, yy0, rfl⟩ := seen_in rfl h.1
      have ee0 := getD_of yy0
      obtain ⟨_, yy1, rfl⟩ := seen_in rfl h.2.1
      have ee1 := getD_of yy1
      exact tupon_value (v := .pointer (some ⟨r, o, none⟩)) (by simp [go_sem, ee0, yy0, ee1, yy1]) (Below.refl _ _) rfl
    · refine ob_plain [18] rfl rfl fun aa g h => ?_
      obtain ⟨_, yy0, rfl⟩ := seen_in rfl h.1
      have ee0 := getD_of yy0
      exact tupon_value (v := .pointer (some ⟨b1, 0, none⟩)) (by simp [go_sem, ee0, yy0, fr1 g]) (Below.refl _ _) rfl
    · refine ob_plain [10, 13, 19] rfl rfl fun aa g h => ?_
      obtain ⟨_, yy0, rfl⟩ := seen_in rfl h.1
      have ee0 := getD_of yy0
      obtain ⟨_, yy1, rfl⟩ := seen_in rfl h.2.1
      have ee1 := getD_of yy1
      obtain ⟨_, yy2, rfl⟩ := seen_in rfl h.2.2.1
      have ee2 := getD_of yy2
      refine tupon_enter (f := 72) (args := #[.int .i64 op, .pointer (some ⟨b1, 0, none⟩), .pointer (some ⟨b1, 0, none⟩)]) (by simp [go_sem, ee0, yy0, ee1, yy1, ee2, yy2]) rfl ?_
      exact (KR.out g).mono fun e w' ⟨z, he, hz, hB⟩ => ⟨_, he, hB, hz⟩
    · refine ob_plain [20] rfl rfl fun aa g h => ?_
      obtain ⟨u20, yy0, hu20⟩ := seen_in rfl h.1
      have ee0 := getD_of yy0
      exact tupon_value (v := u20) (by simp [go_sem, ee0, yy0]) (Below.refl _ _) hu20
  rintro w5 hB _ rfl _ rfl _ rfl _ rfl _ rfl _ rfl _ rfl _ rfl _ rfl _ rfl _ rfl u20 hu20 u5 hu5
  simp only [Act.put, List.setIfInBounds_toArray, List.set_cons_succ, List.set_cons_zero, List.filterMap_nil, finP]
  have HB5 := Lib.hid (below_then HE.out hB)
  have hn5 := HN.out.grow hB
  have n0 := heapN_cellj hn5 (k := 0) rfl
  have n1 := heapN_cellj hn5 (k := 1) rfl
  have n2 := heapN_cellj hn5 (k := 2) rfl
  have n3 := heapN_cellj hn5 (k := 3) rfl
  have HU := Lib.hid hu5
  clear hu5 hu20 hB hn5 fo fr1  KR
  cases rr with
  | none =>
    obtain rfl : u5 = .pointer none := HU.out
    go_wp2_with (fail)
    go_ret
    have hB6 : Below w5.heap.size w5 _ := (Below.refl _ w5).alloc (Nat.le_refl _) (.cells #[.int .i64 op, .int .i64 n, .int .i64 lo, .int .i64 hi, .slice (some ⟨r, o, none⟩) 1 c] 89)
    have hB7 := below_then HB5.out hB6
    exact ⟨_, rfl, ⟨_, r, o, c, _, rfl, TmC.new _ ⟨op, n, lo, hi⟩ _, cell_grow C1.out hB7, HA.out.grow hB7, Nat.le_trans HFZ.out HB5.out.size, hr⟩, hB7⟩
  | some R =>
    obtain ⟨b5, S5, rfl, _⟩ := TmP.root HU.out
    go_wp2_with (fail)
    go_ret
    exact ⟨_, rfl, HU.out, HB5.out⟩
theorem apply1_ok (op : Int) (c : Nat) (w : World) (N : Int) (r o : Nat) (u1 : Value) (a : Ex) (h1 : w.cell? ⟨r, o, none⟩ = some u1) (ha : TmP Fz w u1 a) (ea : EV N a) (hop : op = 4 ∨ op = 5 ∨ op = 6) (hr : Fz ≤ r) :
    Calls Tryz.prog 104 #[.int .i64 op, .slice (some ⟨r, o, none⟩) 1 c] w fun e w' => ∃ z, e = .returned z ∧ TmP Fz w' z (s1 (ndo op) a) ∧ Below w.heap.size w w' := by
  have K := Lib.hid (simp1_ok op 0 0 0 c w N r o u1 a h1 ha ea hop hr)
  unfold ndo
  clear h1 ha ea hop
  go_enter Tryz.func104, Tryz.ntmps104
  go_wp2_with (fail)
  refine K.out.mono ?_
  rintro e w1 ⟨z, rfl, hz, hB⟩
  have HZ := Lib.hid hz
  have HB := Lib.hid hB
  clear hz hB
  go_wp2_with (fail)
  go_ret
  exact ⟨_, rfl, HZ.out, HB.out⟩
set_option maxHeartbeats 4000000 in
theorem rsum_ok (N : Int) (v u : Value) (a b : Ex) (w : World) (hv : TmP Fz w v a) (hu : TmP Fz w u b) (ha : EV N a) (hb : EV N b) :
    Calls Tryz.prog 100 #[v, u] w fun e w' => ∃ z, e = .returned z ∧ TmO Fz w' z (red2 7 a b) ∧ Below w.heap.size w w' := by
  have e2 : red2 7 a b = (if isC 0 a then some b else if isC 0 b then some a else cmpR 7 a b) := by
    unfold red2
    simp only [Int.reduceEq, if_true, if_false]
  rw [e2]
  clear e2
  obtain ⟨b1, S1, rfl, _⟩ := hv.root
  obtain ⟨b2, S2, rfl, _⟩ := hu.root
  have HV := Lib.hid hv
  have HU := Lib.hid hu
  have K0 := Lib.hid (fun w1 (hB : Below w.heap.size w w1) => isc_ok 0 _ a w1 (hv.grow hB))
  have K1 := Lib.hid (fun w1 (hB : Below w.heap.size w w1) => isc_ok 0 _ b w1 (hu.grow hB))
  have KC := Lib.hid (fun w1 (hB : Below w.heap.size w w1) => cmp_add N _ _ a b w1 (hv.grow hB) (hu.grow hB) ha hb)
  clear hv hu ha hb
  cases h0 : isC 0 a with
  | true =>
    rw [h0] at K0
    rw [if_pos rfl]
    clear h0
    go_enter Tryz.func100, Tryz.ntmps100
    go_wp2_with (fail)
    refine (K0.out _ (Below.refl _ _)).mono ?_
    rintro e w1 ⟨rfl, hB0⟩
    go_wp2_with (fail)
    go_ret
    exact ⟨_, rfl, HU.out.grow hB0, hB0⟩
  | false =>
    rw [h0] at K0
    rw [if_neg (by decide)]
    clear h0
    cases h1 : isC 0 b with
    | true =>
      rw [h1] at K1
      rw [if_pos rfl]
      clear h1
      go_enter Tryz.func100, Tryz.ntmps100
      go_wp2_with (fail)
      refine (K0.out _ (Below.refl _ _)).mono ?_
      rintro e w1 ⟨rfl, hB0⟩
      go_wp2_with (fail)
      refine (K1.out _ hB0).mono ?_
      rintro e w2 ⟨rfl, hx⟩
      have hB1 := below_then hB0 hx
      clear hx
      go_wp2_with (fail)
      go_ret
      exact ⟨_, rfl, HV.out.grow hB1, hB1⟩
    | false =>
      rw [h1] at K1
      rw [if_neg (by decide)]
      clear h1
      go_enter Tryz.func100, Tryz.ntmps100
      go_wp2_with (fail)
      refine (K0.out _ (Below.refl _ _)).mono ?_
      rintro e w1 ⟨rfl, hB0⟩
      go_wp2_with (fail)
      refine (K1.out _ hB0).mono ?_
      rintro e w2 ⟨rfl, hx⟩
      have hB1 := below_then hB0 hx
      clear hx
      go_wp2_with (fail)
      refine (KC.out _ hB1).mono ?_
      rintro e w9 ⟨z, rfl, hz, hx⟩
      have HZ := Lib.hid hz
      have HB := Lib.hid (below_then hB1 hx)
      clear hz hx hB1
      go_wp2_with (fail)
      go_ret
      exact ⟨_, rfl, HZ.out, HB.out⟩
set_option maxHeartbeats 4000000 in
theorem rdiff_ok (N : Int) (v u : Value) (a b : Ex) (w : World) (hv : TmP Fz w v a) (hu : TmP Fz w u b) (ha : EV N a) (hb : EV N b) :
    Calls Tryz.prog 101 #[v, u] w fun e w' => ∃ z, e = .returned z ∧ TmO Fz w' z (red2 8 a b) ∧ Below w.heap.size w w' := by
  have e2 : red2 8 a b = (if isC 0 b then some a else if isC 0 a then some (s1 (ndo 4) b) else cmpR 8 a b) := by
    unfold red2
    simp only [Int.reduceEq, if_true, if_false]
  rw [e2]
  clear e2
  obtain ⟨b1, S1, rfl, _⟩ := hv.root
  obtain ⟨b2, S2, rfl, _⟩ := hu.root
  have HV := Lib.hid hv
  have HU := Lib.hid hu
  have K0 := Lib.hid (fun w1 (hB : Below w.heap.size w w1) => isc_ok 0 _ b w1 (hu.grow hB))
  have K1 := Lib.hid (fun w1 (hB : Below w.heap.size w w1) => isc_ok 0 _ a w1 (hv.grow hB))
  have KC := Lib.hid (fun w1 (hB : Below w.heap.size w w1) => cmp_sub N _ _ a b w1 (hv.grow hB) (hu.grow hB) ha hb)
  have KA := Lib.hid (fun w1 (hB : Below w.heap.size w w1) => apply1_ok 4 1 (w1.alloc (.cells #[.pointer (some ⟨b2, 0, none⟩)] 69)) N w1.heap.size 0 _ b (by simp [go_sem]) ((hu.grow hB).grow ((Below.refl _ _).alloc (Nat.le_refl _) _)) hb (.inl rfl) (Nat.le_trans hu.fz hB.size))
  clear hv hu ha hb
  cases h0 : isC 0 b with
  | true =>
    rw [h0] at K0
    rw [if_pos rfl]
    clear h0
    go_enter Tryz.func101, Tryz.ntmps101
    go_wp2_with (fail)
    refine (K0.out _ (Below.refl _ _)).mono ?_
    rintro e w1 ⟨rfl, hB0⟩
    go_wp2_with (fail)
    go_ret
    exact ⟨_, rfl, HV.out.grow hB0, hB0⟩
  | false =>
    rw [h0] at K0
    rw [if_neg (by decide)]
    clear h0
    cases h1 : isC 0 a with
    | true =>
      rw [h1] at K1
      rw [if_pos rfl]
      clear h1
      go_enter Tryz.func101, Tryz.ntmps101
      go_wp2_with (fail)
      refine (K0.out _ (Below.refl _ _)).mono ?_
      rintro e w1 ⟨rfl, hB0⟩
      go_wp2_with (fail)
      refine (K1.out _ hB0).mono ?_
      rintro e w2 ⟨rfl, hx⟩
      have hB1 := below_then hB0 hx
      clear hx
      go_wp2_with (fail)
      refine (KA.out _ hB1).mono ?_
      rintro e w9 ⟨z, rfl, hz, hx⟩
      have HZ := Lib.hid hz
      have HB := Lib.hid (below_then (hB1.alloc hB1.size (.cells #[.pointer (some ⟨b2, 0, none⟩)] 69)) hx)
      clear hz hx hB1
      go_wp2_with (fail)
      go_ret
      exact ⟨_, rfl, HZ.out, HB.out⟩
    | false =>
      rw [h1] at K1
      rw [if_neg (by decide)]
      clear h1
      go_enter Tryz.func101, Tryz.ntmps101
      go_wp2_with (fail)
      refine (K0.out _ (Below.refl _ _)).mono ?_
      rintro e w1 ⟨rfl, hB0⟩
      go_wp2_with (fail)
      refine (K1.out _ hB0).mono ?_
      rintro e w2 ⟨rfl, hx⟩
      have hB1 := below_then hB0 hx
      clear hx
      go_wp2_with (fail)
      refine (KC.out _ hB1).mono ?_
      rintro e w9 ⟨z, rfl, hz, hx⟩
      have HZ := Lib.hid hz
      have HB := Lib.hid (below_then hB1 hx)
      clear hz hx hB1
      go_wp2_with (fail)
      go_ret
      exact ⟨_, rfl, HZ.out, HB.out⟩
set_option maxHeartbeats 4000000 in
theorem rprod_ok (N : Int) (v u : Value) (a b : Ex) (w : World) (hv : TmP Fz w v a) (hu : TmP Fz w u b) (ha : EV N a) (hb : EV N b) :
    Calls Tryz.prog 102 #[v, u] w fun e w' => ∃ z, e = .returned z ∧ TmO Fz w' z (red2 9 a b) ∧ Below w.heap.size w w' := by
  have e2 : red2 9 a b = (if isC 0 a then some a else if isC 0 b || isC 65536 a then some b else if isC 65536 b then some a else cmpR 9 a b) := by
    unfold red2
    simp only [Int.reduceEq, if_true, if_false]
  rw [e2]
  clear e2
  obtain ⟨b1, S1, rfl, _⟩ := hv.root
  obtain ⟨b2, S2, rfl, _⟩ := hu.root
  have HV := Lib.hid hv
  have HU := Lib.hid hu
  have K0 := Lib.hid (fun w1 (hB : Below w.heap.size w w1) => isc_ok 0 _ a w1 (hv.grow hB))
  have K1 := Lib.hid (fun w1 (hB : Below w.heap.size w w1) => isc_ok 0 _ b w1 (hu.grow hB))
  have K2 := Lib.hid (fun w1 (hB : Below w.heap.size w w1) => isc_ok 65536 _ a w1 (hv.grow hB))
  have K3 := Lib.hid (fun w1 (hB : Below w.heap.size w w1) => isc_ok 65536 _ b w1 (hu.grow hB))
  have KC := Lib.hid (fun w1 (hB : Below w.heap.size w w1) => cmp_mul N _ _ a b w1 (hv.grow hB) (hu.grow hB) ha hb)
  clear hv hu ha hb
  cases h0 : isC 0 a with
  | true =>
    rw [h0] at K0
    rw [if_pos rfl]
    clear h0
    go_enter Tryz.func102, Tryz.ntmps102
    go_wp2_with (fail)
    refine (K0.out _ (Below.refl _ _)).mono ?_
    rintro e w1 ⟨rfl, hB0⟩
    go_wp2_with (fail)
    go_ret
    exact ⟨_, rfl, HV.out.grow hB0, hB0⟩
  | false =>
    rw [h0] at K0
    rw [if_neg (by decide)]
    clear h0
    cases h1 : isC 0 b with
    | true =>
      rw [h1] at K1
      rw [Bool.true_or, if_pos rfl]
      clear h1
      go_enter Tryz.func102, Tryz.ntmps102
      go_wp2_with (fail)
      refine (K0.out _ (Below.refl _ _)).mono ?_
      rintro e w1 ⟨rfl, hB0⟩
      go_wp2_with (fail)
      refine (K1.out _ hB0).mono ?_
      rintro e w2 ⟨rfl, hx⟩
      have hB1 := below_then hB0 hx
      clear hx
      go_wp2_with (fail)
      go_ret
      exact ⟨_, rfl, HU.out.grow hB1, hB1⟩
    | false =>
      rw [h1] at K1
      rw [Bool.false_or]
      clear h1
      cases h2 : isC 65536 a with
      | true =>
        rw [h2] at K2
        rw [if_pos rfl]
        clear h2
        go_enter Tryz.func102, Tryz.ntmps102
        go_wp2_with (fail)
        refine (K0.out _ (Below.refl _ _)).mono ?_
        rintro e w1 ⟨rfl, hB0⟩
        go_wp2_with (fail)
        refine (K1.out _ hB0).mono ?_
        rintro e w2 ⟨rfl, hx⟩
        have hB1 := below_then hB0 hx
        clear hx
        go_wp2_with (fail)
        refine (K2.out _ hB1).mono ?_
        rintro e w3 ⟨rfl, hx⟩
        have hB2 := below_then hB1 hx
        clear hx
        go_wp2_with (fail)
        go_ret
        exact ⟨_, rfl, HU.out.grow hB2, hB2⟩
      | false =>
        rw [h2] at K2
        rw [if_neg (by decide)]
        clear h2
        cases h3 : isC 65536 b with
        | true =>
          rw [h3] at K3
          rw [if_pos rfl]
          clear h3
          go_enter Tryz.func102, Tryz.ntmps102
          go_wp2_with (fail)
          refine (K0.out _ (Below.refl _ _)).mono ?_
          rintro e w1 ⟨rfl, hB0⟩
          go_wp2_with (fail)
          refine (K1.out _ hB0).mono ?_
          rintro e w2 ⟨rfl, hx⟩
          have hB1 := below_then hB0 hx
          clear hx
          go_wp2_with (fail)
          refine (K2.out _ hB1).mono ?_
          rintro e w3 ⟨rfl, hx⟩
          have hB2 := below_then hB1 hx
          clear hx
          go_wp2_with (fail)
          refine (K3.out _ hB2).mono ?_
          rintro e w4 ⟨rfl, hx⟩
          have hB3 := below_then hB2 hx
          clear hx
          go_wp2_with (fail)
          go_ret
          exact ⟨_, rfl, HV.out.grow hB3, hB3⟩
        | false =>
          rw [h3] at K3
          rw [if_neg (by decide)]
          clear h3
          go_enter Tryz.func102, Tryz.ntmps102
          go_wp2_with (fail)
          refine (K0.out _ (Below.refl _ _)).mono ?_
          rintro e w1 ⟨rfl, hB0⟩
          go_wp2_with (fail)
          refine (K1.out _ hB0).mono ?_
          rintro e w2 ⟨rfl, hx⟩
          have hB1 := below_then hB0 hx
          clear hx
          go_wp2_with (fail)
          refine (K2.out _ hB1).mono ?_
          rintro e w3 ⟨rfl, hx⟩
          have hB2 := below_then hB1 hx
          clear hx
          go_wp2_with (fail)
          refine (K3.out _ hB2).mono ?_
          rintro e w4 ⟨rfl, hx⟩
          have hB3 := below_then hB2 hx
          clear hx
          go_wp2_with (fail)
          refine (KC.out _ hB3).mono ?_
          rintro e w9 ⟨z, rfl, hz, hx⟩
          have HZ := Lib.hid hz
          have HB := Lib.hid (below_then hB3 hx)
          clear hz hx hB3
          go_wp2_with (fail)
          go_ret
          exact ⟨_, rfl, HZ.out, HB.out⟩
set_option maxHeartbeats 4000000 in
theorem red2_ok (N op : Int) (v u : Value) (a b : Ex) (w : World) (hop : op = 7 ∨ op = 8 ∨ op = 9 ∨ op = 10) (hv : TmP Fz w v a) (hu : TmP Fz w u b) (ha : EV N a) (hb : EV N b) :
    Calls Tryz.prog 72 #[.int .i64 op, v, u] w fun e w' => ∃ z, e = .returned z ∧ TmO Fz w' z (red2 op a b) ∧ Below w.heap.size w w' := by
  have K7 := Lib.hid (rsum_ok N v u a b w hv hu ha hb)
  have K8 := Lib.hid (rdiff_ok N v u a b w hv hu ha hb)
  have K9 := Lib.hid (rprod_ok N v u a b w hv hu ha hb)
  have K0 := Lib.hid (fun w1 (hB : Below w.heap.size w w1) => isc_ok 0 v a w1 (hv.grow hB))
  have K1 := Lib.hid (fun w1 (hB : Below w.heap.size w w1) => isc_ok 65536 u b w1 (hu.grow hB))
  have HV := Lib.hid hv
  clear hv hu ha hb
  rcases hop with rfl | rfl | rfl | rfl
  · clear K8 K9 K0 K1 HV
    go_enter Tryz.func72, Tryz.ntmps72
    go_wp2_with (fail)
    refine K7.out.mono ?_
    rintro e w1 ⟨z, rfl, hz, hB⟩
    have HZ := Lib.hid hz
    have HB := Lib.hid hB
    clear hz hB
    go_wp2_with (fail)
    go_ret
    exact ⟨_, rfl, HZ.out, HB.out⟩
  · clear K7 K9 K0 K1 HV
    go_enter Tryz.func72, Tryz.ntmps72
    go_wp2_with (fail)
    refine K8.out.mono ?_
    rintro e w1 ⟨z, rfl, hz, hB⟩
    have HZ := Lib.hid hz
    have HB := Lib.hid hB
    clear hz hB
    go_wp2_with (fail)
    go_ret
    exact ⟨_, rfl, HZ.out, HB.out⟩
  · clear K7 K8 K0 K1 HV
    go_enter Tryz.func72, Tryz.ntmps72
    go_wp2_with (fail)
    refine K9.out.mono ?_
    rintro e w1 ⟨z, rfl, hz, hB⟩
    have HZ := Lib.hid hz
    have HB := Lib.hid hB
    clear hz hB
    go_wp2_with (fail)
    go_ret
    exact ⟨_, rfl, HZ.out, HB.out⟩
  · clear K7 K8 K9
    have e2 : red2 10 a b = (if isC 0 a || isC 65536 b then some a else none) := by
      unfold red2
      simp only [Int.reduceEq, if_true, if_false]
    rw [e2]
    clear e2
    cases h0 : isC 0 a with
    | true =>
      rw [h0] at K0
      rw [Bool.true_or, if_pos rfl]
      clear h0
      go_enter Tryz.func72, Tryz.ntmps72
      go_wp2_with (fail)
      refine (K0.out _ (Below.refl _ _)).mono ?_
      rintro e w1 ⟨rfl, hB0⟩
      go_wp2_with (fail)
      go_ret
      exact ⟨_, rfl, HV.out.grow hB0, hB0⟩
    | false =>
      rw [h0] at K0
      rw [Bool.false_or]
      clear h0
      cases h1 : isC 65536 b with
      | true =>
        rw [h1] at K1
        rw [if_pos rfl]
        clear h1
        go_enter Tryz.func72, Tryz.ntmps72
        go_wp2_with (fail)
        refine (K0.out _ (Below.refl _ _)).mono ?_
        rintro e w1 ⟨rfl, hB0⟩
        go_wp2_with (fail)
        refine (K1.out _ hB0).mono ?_
        rintro e w2 ⟨rfl, hx⟩
        have hB1 := below_then hB0 hx
        clear hx
        go_wp2_with (fail)
        go_ret
        exact ⟨_, rfl, HV.out.grow hB1, hB1⟩
      | false =>
        rw [h1] at K1
        rw [if_neg (by decide)]
        clear h1
        go_enter Tryz.func72, Tryz.ntmps72
        go_wp2_with (fail)
        refine (K0.out _ (Below.refl _ _)).mono ?_
        rintro e w1 ⟨rfl, hB0⟩
        go_wp2_with (fail)
        refine (K1.out _ hB0).mono ?_
        rintro e w2 ⟨rfl, hx⟩
        have hB1 := below_then hB0 hx
        clear hx
        go_wp2_with (fail)
        go_ret
        exact ⟨_, rfl, rfl, hB1⟩
set_option maxHeartbeats 4000000 in
theorem simp2_ok (op n lo hi : Int) (c : Nat) (w : World) (N : Int) (r o : Nat) (u1 u2 : Value) (a b : Ex) (h1 : w.cell? ⟨r, o, none⟩ = some u1) (h2 : w.cell? ⟨r, o + 1, none⟩ = some u2) (ha : TmP Fz w u1 a) (hb : TmP Fz w u2 b) (ea : EV N a) (eb : EV N b) (hop : op = 7 ∨ op = 8 ∨ op = 9 ∨ op = 10) (hr : Fz ≤ r) :
    Calls Tryz.prog 45 #[.agg #[.int .i64 op, .int .i64 n, .int .i64 lo, .int .i64 hi], .slice (some ⟨r, o, none⟩) 2 c] w fun e w' => ∃ z, e = .returned z ∧ TmP Fz w' z (s2 ⟨op, n, lo, hi⟩ a b) ∧ Below w.heap.size w w' := by
  obtain ⟨b1, S1, rfl, _⟩ := ha.root
  obtain ⟨b2, S2, rfl, _⟩ := hb.root
  have HFZ := Lib.hid ha.fz
  have hE : Below w.heap.size w (w.alloc (.cells #[.int .i64 op, .int .i64 n, .int .i64 lo, .int .i64 hi] 63)) := allocs_below [.cells #[.int .i64 op, .int .i64 n, .int .i64 lo, .int .i64 hi] 63] w
  have HN := Lib.hid (show Blk (w.alloc (.cells #[.int .i64 op, .int .i64 n, .int .i64 lo, .int .i64 hi] 63)) (w.heap.size) (.cells #[.int .i64 op, .int .i64 n, .int .i64 lo, .int .i64 hi] 63) from allocs_at [.cells #[.int .i64 op, .int .i64 n, .int .i64 lo, .int .i64 hi] 63] w 0 _ rfl)
  have HE := Lib.hid hE
  have fo := fun g : Grown (w.alloc (.cells #[.int .i64 op, .int .i64 n, .int .i64 lo, .int .i64 hi] 63)) => heapN_cellj (HN.out.grow g.h) (k := 0) rfl
  have fr1 := fun g : Grown (w.alloc (.cells #[.int .i64 op, .int .i64 n, .int .i64 lo, .int .i64 hi] 63)) => cell_grow (cell_grow h1 hE) g.h
  have fr2 := fun g : Grown (w.alloc (.cells #[.int .i64 op, .int .i64 n, .int .i64 lo, .int .i64 hi] 63)) => cell_grow (cell_grow h2 hE) g.h
  have C1 := Lib.hid h1
  have C2 := Lib.hid h2
  have KR := Lib.hid (fun g : Grown (w.alloc (.cells #[.int .i64 op, .int .i64 n, .int .i64 lo, .int .i64 hi] 63)) => red2_ok N op (.pointer (some ⟨b1, 0, none⟩)) (.pointer (some ⟨b2, 0, none⟩)) a b g.w hop ((ha.grow hE).grow g.h) ((hb.grow hE).grow g.h) ea eb)
  have HA := Lib.hid ha
  have HA2 := Lib.hid hb
  clear h1 h2 ha hb ea eb hop
  have hsr : w.heap.size < ((w.alloc (.cells #[.int .i64 op, .int .i64 n, .int .i64 lo, .int .i64 hi] 63))).heap.size := by rw [alloc_sz]; omega
  unfold s2
  dsimp only
  generalize hred : red2 op a b = rr at *
  clear hred hE
  go_enter Tryz.func45, Tryz.ntmps45
  go_wp2_with (fail)
  refine region_pred (lk [(9, fun z_ _ => z_ = .pointer (some ⟨w.heap.size, 0, none⟩)), (10, fun z_ _ => z_ = .int .i64 op), (11, fun z_ _ => z_ = .slice (some ⟨r, o, none⟩) 2 c), (12, fun z_ _ => z_ = .pointer (some ⟨r, o, none⟩)), (13, fun z_ _ => z_ = .pointer (some ⟨b1, 0, none⟩)), (14, fun z_ _ => z_ = .slice (some ⟨r, o, none⟩) 2 c), (15, fun z_ _ => z_ = .slice (some ⟨r, o, none⟩) 2 c), (16, fun z_ _ => z_ = .int .i64 2), (17, fun z_ _ => z_ = .int .i64 1), (18, fun z_ _ => z_ = .pointer (some ⟨r, o + 1, none⟩)), (19, fun z_ _ => z_ = .pointer (some ⟨b2, 0, none⟩)), (20, fun z_ w_ => TmO Fz w_ z_ rr), (5, fun z_ w_ => TmO Fz w_ z_ rr)]) (by kernel_rfl) (by kernel_rfl) (lk_steady _ ⟨steady_eq _, steady_eq _, steady_eq _, steady_eq _, steady_eq _, steady_eq _, steady_eq _, steady_eq _, steady_eq _, steady_eq _, steady_eq _, steady_tmo _, steady_tmo _, trivial⟩) ?_ ?_
  · refine ⟨?_, ?_, ?_, ?_, ?_, ?_, ?_, ?_, ?_, ?_, ?_, ?_, ?_, trivial⟩
    · refine ob_plain [2] rfl rfl fun aa g h => ?_
      have yy0 := seen_out (v := .pointer (some ⟨w.heap.size, 0, none⟩)) rfl rfl h.1
      have ee0 := getD_of yy0
      exact tupon_value (v := .pointer (some ⟨w.heap.size, 0, none⟩)) (by simp [go_sem, ee0, yy0]) (Below.refl _ _) rfl
    · refine ob_plain [9] rfl rfl fun aa g h => ?_
      obtain ⟨_, yy0, rfl⟩ := seen_in rfl h.1
      have ee0 := getD_of yy0
      exact tupon_value (v := .int .i64 op) (by simp [go_sem, ee0, yy0, fo g]) (Below.refl _ _) rfl
    · refine ob_plain [1] rfl rfl fun aa g h => ?_
      have yy0 := seen_out (v := .slice (some ⟨r, o, none⟩) 2 c) rfl rfl h.1
      have ee0 := getD_of yy0
      exact tupon_value (v := .slice (some ⟨r, o, none⟩) 2 c) (by simp [go_sem, ee0, yy0]) (Below.refl _ _) rfl
    · refine ob_plain [11] rfl rfl fun aa g h => ?_
      obtain ⟨_, yy0, rfl⟩ := seen_in rfl h.1
      have ee0 := getD_of yy0
      exact tupon_value (v := .pointer (some ⟨r, o, none⟩)) (by simp [go_sem, ee0, yy0]) (Below.refl _ _) rfl
    · refine ob_plain [12] rfl rfl fun aa g h => ?_
      obtain ⟨_, yy0, rfl⟩ := seen_in rfl h.1
      have ee0 := getD_of yy0
      exact tupon_value (v := .pointer (some ⟨b1, 0, none⟩)) (by simp [go_sem, ee0, yy0, fr1 g]) (Below.refl _ _) rfl
    · refine ob_plain [1] rfl rfl fun aa g h => ?_
      have yy0 := seen_out (v := .slice (some ⟨r, o, none⟩) 2 c) rfl rfl h.1
      have ee0 := getD_of yy0
      exact tupon_value (v := .slice (some ⟨r, o, none⟩) 2 c) (by simp [go_sem, ee0, yy0]) (Below.refl _ _) rfl
    · refine ob_plain [1] rfl rfl fun aa g h => ?_
      have yy0 := seen_out (v := .slice (some ⟨r, o, none⟩) 2 c) rfl rfl h.1
      have ee0 := getD_of yy0
      exact tupon_value (v := .slice (some ⟨r, o, none⟩) 2 c) (by simp [go_sem, ee0, yy0]) (Below.refl _ _) rfl
    · refine ob_plain [15] rfl rfl fun aa g h => ?_
      obtain ⟨_, yy0, rfl⟩ := seen_in rfl h.1
      have ee0 := getD_of yy0
      exact tupon_value (v := .int .i64 2) (by simp [go_sem, ee0, yy0]) (Below.refl _ _) rfl
    · refine ob_plain [16] rfl rfl fun aa g h => ?_
      obtain ⟨_, yy0, rfl⟩ := seen_in rfl h.1
      have ee0 := getD_of yy0
      exact tupon_value (v := .int .i64 1) (by simp [go_sem, ee0, yy0, wrap_1]) (Below.refl _ _) rfl
    · refine ob_plain [14, 17] rfl rfl fun aa g h => ?_
      obtain ⟨_, yy0, rfl⟩ := seen_in rfl h.1
      have ee0 := getD_of yy0
      obtain ⟨_, yy1, rfl⟩ := seen_in rfl h.2.1
      have ee1 := getD_of yy1
      exact tupon_value (v := .pointer (some ⟨r, o + 1, none⟩)) (by simp [go_sem, ee0, yy0, ee1, yy1]) (Below.refl _ _) rfl
    · refine ob_plain [18] rfl rfl fun aa g h => ?_
      obtain ⟨_, yy0, rfl⟩ := seen_in rfl h.1
      have ee0 := getD_of yy0
      exact tupon_value (v := .pointer (some ⟨b2, 0, none⟩)) (by simp [go_sem, ee0, yy0, fr2 g]) (Below.refl _ _) rfl
    · refine ob_plain [10, 13, 19] rfl rfl fun aa g h => ?_
      obtain ⟨_, yy0, rfl⟩ := seen_in rfl h.1
      have ee0 := getD_of yy0
      obtain ⟨_, yy1, rfl⟩ := seen_in rfl h.2.1
      have ee1 := getD_of yy1
      obtain ⟨_, yy2, rfl⟩ := seen_in rfl h.2.2.1
      have ee2 := getD_of yy2
      refine tupon_enter (f := 72) (args := #[.int .i64 op, .pointer (some ⟨b1, 0, none⟩), .pointer (some ⟨b2, 0, none⟩)]) (by simp [go_sem, ee0, yy0, ee1, yy1, ee2, yy2]) rfl ?_
      exact (KR.out g).mono fun e w' ⟨z, he, hz, hB⟩ => ⟨_, he, hB, hz⟩
    · refine ob_plain [20] rfl rfl fun aa g h => ?_
      obtain ⟨u20, yy0, hu20⟩ := seen_in rfl h.1
      have ee0 := getD_of yy0
      exact tupon_value (v := u20) (by simp [go_sem, ee0, yy0]) (Below.refl _ _) hu20
  rintro w5 hB _ rfl _ rfl _ rfl _ rfl _ rfl _ rfl _ rfl _ rfl _ rfl _ rfl _ rfl u20 hu20 u5 hu5
  simp only [Act.put, List.setIfInBounds_toArray, List.set_cons_succ, List.set_cons_zero, List.filterMap_nil, finP]
  have HB5 := Lib.hid (below_then HE.out hB)
  have hn5 := HN.out.grow hB
  have n0 := heapN_cellj hn5 (k := 0) rfl
  have n1 := heapN_cellj hn5 (k := 1) rfl
  have n2 := heapN_cellj hn5 (k := 2) rfl
  have n3 := heapN_cellj hn5 (k := 3) rfl
  have HU := Lib.hid hu5
  clear hu5 hu20 hB hn5 fo fr1 fr2 KR
  cases rr with
  | none =>
    obtain rfl : u5 = .pointer none := HU.out
    go_wp2_with (fail)
    go_ret
    have hB6 : Below w5.heap.size w5 _ := (Below.refl _ w5).alloc (Nat.le_refl _) (.cells #[.int .i64 op, .int .i64 n, .int .i64 lo, .int .i64 hi, .slice (some ⟨r, o, none⟩) 2 c] 89)
    have hB7 := below_then HB5.out hB6
    exact ⟨_, rfl, ⟨_, r, o, c, _, _, rfl, TmC.new _ ⟨op, n, lo, hi⟩ _, cell_grow C1.out hB7, cell_grow C2.out hB7, HA.out.grow hB7, HA2.out.grow hB7, Nat.le_trans HFZ.out HB5.out.size, hr⟩, hB7⟩
  | some R =>
    obtain ⟨b5, S5, rfl, _⟩ := TmP.root HU.out
    go_wp2_with (fail)
    go_ret
    exact ⟨_, rfl, HU.out, HB5.out⟩
theorem apply2_ok (op : Int) (c : Nat) (w : World) (N : Int) (r o : Nat) (u1 u2 : Value) (a b : Ex) (h1 : w.cell? ⟨r, o, none⟩ = some u1) (h2 : w.cell? ⟨r, o + 1, none⟩ = some u2) (ha : TmP Fz w u1 a) (hb : TmP Fz w u2 b) (ea : EV N a) (eb : EV N b) (hop : op = 7 ∨ op = 8 ∨ op = 9 ∨ op = 10) (hr : Fz ≤ r) :
    Calls Tryz.prog 104 #[.int .i64 op, .slice (some ⟨r, o, none⟩) 2 c] w fun e w' => ∃ z, e = .returned z ∧ TmP Fz w' z (s2 (ndo op) a b) ∧ Below w.heap.size w w' := by
  have K := Lib.hid (simp2_ok op 0 0 0 c w N r o u1 u2 a b h1 h2 ha hb ea eb hop hr)
  unfold ndo
  clear h1 ha ea hop h2 hb eb
  go_enter Tryz.func104, Tryz.ntmps104
  go_wp2_with (fail)
  refine K.out.mono ?_
  rintro e w1 ⟨z, rfl, hz, hB⟩
  have HZ := Lib.hid hz
  have HB := Lib.hid hB
  clear hz hB
  go_wp2_with (fail)
  go_ret
  exact ⟨_, rfl, HZ.out, HB.out⟩
end Go.Proofs.YtbppfohcicepcaaGreat
