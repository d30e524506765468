/-
  Package taylor: Var, Valid. The law's term and span; the reference's Same and Corner.
-/
import Derived.Test.YtbfhmbadgbackaaGreatYc
import Derived.Maps.AppendAt
namespace Go.Proofs.YtbfhmbadgbackaaGreat
open Go.ChangeShapes Go.WideShapes Go.ChangeAt Go.RowKit
set_option linter.unusedVariables false
set_option linter.unusedSimpArgs false
set_option maxRecDepth 100000
attribute [local irreducible] Calls
theorem varT_tn (i : Int) : ∀ t ∈ varT i, TV t ∧ Num t.1 := by
  unfold varT
  split
  · rename_i h
    rcases (show i = 0 ∨ i = 1 ∨ i = 2 ∨ i = 3 ∨ i = 4 ∨ i = 5 by omega) with rfl | rfl | rfl | rfl | rfl | rfl
    all_goals
      intro t ht
      simp only [List.mem_singleton] at ht
      subst ht
      exact ⟨⟨⟨rfl, by decide⟩, by decide, by decide⟩, by unfold Num; decide⟩
  · simp
theorem varT_len (i : Int) : (varT i).length ≤ 1 := by unfold varT; split <;> simp
theorem trunc_num {l : List Tm} {D : Int} {m : Int × Int} : ∀ t ∈ (truncP l D m).1, Num t.1 := by
  unfold truncP
  split
  · simp
  · rename_i hn
    split
    · simp
    · intro t ht
      by_cases q : Num t.1
      · exact q
      · exact absurd (List.any_eq_true.2 ⟨t, (List.mem_filter.1 ht).1, by simp [noNum, q]⟩) hn
theorem trunc_len (l : List Tm) (D : Int) (m : Int × Int) : (truncP l D m).1.length ≤ 100 := by
  unfold truncP
  split
  · simp
  · split
    · simp
    · rename_i h
      dsimp only
      omega
set_option maxHeartbeats 16000000 in
theorem tvar_ok (i a0 a1 : Int) (w : World) (hv : VB2 (a0, a1)) :
    Calls Tryz.prog 35 #[.int .i64 i, .agg #[.int .i64 a0, .int .i64 a1]] w fun e w' => ∃ r, e = .returned (.agg #[r, .int .i64 (varM i (a0, a1)).2.1, .int .i64 (varM i (a0, a1)).2.2]) ∧ Tx w' r (varM i (a0, a1)).1 ∧ CapOk r ∧ Below w.heap.size w w' := by
  have hbd := vb_bdY hv
  have hmn := mid_num hv
  have KM := Lib.hid (fun w => iv_mid a0 a1 w hbd)
  obtain ⟨⟨N, n0, n1⟩, hN⟩ : ∃ R, varM i (a0, a1) = R := ⟨_, rfl⟩
  rw [hN]
  dsimp only
  unfold varM at hN
  unfold midI at hmn hN
  dsimp only at hmn hN
  obtain ⟨m, hm⟩ : ∃ m, (a0 + a1) / 2 = m := ⟨_, rfl⟩
  rw [hm] at KM hmn hN
  obtain ⟨rad, hrad⟩ : ∃ r, a1 - m = r := ⟨_, rfl⟩
  have Wr : IntKind.i64.wrap (a1 - m) = rad := by unfold Num at hmn; dsimp only at hbd; rw [wrap_i64 _ (by omega) (by omega)]; exact hrad
  rw [hrad] at hN
  have KP := Lib.hid (iv_point rad)
  rw [show ptI rad = (mkLo rad rad, mkHi rad rad) from rfl] at hN
  have hpr : entR (mkLo rad rad, mkHi rad rad) = false → Num rad := fun h => by
    by_cases q : Num rad
    · exact q
    · exfalso
      simp [entR, mkLo, mkHi, q] at h
  obtain ⟨p0, h0⟩ : ∃ z, mkLo rad rad = z := ⟨_, rfl⟩
  obtain ⟨p1, h1⟩ : ∃ z, mkHi rad rad = z := ⟨_, rfl⟩
  rw [h0, h1] at KP hN hpr
  have hba : Below w.heap.size w ((w.alloc (.cells #[.int .i64 a0, .int .i64 a1] 24)).alloc (.cells #[.slice none 0 0, .int .i64 0, .int .i64 0] 26)) := (((Below.refl _ _).alloc (Nat.le_refl _) _).alloc (by simp) _)
  have hc0 : IvC ((w.alloc (.cells #[.int .i64 a0, .int .i64 a1] 24)).alloc (.cells #[.slice none 0 0, .int .i64 0, .int .i64 0] 26)) (w.heap.size) (a0, a1) := by
    have e := IvC.new w a0 a1
    exact (e.alloc _)
  have hc1 : MoC ((w.alloc (.cells #[.int .i64 a0, .int .i64 a1] 24)).alloc (.cells #[.slice none 0 0, .int .i64 0, .int .i64 0] 26)) (w.heap.size + 1) (.slice none 0 0) (0, 0) := by
    have e := MoC.new (w.alloc (.cells #[.int .i64 a0, .int .i64 a1] 24)) (.slice none 0 0) 0 0
    simp only [World.size_alloc] at e
    exact e
  have HC0 := Lib.hid hc0
  have HC1 := Lib.hid hc1
  have HBA := Lib.hid hba
  clear hba hc0 hc1 hv hbd hm hrad h0 h1
  go_enter Tryz.func35, Tryz.ntmps35
  go_wp2_with (fail)
  generalize hW0 : World.alloc (World.alloc w _) _ = W0 at *
  clear hW0
  have k0 := HC0.out.c0
  have k1 := HC0.out.c1
  dsimp only at k0 k1
  go_wp2_with (fail)
  refine (KM.out _).mono ?_
  rintro e w1 ⟨rfl, hB1⟩
  have hA1 := HC0.out.grow hB1
  have hM1 := HC1.out.grow hB1
  have hb1 := below_then HBA.out hB1
  clear k0 k1 hB1 HC0 HC1 HBA
  have k0 := hA1.c0
  have k1 := hA1.c1
  dsimp only at k0 k1
  go_wp2_with (fail)
  refine (KP.out _).mono ?_
  rintro e w2 ⟨rfl, hB2⟩
  have hM2 := hM1.grow hB2
  have hb2 := below_then hb1 hB2
  clear k0 k1 hA1 hM1 hb1 hB2
  cases hent : entR (p0, p1) with
  | true =>
    have KE := Lib.hid (fun w => iv_isent p0 p1 true w hent)
    rw [if_pos hent] at hN
    simp only [Prod.mk.injEq] at hN
    obtain ⟨rfl, rfl, rfl⟩ := hN
    clear hent hpr hmn
    go_wp2_with (fail)
    refine (KE.out _).mono ?_
    rintro e w3 ⟨rfl, hB3⟩
    have hM3 := hM2.grow hB3
    have hb3 := below_then hb2 hB3
    go_wp2_with (fail)
    refine (iv_entire _).mono ?_
    rintro e w4 ⟨rfl, hB4⟩
    have hM4 := hM3.grow hB4
    have hb4 := below_then hb3 hB4
    have q0 := hM4.c0
    have q1 := hM4.c1
    have q2 := hM4.c2
    have z0 := hM4.frozen 0
    have z1 := hM4.frozen 1
    have z2 := hM4.frozen 2
    dsimp only at q0 q1 q2
    go_wp2_with (fail)
    refine bodyPost_ret (v := .agg #[.slice none 0 0, .int .i64 (-2147483648), .int .i64 2147483648]) (by simp [results, Tryz.results35, go_sem, q0, q1, q2]) rfl ⟨_, rfl, Tx.nil _ _ _, cap_nil, ?_⟩
    exact ((hb4.setCell (p := ⟨w.heap.size + 1, 0, none⟩) (Nat.le_succ _) _).setCell (p := ⟨w.heap.size + 1, 1, none⟩) (Nat.le_succ _) _).setCell (p := ⟨w.heap.size + 1, 2, none⟩) (Nat.le_succ _) _
  | false =>
    have hnr := hpr hent
    have KE := Lib.hid (fun w => iv_isent p0 p1 false w hent)
    rw [if_neg (by rw [hent]; decide)] at hN
    have hlen : (varT i).length * (constT rad).length ≤ 10000 := Nat.le_trans (Nat.mul_le_mul (varT_len i) (constT_len rad)) (by decide)
    have htn := mulP_tv (varT_tn i) (constT_tv hnr) hlen
    have KV := Lib.hid (fun w => var_ok i w)
    have KS := Lib.hid (fun (v : Value) (w : World) h => scale_ok v (varT i) rad w h (varT_tn i) hnr (by have := varT_len i; omega))
    have hsv := mulR_vb (varT i) (constT rad) 6
    have htl : ∀ t ∈ (mulR (varT i) (constT rad) 6).1, TV t := truncP_tvY htn
    have hnl : ∀ t ∈ (mulR (varT i) (constT rad) 6).1, Num t.1 := trunc_num
    have hll : (mulR (varT i) (constT rad) 6).1.length ≤ 100 := trunc_len _ _ _
    unfold linM at hN
    obtain ⟨⟨S, s0, s1⟩, hS⟩ : ∃ R, mulR (varT i) (constT rad) 6 = R := ⟨_, rfl⟩
    rw [hS] at KS hsv htl hnl hll hN
    dsimp only at KS hsv htl hnl hll hN
    have ctn := constT_tv hmn
    have mtv := merge_tv ctn (fun t ht => ⟨htl t ht, hnl t ht⟩)
    have mln := merge_len (constT m) S
    have cln := constT_len m
    have s62 : ∀ {k : List Tm}, (∀ t ∈ k, TV t ∧ Num t.1) → ∀ t ∈ k, TV t ∧ Small62 t := fun h t ht => ⟨(h t ht).1, by have := (h t ht).2; unfold Num at this; unfold Small62; omega⟩
    have KC := Lib.hid (const_cap m)
    have KA := Lib.hid (fun (u v : Value) (w : World) h1 h2 c1 c2 => add_ok u v (constT m) S w h1 h2 c1 c2 (s62 ctn) (s62 (fun t ht => ⟨htl t ht, hnl t ht⟩)) mtv (by omega) (by omega))
    have hrv := merge_vb (constT m) S
    have htv0 : ∀ t ∈ (truncP (mergeP (constT m) S) 6 (0, 0)).1, TV t := truncP_tvY mtv
    obtain ⟨⟨T, t0, t1⟩, hr⟩ : ∃ R, truncP (mergeP (constT m) S) 6 (0, 0) = R := ⟨_, rfl⟩
    rw [hr] at KA hrv hN htv0
    dsimp only at KA hrv hN htv0
    have KPL := Lib.hid (fun (r v : Value) (w : World) h1 h2 h3 => tplus_ok r v t0 t1 T [(s0, s1)] w h1 h2 h3 hrv (by simpa using hsv))
    unfold foldA at KPL
    simp only [List.foldl_cons, List.foldl_nil] at KPL
    rw [hN] at KPL
    dsimp only at KPL
    have HTV : Hid (∀ t ∈ N, TV t) := Lib.hid (fun t ht => normM_tv htv0 t (by rw [hN]; exact ht))
    obtain ⟨KPx, hkp⟩ : ∃ z : _, z = KPL := ⟨_, rfl⟩
    clear hent hpr hnr hmn hlen htn hsv htl hnl hll hS ctn mtv mln cln s62 hrv hr htv0 hN hkp KPx
    go_wp2_with (fail)
    refine (KE.out _).mono ?_
    rintro e w3 ⟨rfl, hB3⟩
    have hM3 := hM2.grow hB3
    have hb3 := below_then hb2 hB3
    clear hM2 hb2 hB3
    go_wp2_with (fail)
    refine (KV.out _).mono ?_
    rintro e w4 ⟨uv, rfl, hxv, hB4⟩
    have KS2 := Lib.hid (KS.out uv w4 hxv)
    have hM4 := hM3.grow hB4
    have hb4 := below_then hb3 hB4
    obtain ⟨pv, cv, rfl⟩ := hxv.cut
    clear hxv hM3 hb3 hB4
    go_wp2_with (fail)
    refine KS2.out.mono ?_
    rintro e w5 ⟨us, rfl, hxs, hns, hB5⟩
    have hcs := hns.1
    obtain ⟨ps, cs, rfl⟩ := hxs.cut
    have hc5 := IvC.new w5 s0 s1
    have hg5 := (Below.refl w5.heap.size w5).alloc (Nat.le_refl _) (.cells #[.int .i64 s0, .int .i64 s1] 24)
    have HX := Lib.hid (hxs.grow hg5)
    have HCS := Lib.hid hcs
    have HC1 := Lib.hid ((hM4.grow hB5).grow hg5)
    have HBA := Lib.hid (below_then (below_then hb4 hB5) hg5)
    have HC2 := Lib.hid hc5
    clear hxs hns hcs hM4 hb4 hB5 hg5 hc5 KS2
    go_wp2_with (fail)
    generalize hW0 : World.alloc w5 _ = W0 at *
    clear hW0
    have k0 := fun g : Grown W0 => (HC2.out.grow g.h).c0
    have k1 := fun g : Grown W0 => (HC2.out.grow g.h).c1
    dsimp only at k0 k1
    have KP := KPL
    refine region_pred_l (lk [(27, fun z_ _ => z_ = .int .i64 m), (28, fun z_ w' => ∃ p n c, z_ = .slice p n c ∧ Tx w' z_ (constT m) ∧ CapOk z_), (29, fun z_ _ => z_ = (.slice ps S.length cs)), (30, fun z_ w' => ∃ r, z_ = .tuple #[r, .agg #[.int .i64 t0, .int .i64 t1]] ∧ Tx w' r T ∧ CapOk r), (31, fun z_ w' => Tx w' z_ T ∧ CapOk z_), (32, fun z_ _ => z_ = .agg #[.int .i64 t0, .int .i64 t1]), (33, fun z_ w' => ∃ r, z_ = plusV r t0 t1 ∧ Tx w' r T ∧ CapOk r), (34, fun z_ _ => z_ = .agg #[.int .i64 s0, .int .i64 s1]), (35, fun z_ w' => Bx w' z_ [(s0, s1)]), (36, fun z_ w' => ∃ r, z_ = .agg #[r, .int .i64 n0, .int .i64 n1] ∧ Tx w' r N ∧ CapOk r)]) 10 _ rfl (by kernel_rfl) (by kernel_rfl) (by kernel_rfl) (lk_steady _ ⟨steady_eq _, fun u w1 w2 hb ⟨p, n, c, e, h1, h2⟩ => ⟨p, n, c, e, h1.grow hb, h2⟩, steady_eq _, fun u w1 w2 hb ⟨r, h1, h2, h3⟩ => ⟨r, h1, h2.grow hb, h3⟩, fun u w1 w2 hb ⟨h2, h3⟩ => ⟨h2.grow hb, h3⟩, steady_eq _, fun u w1 w2 hb ⟨r, h1, h2, h3⟩ => ⟨r, h1, h2.grow hb, h3⟩, steady_eq _, fun u w1 w2 hb h => h.grow hb, fun u w1 w2 hb ⟨r, h1, h2, h3⟩ => ⟨r, h1, h2.grow hb, h3⟩, trivial⟩) ?_ ?_
    · refine ⟨?_, ?_, ?_, ?_, ?_, ?_, ?_, ?_, ?_, ?_, ?_, trivial⟩
      · intro _
        refine ob_plain [5] rfl rfl fun aa g h => ?_
        have yy0 := seen_out (v := .int .i64 m) rfl rfl h.1
        have ee0 := getD_of yy0
        exact tupon_value (v := .int .i64 m) (by simp [go_sem, ee0, yy0]) (Below.refl _ _) rfl
      · intro _
        refine ob_plain [27] rfl rfl fun aa g h => ?_
        obtain ⟨_, yy0, rfl⟩ := seen_in rfl h.1
        have ee0 := getD_of yy0
        refine tupon_enter (f := 74) (args := #[.int .i64 m]) (by simp [go_sem, ee0, yy0]) rfl ?_
        exact (KC.out g.w).mono fun e w' ⟨r, he, hx, hc, hB⟩ => ⟨_, he, hB, (by obtain ⟨p, n, c, e1, e2⟩ := hc; exact ⟨p, n, c, e1, hx, ⟨p, n, c, e1, e2⟩⟩)⟩
      · intro _
        refine ob_plain [7] rfl rfl fun aa g h => ?_
        have yy0 := seen_out (v := (.slice ps S.length cs)) rfl rfl h.1
        have ee0 := getD_of yy0
        exact tupon_value (v := (.slice ps S.length cs)) (by simp [go_sem, ee0, yy0]) (Below.refl _ _) rfl
      · intro _
        refine ob_plain [28, 29] rfl rfl fun aa g h => ?_
        obtain ⟨_, yy0, ⟨p28, n28, c28, rfl, tx28, cp28⟩⟩ := seen_in rfl h.1
        have ee0 := getD_of yy0
        obtain ⟨_, yy1, rfl⟩ := seen_in rfl h.2.1
        have ee1 := getD_of yy1
        refine tupon_enter (f := 56) (args := #[.slice p28 n28 c28, (.slice ps S.length cs)]) (by simp [go_sem, ee0, yy0, ee1, yy1]) rfl ?_
        exact (KA.out (.slice p28 n28 c28) (.slice ps S.length cs) g.w tx28 (HX.out.grow g.h) cp28 HCS.out).mono fun e w' ⟨r, he, hx, hn, hB⟩ => ⟨_, he, hB, ⟨r, rfl, hx, hn.1⟩⟩
      · intro _
        refine ob_plain [30] rfl rfl fun aa g h => ?_
        obtain ⟨_, yy0, ⟨r30, rfl, tx30, cp30⟩⟩ := seen_in rfl h.1
        have ee0 := getD_of yy0
        exact tupon_value (v := r30) (by simp [go_sem, ee0, yy0]) (Below.refl _ _) ⟨tx30, cp30⟩
      · intro _
        refine ob_plain [30] rfl rfl fun aa g h => ?_
        obtain ⟨_, yy0, ⟨r30, rfl, tx30, cp30⟩⟩ := seen_in rfl h.1
        have ee0 := getD_of yy0
        exact tupon_value (v := .agg #[.int .i64 t0, .int .i64 t1]) (by simp [go_sem, ee0, yy0]) (Below.refl _ _) rfl
      · intro _
        refine ob_plain [31, 32] rfl rfl fun aa g h => ?_
        obtain ⟨v31, yy0, ⟨tx31, cp31⟩⟩ := seen_in rfl h.1
        have ee0 := getD_of yy0
        obtain ⟨_, yy1, rfl⟩ := seen_in rfl h.2.1
        have ee1 := getD_of yy1
        refine tupon_enter (f := 55) (args := #[v31, .agg #[.int .i64 t0, .int .i64 t1]]) (by simp [go_sem, ee0, yy0, ee1, yy1]) rfl ?_
        exact (wr_ok v31 t0 t1 g.w cp31).mono fun e w' ⟨he, hB⟩ => ⟨_, he, hB, ⟨_, rfl, tx31.grow hB, cp31⟩⟩
      · intro _
        refine ob_plain [8] rfl rfl fun aa g h => ?_
        have yy0 := seen_out (v := .pointer (some ⟨w5.heap.size, 0, none⟩)) rfl rfl h.1
        have ee0 := getD_of yy0
        exact tupon_value (v := .agg #[.int .i64 s0, .int .i64 s1]) (by simp [go_sem, ee0, yy0, k0 g, k1 g]) (Below.refl _ _) rfl
      · intro _
        refine ob_plain [34] rfl rfl fun aa g h => ?_
        obtain ⟨_, yy0, rfl⟩ := seen_in rfl h.1
        have ee0 := getD_of yy0
        exact tupon_value (v := .slice (some ⟨g.w.heap.size, 0, none⟩) 1 1) (w1 := g.w.alloc (.cells #[.int .i64 s0, .int .i64 s1] 24)) (by simp [go_sem, ee0, yy0]) ((Below.refl _ _).alloc (Nat.le_refl _) _) (bx_l1 _ _ _ )
      · intro _
        refine ob_plain [33, 35] rfl rfl fun aa g h => ?_
        obtain ⟨_, yy0, ⟨r33, rfl, tx33, cp33⟩⟩ := seen_in rfl h.1
        have ee0 := getD_of yy0
        obtain ⟨v35, yy1, bx35⟩ := seen_in rfl h.2.1
        have ee1 := getD_of yy1
        refine tupon_enter (f := 96) (args := #[.agg #[r33, .int .i64 t0, .int .i64 t1], v35]) (by simp [go_sem, ee0, yy0, ee1, yy1, plusV]) rfl ?_
        exact (KP.out r33 v35 g.w tx33 cp33 bx35).mono fun e w' ⟨r, he, hx, hc, hB⟩ => ⟨_, he, hB, ⟨r, rfl, hx, hc⟩⟩
      · exact fun h => absurd rfl h
    rintro wq hB5 _ rfl _ ⟨p28, n28, c28, rfl, tx28, cp28⟩ _ rfl _ ⟨r30, rfl, tx30, cp30⟩ v31 ⟨tx31, cp31⟩ _ rfl _ ⟨r33, rfl, tx33, cp33⟩ _ rfl v35 bx35 _ ⟨r36, rfl, tx36, cp36⟩
    simp only [Act.put, List.setIfInBounds_toArray, List.set_cons_succ, List.set_cons_zero]
    have hB6 := below_then HBA.out hB5
    have hR5 := HC1.out.grow hB5
    have q0 := hR5.c0
    have q1 := hR5.c1
    have q2 := hR5.c2
    have z0 := hR5.frozen 0
    have z1 := hR5.frozen 1
    have z2 := hR5.frozen 2
    dsimp only at q0 q1 q2
    have hne := hR5.lt
    obtain ⟨pr, nr, cr, rfl, hle, hnil⟩ := cp36
    have HX := Lib.hid tx36
    have HCP : Hid (CapOk (.slice pr nr cr)) := Lib.hid ⟨pr, nr, cr, rfl, hle, hnil⟩
    clear hle hnil
    refine ⟨_, by simp [go_sem, q0, q1, q2, z0, z1, z2]; rfl, ?_⟩
    clear k0 k1
    go_wp2_with (fail)
    have hbe := ((hB6.setCell (p := ⟨w.heap.size + 1, 0, none⟩) (by dsimp only; omega) (.slice pr nr cr)).setCell (p := ⟨w.heap.size + 1, 1, none⟩) (by dsimp only; omega) (.int .i64 n0)).setCell (p := ⟨w.heap.size + 1, 2, none⟩) (by dsimp only; omega) (.int .i64 n1)
    refine bodyPost_ret (v := .agg #[.slice pr nr cr, .int .i64 n0, .int .i64 n1]) (by simp [results, Tryz.results35, go_sem, q0, q1, q2]) rfl ⟨_, rfl, ?_, HCP.out, hbe⟩
    exact tx_moff HX.out HTV.out hR5 _ _ _
set_option maxHeartbeats 8000000 in
theorem tvalid_ok (u : Value) (a0 a1 : Int) (l : List Tm) (R : Bool) (w : World) (hu : Tx w u l) (hl : ∀ t ∈ l, TV t) (hR : R = true ↔ VP l ∧ VI a0 a1 ∧ (l = [] ∨ ¬ Ent a0 a1)) :
    Calls Tryz.prog 14 #[.agg #[u, .int .i64 a0, .int .i64 a1]] w fun e w' => e = .returned (.bool R) ∧ Below w.heap.size w w' := by
  obtain ⟨pu, cu, rfl⟩ := hu.cut
  have HU := Lib.hid hu
  have HL := Lib.hid hl
  obtain ⟨V, hV⟩ : ∃ V : Bool, V = true ↔ VP l := ⟨vpB l, vpB_iff l⟩
  have KV := Lib.hid (fun w h => pvalid_ok (.slice pu l.length cu) l V w h HL.out hV)
  have KI := Lib.hid (fun w => iv_valid a0 a1 (decide (VI a0 a1)) w rfl)
  have KE := Lib.hid (fun w => iv_isent a0 a1 ((a0 == -2147483648) && (a1 == 2147483648)) w rfl)
  have hEE : ((a0 == -2147483648) && (a1 == 2147483648)) = true ↔ Ent a0 a1 := by unfold Ent; simp
  obtain ⟨E, hE⟩ : ∃ E, ((a0 == -2147483648) && (a1 == 2147483648)) = E := ⟨_, rfl⟩
  obtain ⟨I, hI⟩ : ∃ I, decide (VI a0 a1) = I := ⟨_, rfl⟩
  have hII : I = true ↔ VI a0 a1 := by rw [← hI]; simp
  rw [hE] at KE hEE
  rw [hI] at KI
  have hRR : R = (V && I && (decide (l.length = 0) || !E)) := by
    rw [Bool.eq_iff_iff, hR]
    simp only [Bool.and_eq_true, Bool.or_eq_true, decide_eq_true_eq, List.length_eq_zero_iff, hV, hII, Bool.not_eq_true', and_assoc]
    have : E = false ↔ ¬ Ent a0 a1 := by rw [← hEE]; simp
    rw [this]
  subst hRR
  have l0 : ((l.length : Int) == 0) = decide (l.length = 0) := by
    by_cases h : l.length = 0
    · rw [h]; rfl
    · have : ¬ (l.length : Int) = 0 := by omega
      simp [h, this]
  obtain ⟨Z, hZ⟩ : ∃ Z, decide (l.length = 0) = Z := ⟨_, rfl⟩
  rw [hZ] at l0
  rw [hZ]
  have hba : Below w.heap.size w (w.alloc (.cells #[(.slice pu l.length cu), .int .i64 a0, .int .i64 a1] 26)) := ((Below.refl _ _).alloc (Nat.le_refl _) _)
  have hc0 : MoC (w.alloc (.cells #[(.slice pu l.length cu), .int .i64 a0, .int .i64 a1] 26)) (w.heap.size) ((.slice pu l.length cu)) (a0, a1) := by
    have e := MoC.new w (.slice pu l.length cu) a0 a1
    exact e
  have HC0 := Lib.hid hc0
  have HBA := Lib.hid hba
  clear hba hc0 hu hl hV hE hEE hI hII hZ hR
  go_enter Tryz.func14, Tryz.ntmps14
  go_wp2_with (fail)
  generalize hW0 : World.alloc w _ = W0 at *
  clear hW0
  have k0 := HC0.out.c0
  try dsimp only at k0
  go_wp2_with (fail)
  refine (KV.out _ (HU.out.grow HBA.out)).mono ?_
  rintro e w1 ⟨rfl, hB1⟩
  have hM1 := HC0.out.grow hB1
  have hb1 := below_then HBA.out hB1
  have q1 := hM1.c1
  have q2 := hM1.c2
  dsimp only at q1 q2
  clear k0 hB1
  cases V with
  | false =>
    go_wp2_with (fail)
    go_ret
    exact ⟨rfl, hb1⟩
  | true =>
    go_wp2_with (fail)
    refine (KI.out _).mono ?_
    rintro e w2 ⟨rfl, hB2⟩
    have hM2 := hM1.grow hB2
    have hb2 := below_then hb1 hB2
    have r0 := hM2.c0
    have r1 := hM2.c1
    have r2 := hM2.c2
    dsimp only at r0 r1 r2
    clear q1 q2 hB2
    cases I with
    | false =>
      go_wp2_with (fail)
      go_ret
      exact ⟨rfl, hb2⟩
    | true =>
      cases Z with
      | true =>
        go_wp2_with (fail)
        go_ret
        exact ⟨rfl, hb2⟩
      | false =>
        go_wp2_with (fail)
        refine (KE.out _).mono ?_
        rintro e w3 ⟨rfl, hB3⟩
        have hb3 := below_then hb2 hB3
        clear r0 r1 r2
        go_wp2_with (fail)
        go_ret
        exact ⟨by cases E <;> rfl, hb3⟩
theorem span_ok (a b : Int) (w : World) (ha : -1000000 ≤ a ∧ a ≤ 1000000) (hb : -1000000 ≤ b ∧ b ≤ 1000000) :
    Calls Tryz.prog 43 #[.int .i64 a, .int .i64 b] w fun e w' => e = .returned (.agg #[.int .i64 (a * 65536), .int .i64 (b * 65536)]) ∧ Below w.heap.size w w' := by
  have W1 : IntKind.i64.wrap (a * 65536) = a * 65536 := wrap_i64 _ (by omega) (by omega)
  have W2 : IntKind.i64.wrap (b * 65536) = b * 65536 := wrap_i64 _ (by omega) (by omega)
  clear ha hb
  go_enter Tryz.func43, Tryz.ntmps43
  go_wp2_with (fail)
  refine bodyPost_ret (v := .agg #[.int .i64 (a * 65536), .int .i64 (b * 65536)]) (by simp [results, Tryz.results43, go_sem, W1, W2]) rfl ⟨rfl, ?_⟩
  go_grown
theorem term_ok (c a b : Int) (w : World) (hc : -1000000 ≤ c ∧ c ≤ 1000000) :
    Calls Tryz.prog 47 #[.int .i64 c, .int .u8 a, .int .u8 b] w fun e w' => e = .returned (.agg #[.int .i64 (c * 65536), .int .u8 a, .int .u8 b, .int .u8 0, .int .u8 0, .int .u8 0, .int .u8 0]) ∧ Below w.heap.size w w' := by
  have W1 : IntKind.i64.wrap (c * 65536) = c * 65536 := wrap_i64 _ (by omega) (by omega)
  clear hc
  go_enter Tryz.func47, Tryz.ntmps47
  go_wp2_with (fail)
  refine bodyPost_ret (v := .agg #[.int .i64 (c * 65536), .int .u8 a, .int .u8 b, .int .u8 0, .int .u8 0, .int .u8 0, .int .u8 0]) (by simp [results, Tryz.results47, go_sem, W1]) rfl ⟨rfl, ?_⟩
  go_grown
set_option maxHeartbeats 4000000 in
theorem rsame_ok (u v : Value) (a0 a1 b0 b1 : Int) (l m : List Tm) (w : World) (hu : Tx w u l) (hv : Tx w v m) (hl : ∀ t ∈ l, TV t) (hm : ∀ t ∈ m, TV t) :
    Calls Tryz.prog 16 #[.agg #[u, .int .i64 a0, .int .i64 a1], .agg #[v, .int .i64 b0, .int .i64 b1]] w fun e w' => e = .returned (.bool (((a0 == b0) && (a1 == b1)) && decide (l = m))) ∧ Below w.heap.size w w' := by
  obtain ⟨pu, cu, rfl⟩ := hu.cut
  obtain ⟨pv, cv, rfl⟩ := hv.cut
  have HU := Lib.hid hu
  have HV := Lib.hid hv
  have KS := Lib.hid (fun w h1 h2 => r5same (.slice pu l.length cu) (.slice pv m.length cv) l m w h1 h2 hl hm)
  obtain ⟨D, hD⟩ : ∃ D, decide (l = m) = D := ⟨_, rfl⟩
  rw [hD] at KS ⊢
  have HB0 : Hid (Below w.heap.size w ((w.alloc (.cells #[.slice pu l.length cu, .int .i64 a0, .int .i64 a1] 26)).alloc (.cells #[.slice pv m.length cv, .int .i64 b0, .int .i64 b1] 26))) := Lib.hid (((Below.refl _ _).alloc (Nat.le_refl _) _).alloc (by simp) _)
  clear hu hv hl hm hD
  go_enter Tryz.func16, Tryz.ntmps16
  go_wp2_with (fail)
  · rename_i h0 h1 _ _
    subst h0 h1
    refine (KS.out _ (HU.out.grow HB0.out) (HV.out.grow HB0.out)).mono ?_
    rintro e w1 ⟨rfl, hB1⟩
    have hb1 := below_then HB0.out hB1
    go_wp2_with (fail)
    go_ret
    exact ⟨by cases D <;> simp, hb1⟩
  · rename_i h0 h1
    exact bodyPost_ret (v := .bool false) (by simp [results, Tryz.results16, go_sem]) rfl ⟨by simp [h0, h1], by subst h0; exact HB0.out⟩
  · rename_i h0
    exact bodyPost_ret (v := .bool false) (by simp [results, Tryz.results16, go_sem]) rfl ⟨by simp [h0], HB0.out⟩
/-- The cells of a slice of intervals. -/
def cz : List (Int × Int) → List Value
  | [] => []
  | p :: l => .int .i64 p.1 :: .int .i64 p.2 :: cz l
theorem cz_app : ∀ (l m : List (Int × Int)), cz (l ++ m) = cz l ++ cz m
  | [], _ => rfl
  | p :: l, m => by simp [cz, cz_app l m]
theorem cz_len : ∀ (l : List (Int × Int)), (cz l).length = l.length * 2
  | [] => rfl
  | p :: l => by simp [cz, cz_len l]; omega
theorem cz_get : ∀ (l : List (Int × Int)) (k : Nat) (x : Int × Int), l[k]? = some x → (cz l)[k * 2]? = some (.int .i64 x.1) ∧ (cz l)[k * 2 + 1]? = some (.int .i64 x.2)
  | [], k, x, h => by simp at h
  | p :: l, 0, x, h => by simp at h; subst h; simp [cz]
  | p :: l, k + 1, x, h => by
    have := cz_get l k x (by simpa using h)
    rw [show (k + 1) * 2 = k * 2 + 1 + 1 by omega]
    simpa [cz] using this
/-- A row of its own that holds intervals is a box. -/
theorem Bx.own {W : World} {B : Nat} {v : Value} {l : List (Int × Int)} (h : W.ownsRow B 24 2 v l.length (cz l)) (hl : l.length ≤ maxLen) : Bx W v l := by
  rcases h.2 with ⟨rfl, h0⟩ | ⟨g, cap, cur, rfl, hb, hg, hrest⟩
  · have : l = [] := List.length_eq_zero_iff.1 h0
    subst this
    exact Bx.nil
  · refine ⟨hl, _, cap, rfl, fun k x hx => ⟨g, 0, rfl, (Array.getElem?_eq_some_iff.1 hg).1, ?_, ?_⟩⟩
    · have hk := (List.getElem?_eq_some_iff.1 hx).1
      rw [Nat.zero_add, h.cellAt (k * 2) (by omega)]
      exact (cz_get l k x hx).1
    · have hk := (List.getElem?_eq_some_iff.1 hx).1
      rw [Nat.zero_add, h.cellAt (k * 2 + 1) (by omega)]
      exact (cz_get l k x hx).2
theorem info_iv : (Tryz.prog.info? 24).map (fun i => (i.zero, i.size, i.bytes)) = some (some (.agg #[.int .i64 0, .int .i64 0]), 2, 16) := by kernel_rfl
theorem two_new (w : World) (x y : Value) (t : TypeId) : ∀ j u, [x, y][j]? = some u → (w.alloc (.cells #[x, y] t)).cell? ((⟨w.heap.size, 0, none⟩ : Addr).add j) = some u := by
  intro j u hj
  match j, hj with
  | 0, hj => simp at hj; subst hj; simp [Addr.add]
  | 1, hj => simp at hj; subst hj; simp [Addr.add]
theorem two_one (x y : Int) : ∀ u ∈ [Value.int .i64 x, Value.int .i64 y], u.oneCell' = true := by
  intro u hu
  simp at hu
  rcases hu with rfl | rfl <;> rfl
theorem cz_snocY (l : List (Int × Int)) (x y : Int) : cz (l ++ [(x, y)]) = cz l ++ [.int .i64 x, .int .i64 y] := by rw [cz_app]; rfl
/-- The slice v holds the numbers l, of eight bits. -/
def S8 (w : World) (v : Value) (l : List Int) : Prop := l.length ≤ maxLen ∧ ∃ p cap, v = .slice p l.length cap ∧
  ∀ k x, l[k]? = some x → ∃ b o, p = some ⟨b, o, none⟩ ∧ b < w.heap.size ∧ w.cell? ⟨b, o + k, none⟩ = some (.int .i8 x)
theorem S8.grow {w w' : World} {v : Value} {l : List Int} (h : S8 w v l) (hb : Below w.heap.size w w') : S8 w' v l := by
  obtain ⟨hl, p, cap, rfl, h⟩ := h
  refine ⟨hl, p, cap, rfl, fun k x hx => ?_⟩
  obtain ⟨b, o, rfl, h1, h2⟩ := h k x hx
  exact ⟨b, o, rfl, Nat.lt_of_lt_of_le h1 hb.size, (hb.cell (p := ⟨b, o + k, none⟩) h1).trans h2⟩
def cnr (l : List Int) (k : Nat) : Int := match l[k]? with | some x => x.tmod 2 | none => 0
def cornerB (l : List Int) : List (Int × Int) := (List.range 6).map fun k => ptI (cnr l k * 65536)
theorem corner_snoc (l : List Int) {k : Nat} (h : k < 6) : (cornerB l).take (k + 1) = (cornerB l).take k ++ [ptI (cnr l k * 65536)] := by
  unfold cornerB
  rw [List.take_add_one, List.getElem?_map, List.getElem?_range h]
  rfl
theorem cnr_bd (l : List Int) (k : Nat) : -1 ≤ cnr l k ∧ cnr l k ≤ 1 := by
  unfold cnr
  split
  · rename_i x _
    have h1 := Int.tmod_lt_of_pos x (b := 2) (by decide)
    have h2 := Int.tmod_lt_of_pos (-x) (b := 2) (by decide)
    rw [Int.neg_tmod] at h2
    omega
  · decide
theorem own_emptyC (W : World) : (W.alloc (.cells #[] 24)).ownsRow W.heap.size 24 2 (.slice (some ⟨W.heap.size, 0, none⟩) 0 0) 0 [] :=
  ⟨rfl, .inr ⟨W.heap.size, 0, #[], rfl, Nat.le_refl _, World.alloc_heap_new W _, Nat.le_refl _, Nat.zero_le _, rfl, rfl⟩⟩
set_option maxHeartbeats 8000000 in
theorem corner_ok (v : Value) (l : List Int) (w : World) (hv : S8 w v l) (hl : ∀ x ∈ l, -128 ≤ x ∧ x ≤ 127) :
    Calls Tryz.prog 44 #[v] w fun e w' => ∃ r, e = .returned r ∧ Bx w' r (cornerB l) ∧ Below w.heap.size w w' := by
  obtain ⟨hm1, p, cap, rfl, hcl⟩ := hv
  unfold maxLen at hm1
  obtain ⟨i0, hi, hz0, hz1, hz2⟩ := info_parts info_iv
  have HCL := Lib.hid hcl
  have HL := Lib.hid hl
  have ho := own_emptyC w
  have hba : Below w.heap.size w (w.alloc (.cells #[] 24)) := (Below.refl _ _).alloc (Nat.le_refl _) _
  have HO := Lib.hid ho
  clear hcl hl ho
  go_enter Tryz.func44, Tryz.ntmps44
  go_wp2_with (fail)
  go_loopw [3, 4] (fun u i wr => ∃ k : Nat, i = .int .i64 k ∧ k ≤ 6 ∧ Hid (wr.ownsRow w.heap.size 24 2 u k (cz ((cornerB l).take k))) ∧ Below w.heap.size w wr) (fun _ i _ => 6 - (intOf i).toNat)
  case atStart => exact ⟨0, rfl, by decide, HO, hba⟩
  case round =>
    clear HO hba
    obtain ⟨k, rfl, hk, HR, hB⟩ := hrel
    by_cases hk6 : k < 6
    · have i1 : (k : Int) < 6 := by omega
      have hcb := cnr_bd l k
      have hsn := corner_snoc l hk6
      have HPT := Lib.hid (fun c w => r2point c w)
      obtain ⟨C, hC⟩ : ∃ C, cnr l k = C := ⟨_, rfl⟩
      rw [hC] at hcb hsn
      have Wc : IntKind.i64.wrap (C * 65536) = C * 65536 := wrap_i64 _ (by omega) (by omega)
      have KP := HPT.out (C * 65536)
      rw [show ptI (C * 65536) = (mkLo (C * 65536) (C * 65536), mkHi (C * 65536) (C * 65536)) from rfl] at hsn
      obtain ⟨p0, h0⟩ : ∃ z, mkLo (C * 65536) (C * 65536) = z := ⟨_, rfl⟩
      obtain ⟨p1, h1⟩ : ∃ z, mkHi (C * 65536) (C * 65536) = z := ⟨_, rfl⟩
      rw [h0, h1] at hsn KP
      have KPH := Lib.hid KP
      have HSN := Lib.hid hsn
      have hsz := hB.size
      clear h0 h1 hsn KP HPT
      by_cases hkl : k < l.length
      · have i2 : (k : Int) < l.length := by omega
        obtain ⟨x, hx⟩ : ∃ x, l[k]? = some x := ⟨_, List.getElem?_eq_getElem hkl⟩
        have hxb := HL.out x (List.mem_of_getElem? hx)
        obtain ⟨b, o, rfl, hb, hcell⟩ := HCL.out k x hx
        have f0 := (hB.cell (p := ⟨b, o + k, none⟩) hb).trans hcell
        have Wx : IntKind.i64.wrap x = x := wrap_i64 _ (by omega) (by omega)
        have Tx2 : x.tmod 2 = C := by rw [← hC]; simp [cnr, hx]
        clear hx hcell hC hxb
        go_wp2_with (fail)
        refine (KPH.out _).mono ?_
        rintro e w5 ⟨rfl, hB5⟩
        have hrow := (own_keptT HR.out hB5).alloc (.cells #[.int .i64 p0, .int .i64 p1] 24)
        have hB6 : Below w.heap.size w (w5.alloc (.cells #[.int .i64 p0, .int .i64 p1] 24)) := (hB.trans (hB5.mono hsz)).alloc (by have := hB5.size; omega) _
        clear f0
        go_wp2_with (at_builtin; refine wpList_append_own _ rfl (.tmp 22) (.tmp 25) 44 rfl w.heap.size 24 i0 (.agg #[.int .i64 0, .int .i64 0]) 2 16 Tryz.underlying44 hi hz0 hz1 hz2 rfl (by decide) _ k _ rfl hrow ⟨w5.heap.size, 0, none⟩ 1 1 [.int .i64 p0, .int .i64 p1] rfl rfl (two_new w5 (.int .i64 p0) (.int .i64 p1) 24) (two_one _ _) (by unfold maxLen; omega) (by omega) (by simp; have := hB5.size; omega) ?_)
        intro v6 w6 hown6 hg6 _
        have hB7 : Below w.heap.size w w6 := Below.grown hB6 hg6 (by simp; have := hB5.size; omega) (fun j hj => (hrow.lt j hj).1)
        have HO6 : Hid (w6.ownsRow w.heap.size 24 2 v6 (k + 1) (cz ((cornerB l).take (k + 1)))) := Lib.hid (by rw [HSN.out, cz_snocY]; exact hown6)
        clear hown6 hg6 hrow hB6 hB5
        go_wp2_with (fail)
        exact ⟨⟨k + 1, by go_num, by omega, HO6, hB7⟩, by simp [intOf]; omega⟩
      · have i2 : ¬ (k : Int) < l.length := by omega
        obtain rfl : C = 0 := by rw [← hC]; simp [cnr, List.getElem?_eq_none (Nat.le_of_not_lt hkl)]
        simp only [Int.zero_mul] at KPH
        clear hC
        go_wp2_with (fail)
        refine (KPH.out _).mono ?_
        rintro e w5 ⟨rfl, hB5⟩
        have hrow := (own_keptT HR.out hB5).alloc (.cells #[.int .i64 p0, .int .i64 p1] 24)
        have hB6 : Below w.heap.size w (w5.alloc (.cells #[.int .i64 p0, .int .i64 p1] 24)) := (hB.trans (hB5.mono hsz)).alloc (by have := hB5.size; omega) _
        go_wp2_with (at_builtin; refine wpList_append_own _ rfl (.tmp 22) (.tmp 25) 44 rfl w.heap.size 24 i0 (.agg #[.int .i64 0, .int .i64 0]) 2 16 Tryz.underlying44 hi hz0 hz1 hz2 rfl (by decide) _ k _ rfl hrow ⟨w5.heap.size, 0, none⟩ 1 1 [.int .i64 p0, .int .i64 p1] rfl rfl (two_new w5 (.int .i64 p0) (.int .i64 p1) 24) (two_one _ _) (by unfold maxLen; omega) (by omega) (by simp; have := hB5.size; omega) ?_)
        intro v6 w6 hown6 hg6 _
        have hB7 : Below w.heap.size w w6 := Below.grown hB6 hg6 (by simp; have := hB5.size; omega) (fun j hj => (hrow.lt j hj).1)
        have HO6 : Hid (w6.ownsRow w.heap.size 24 2 v6 (k + 1) (cz ((cornerB l).take (k + 1)))) := Lib.hid (by rw [HSN.out, cz_snocY]; exact hown6)
        clear hown6 hg6 hrow hB6 hB5
        go_wp2_with (fail)
        exact ⟨⟨k + 1, by go_num, by omega, HO6, hB7⟩, by simp [intOf]; omega⟩
    · obtain rfl : k = 6 := by omega
      have hbx := Bx.own (l := cornerB l) (by have := HR.out; rwa [List.take_of_length_le (by simp [cornerB])] at this) (by simp [cornerB, maxLen])
      have HBX := Lib.hid hbx
      clear hbx
      have i1 : ¬ ((6 : Nat) : Int) < 6 := by omega
      go_wp2_with (fail)
      go_ret
      exact ⟨_, rfl, HBX.out, hB⟩
end Go.Proofs.YtbfhmbadgbackaaGreat
