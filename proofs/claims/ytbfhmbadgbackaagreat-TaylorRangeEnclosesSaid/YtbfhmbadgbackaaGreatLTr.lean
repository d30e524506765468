/-
  The law TaylorRangeEncloses.
-/
import Derived.Test.YtbfhmbadgbackaaGreatSan6
import Derived.Test.YtbfhmbadgbackaaGreatYj
namespace Go.Proofs.YtbfhmbadgbackaaGreat
open Go.ChangeShapes Go.WideShapes Go.ChangeAt Go.RowKit
set_option linter.unusedVariables false
set_option linter.unusedSimpArgs false
set_option maxRecDepth 100000

attribute [local irreducible] Calls

theorem cornerB_vb (s : List Int) : ∀ p ∈ cornerB s, VB2 p := by
  intro p hp
  unfold cornerB at hp
  obtain ⟨k, _, rfl⟩ := List.mem_map.1 hp
  rw [pt1_of (cnr_bd s k)]
  have := cnr_bd s k
  unfold VB2 VI pt1 Num
  refine .inr ⟨?_, ?_, ?_⟩ <;> dsimp only <;> omega
set_option maxHeartbeats 64000000 in
theorem trangeenc (w : World) (a0A a0B a0S : Value) (a0p a0q a0r a0s a0x a0y : Int) (a0la a0lb : List Tm) (a0ls : List Int) (h0A : Tx w a0A a0la ∧ ∀ t ∈ a0la, TV t) (h0p : -9223372036854775808 ≤ a0p ∧ a0p ≤ 9223372036854775807) (h0q : -9223372036854775808 ≤ a0q ∧ a0q ≤ 9223372036854775807) (h0B : Tx w a0B a0lb ∧ ∀ t ∈ a0lb, TV t) (h0r : -9223372036854775808 ≤ a0r ∧ a0r ≤ 9223372036854775807) (h0s : -9223372036854775808 ≤ a0s ∧ a0s ≤ 9223372036854775807) (h0S : S8 w a0S a0ls ∧ ∀ x ∈ a0ls, -128 ≤ x ∧ x ≤ 127) (h0x : 0 ≤ a0x ∧ a0x ≤ 65535) (h0y : 0 ≤ a0y ∧ a0y ≤ 65535) :
    Calls Tryz.prog 7 #[.agg #[a0A, .int .i64 a0p, .int .i64 a0q, a0B, .int .i64 a0r, .int .i64 a0s, a0S, .int .u16 a0x, .int .u16 a0y]] w fun e w' => e = .returned (.bool true) ∧ Below w.heap.size w w' := by
  have HX := Lib.hid h0x
  have HS0 := Lib.hid h0S
  have hba : Below w.heap.size w (w.alloc (.cells #[a0A, .int .i64 a0p, .int .i64 a0q, a0B, .int .i64 a0r, .int .i64 a0s, a0S, .int .u16 a0x, .int .u16 a0y] 30)) := (Below.refl _ _).alloc (Nat.le_refl _) _
  have hI : (w.alloc (.cells #[a0A, .int .i64 a0p, .int .i64 a0q, a0B, .int .i64 a0r, .int .i64 a0s, a0S, .int .u16 a0x, .int .u16 a0y] 30)).heap[w.heap.size]? = some (.cells #[a0A, .int .i64 a0p, .int .i64 a0q, a0B, .int .i64 a0r, .int .i64 a0s, a0S, .int .u16 a0x, .int .u16 a0y] 30 (0, 0)) := World.alloc_heap_new w _
  have HI := Lib.hid hI
  have HBA := Lib.hid hba
  have KM := Lib.hid (fun w hA hB => models_ok a0A a0B a0S a0p a0q a0r a0s a0x a0y a0la a0lb w ⟨hA, h0A.2⟩ h0p h0q ⟨hB, h0B.2⟩ h0r h0s)
  have HA := Lib.hid h0A.1
  have HB := Lib.hid h0B.1
  clear h0A h0p h0q h0B h0r h0s h0S h0x h0y hba hI
  go_enter Tryz.func7, Tryz.ntmps7
  go_wp2_with (fail)
  generalize hW0 : World.alloc w _ = W0 at *
  clear hW0
  refine (sanity6 _).mono ?_
  rintro e w1 ⟨rfl, hB1⟩
  have hT1 := below_then HBA.out hB1
  have hI1 := (hB1.block w.heap.size (Array.getElem?_eq_some_iff.1 HI.out).1).trans HI.out
  have k0 := heapT_cell hI1 (k := 0) rfl
  have k1 := heapT_cell hI1 (k := 1) rfl
  have k2 := heapT_cell hI1 (k := 2) rfl
  have k3 := heapT_cell hI1 (k := 3) rfl
  have k4 := heapT_cell hI1 (k := 4) rfl
  have k5 := heapT_cell hI1 (k := 5) rfl
  have k6 := heapT_cell hI1 (k := 6) rfl
  have k7 := heapT_cell hI1 (k := 7) rfl
  have k8 := heapT_cell hI1 (k := 8) rfl
  have hI1' := Lib.hid hI1
  clear hI1
  go_wp2_with (fail)
  refine (KM.out w1 (HA.out.grow hT1) (HB.out.grow hT1)).mono ?_
  rintro e w2 ⟨ra, l, p, q, rb, m, r, s, rfl, txa, ⟨pa, na, ca, rfl, hca1, hca2⟩, ga, txb, ⟨pb, nb, cb, rfl, hcb1, hcb2⟩, gb, hB2⟩
  have hT2 := below_then hT1 hB2
  clear k0 k1 k2 k3 k4 k5 k6 k7 k8 hB1 hT1
  have CA : Hid (CapOk (.slice pa na ca)) := Lib.hid ⟨pa, na, ca, rfl, hca1, hca2⟩
  have CB : Hid (CapOk (.slice pb nb cb)) := Lib.hid ⟨pb, nb, cb, rfl, hcb1, hcb2⟩
  have GA := Lib.hid ga
  have GB := Lib.hid gb
  have XA := Lib.hid txa
  have XB := Lib.hid txb
  have HT := Lib.hid hT2
  have HIN := Lib.hid ((hB2.block w.heap.size (Array.getElem?_eq_some_iff.1 hI1'.out).1).trans hI1'.out)
  have HSS := Lib.hid (HS0.out.1.grow hT2)
  clear hca1 hca2 hcb1 hcb2 ga gb txa txb hT2 hB2 HI HA HB HBA KM hI1'
  go_wp2_with (fail)
  have XA1 := Lib.hid ((XA.out.grow ((Below.refl w2.heap.size w2).alloc (Nat.le_refl _) (.cells #[.slice pa na ca, .int .i64 p, .int .i64 q] 26))).grow ((Below.refl _ _).alloc (Nat.le_refl _) (.cells #[.slice pb nb cb, .int .i64 r, .int .i64 s] 26)))
  have XB1 := Lib.hid ((XB.out.grow ((Below.refl w2.heap.size w2).alloc (Nat.le_refl _) (.cells #[.slice pa na ca, .int .i64 p, .int .i64 q] 26))).grow ((Below.refl _ _).alloc (Nat.le_refl _) (.cells #[.slice pb nb cb, .int .i64 r, .int .i64 s] 26)))
  have MA1 := Lib.hid ((MoC.new w2 (.slice pa na ca) p q).alloc (.cells #[.slice pb nb cb, .int .i64 r, .int .i64 s] 26))
  have MB1 := Lib.hid (by have e := MoC.new (w2.alloc (.cells #[.slice pa na ca, .int .i64 p, .int .i64 q] 26)) (.slice pb nb cb) r s; rw [World.size_alloc] at e; exact e)
  have HT1 := Lib.hid (((HT.out).alloc HT.out.size (.cells #[.slice pa na ca, .int .i64 p, .int .i64 q] 26)).alloc (by have := HT.out.size; simp; omega) (.cells #[.slice pb nb cb, .int .i64 r, .int .i64 s] 26))
  have hgI := (((Below.refl w2.heap.size w2).alloc (Nat.le_refl _) (.cells #[.slice pa na ca, .int .i64 p, .int .i64 q] 26)).alloc (by simp) (.cells #[.slice pb nb cb, .int .i64 r, .int .i64 s] 26))
  have HIN := Lib.hid ((hgI.block w.heap.size (Array.getElem?_eq_some_iff.1 HIN.out).1).trans HIN.out)
  have HSS := Lib.hid (HSS.out.grow hgI)
  clear XA XB HT hgI
  generalize hW1 : World.alloc (World.alloc w2 _) _ = W1 at *
  clear hW1
  have tna := Lib.hid (goodm_tn GA.out)
  have tnb := Lib.hid (goodm_tn GB.out)
  have lna : l.length ≤ 100 := goodm_len GA.out
  have lnb : m.length ≤ 100 := goodm_len GB.out
  have va := Lib.hid GA.out.2.2.1
  have vb := Lib.hid GB.out.2.2.1
  have KRg := Lib.hid (fun w h => trange_ok (.slice pa na ca) p q l w h tna.out lna va.out)
  have KEv := Lib.hid (fun v w h h2 => teval_ok (.slice pa na ca) v p q l (cornerB a0ls) w h tna.out lna va.out h2 (cornerB_vb a0ls))
  have KMu := Lib.hid (fun w h1 h2 => tmul_ok (.slice pa na ca) (.slice pb nb cb) p q r s 3 l m w h1 tna.out lna h2 tnb.out lnb va.out vb.out)
  have KAd := Lib.hid (fun w h1 h2 => tadd_ok (.slice pa na ca) (.slice pb nb cb) p q r s l m w h1 tna.out lna CA.out h2 tnb.out lnb CB.out va.out vb.out)
  have KNe := Lib.hid (fun w h => tneg_ok (.slice pa na ca) p q l w h tna.out lna CA.out va.out)
  have FM := Lib.hid (mulM_full (a := (l, (p, q))) (b := (m, (r, s))) 3 tna.out tnb.out lna lnb va.out vb.out)
  have FA := Lib.hid (addM_full (a := (l, (p, q))) (b := (m, (r, s))) GA.out.1 GB.out.1 tna.out tnb.out va.out vb.out)
  have FN := Lib.hid (negM_full (a := (l, (p, q))) GA.out.1 tna.out va.out GA.out.2.2.2.2)
  have RI := Lib.hid (fun x h => rangeM_in a0ls (a := (l, (p, q))) (x := x) (fun t ht => (tna.out t ht).1.1) h)
  have EI := Lib.hid (fun x h => evalM_in a0ls (a := (l, (p, q))) (x := x) tna.out h)
  have RE := Lib.hid (fun h : Ent p q => show Ent (rangeM (l, (p, q))).1 (rangeM (l, (p, q))).2 from add_ent_r h)
  have EE := Lib.hid (fun h : Ent p q => show Ent (evalM (l, (p, q)) (cornerB a0ls)).1 (evalM (l, (p, q)) (cornerB a0ls)).2 from add_ent_r h)
  obtain ⟨⟨r0, r1⟩, hR⟩ : ∃ R, rangeM (l, (p, q)) = R := ⟨_, rfl⟩
  rw [hR] at KRg RI RE
  obtain ⟨⟨e0, e1⟩, hE⟩ : ∃ R, evalM (l, (p, q)) (cornerB a0ls) = R := ⟨_, rfl⟩
  rw [hE] at KEv EI EE
  obtain ⟨⟨P, x0, x1⟩, hP⟩ : ∃ R, mulM (l, (p, q)) (m, (r, s)) 3 = R := ⟨_, rfl⟩
  rw [hP] at KMu FM
  obtain ⟨⟨N, n0, n1⟩, hN⟩ : ∃ R, addM (l, (p, q)) (m, (r, s)) = R := ⟨_, rfl⟩
  rw [hN] at KAd FA
  rw [show negM (l, (p, q)) = (negT l, (-q, -p)) from rfl] at FN
  dsimp only at KRg RI RE KEv EI EE KMu KAd
  clear hR hE hP hN
  have KV1 := Lib.hid (fun (u : Value) w h => tvalid_ok u x0 x1 P true w h FM.out.2.1 ⟨fun _ => fullM_ok FM.out, fun _ => rfl⟩)
  have KV2 := Lib.hid (fun (u : Value) w h => rvalid6_ok u x0 x1 P true w h FM.out.2.1 ⟨fun _ => fullM_ok FM.out, fun _ => rfl⟩)
  have KV3 := Lib.hid (fun (u : Value) w h => rvalid6_ok u n0 n1 N true w h FA.out.2.1 ⟨fun _ => fullM_ok FA.out, fun _ => rfl⟩)
  have KV4 := Lib.hid (fun (u : Value) w h => rvalid6_ok u (-q) (-p) (negT l) true w h FN.out.2.1 ⟨fun _ => fullM_ok FN.out, fun _ => rfl⟩)
  refine (KRg.out _ XA1.out).mono ?_
  rintro e w3 ⟨rfl, hB3⟩
  have hg3 := (Below.refl w3.heap.size w3).alloc (Nat.le_refl _) (.cells #[.int .i64 r0, .int .i64 r1] 24)
  replace XA1 := Lib.hid (XA1.out.grow hB3)
  replace XB1 := Lib.hid (XB1.out.grow hB3)
  replace MA1 := Lib.hid (MA1.out.grow hB3)
  replace MB1 := Lib.hid (MB1.out.grow hB3)
  replace HSS := Lib.hid (HSS.out.grow hB3)
  replace HIN := Lib.hid ((hB3.block w.heap.size (Array.getElem?_eq_some_iff.1 HIN.out).1).trans HIN.out)
  replace HT1 := Lib.hid (below_then HT1.out hB3)
  replace XA1 := Lib.hid (XA1.out.grow hg3)
  replace XB1 := Lib.hid (XB1.out.grow hg3)
  replace MA1 := Lib.hid (MA1.out.grow hg3)
  replace MB1 := Lib.hid (MB1.out.grow hg3)
  replace HSS := Lib.hid (HSS.out.grow hg3)
  replace HIN := Lib.hid ((hg3.block w.heap.size (Array.getElem?_eq_some_iff.1 HIN.out).1).trans HIN.out)
  replace HT1 := Lib.hid (below_then HT1.out hg3)
  have I6 := Lib.hid (IvC.new w3 r0 r1)
  clear hB3 hg3 KRg
  obtain ⟨W2, hW2⟩ : ∃ W, w3.alloc (.cells #[.int .i64 r0, .int .i64 r1] 24) = W := ⟨_, rfl⟩
  rw [hW2] at XA1 XB1 MA1 MB1 HSS HIN HT1 I6
  go_wp2_with (fail)
  try rw [hW2]
  clear hW2
  have k0 := fun g : Grown W2 => (MA1.out.grow g.h).c0
  have k1 := fun g : Grown W2 => (MA1.out.grow g.h).c1
  have k2 := fun g : Grown W2 => (MA1.out.grow g.h).c2
  have i6 := fun g : Grown W2 => heapT_cell ((g.h.block w.heap.size (Array.getElem?_eq_some_iff.1 HIN.out).1).trans HIN.out) (k := 6) rfl
  dsimp only at k0 k1 k2
  obtain ⟨zs, ds, hzs⟩ : ∃ p c, a0S = .slice p a0ls.length c := ⟨_, _, HS0.out.1.2.choose_spec.choose_spec.1⟩
  subst hzs
  refine region_pred_l (lk [(18, fun z_ _ => z_ = .agg #[.slice pa na ca, .int .i64 p, .int .i64 q]), (19, fun z_ _ => z_ = .pointer (some ⟨w.heap.size, 6, none⟩)), (20, fun z_ _ => z_ = (.slice zs a0ls.length ds)), (21, fun z_ w' => Bx w' z_ (cornerB a0ls)), (22, fun z_ _ => z_ = .agg #[.int .i64 e0, .int .i64 e1]), (7, fun z_ w' => ∃ X, z_ = .pointer (some ⟨X, 0, none⟩) ∧ W2.heap.size ≤ X ∧ IvC w' X (0, 0))]) 6 _ rfl (by kernel_rfl) (by kernel_rfl) (by kernel_rfl) (lk_steady _ ⟨steady_eq _, steady_eq _, steady_eq _, fun u w1 w2 hb h => h.grow hb, steady_eq _, fun u w1 w2 hb ⟨X, e, h1, h2⟩ => ⟨X, e, h1, h2.grow hb⟩, trivial⟩) ?_ ?_
  · refine ⟨?_, ?_, ?_, ?_, ?_, ?_, ?_, trivial⟩
    · intro _
      refine ob_plain [4] rfl rfl fun aa g h => ?_
      have yy0 := seen_out (v := .pointer (some ⟨w2.heap.size, 0, none⟩)) rfl rfl h.1
      have ee0 := getD_of yy0
      exact tupon_value (v := .agg #[.slice pa na ca, .int .i64 p, .int .i64 q]) (by simp [go_sem, ee0, yy0, k0 g, k1 g, k2 g]) (Below.refl _ _) rfl
    · intro _
      refine ob_plain [1] rfl rfl fun aa g h => ?_
      have yy0 := seen_out (v := .pointer (some ⟨w.heap.size, 0, none⟩)) rfl rfl h.1
      have ee0 := getD_of yy0
      exact tupon_value (v := .pointer (some ⟨w.heap.size, 6, none⟩)) (by simp [go_sem, ee0, yy0]) (Below.refl _ _) rfl
    · intro _
      refine ob_plain [19] rfl rfl fun aa g h => ?_
      obtain ⟨_, yy0, rfl⟩ := seen_in rfl h.1
      have ee0 := getD_of yy0
      exact tupon_value (v := (.slice zs a0ls.length ds)) (by simp [go_sem, ee0, yy0, i6 g]) (Below.refl _ _) rfl
    · intro _
      refine ob_plain [20] rfl rfl fun aa g h => ?_
      obtain ⟨_, yy0, rfl⟩ := seen_in rfl h.1
      have ee0 := getD_of yy0
      refine tupon_enter (f := 44) (args := #[(.slice zs a0ls.length ds)]) (by simp [go_sem, ee0, yy0]) rfl ?_
      exact (corner_ok _ a0ls g.w (HSS.out.grow g.h) HS0.out.2).mono fun e w' ⟨r, he, hx, hB⟩ => ⟨r, he, hB, hx⟩
    · intro _
      refine ob_plain [18, 21] rfl rfl fun aa g h => ?_
      obtain ⟨_, yy0, rfl⟩ := seen_in rfl h.1
      have ee0 := getD_of yy0
      obtain ⟨v21, yy1, bx21⟩ := seen_in rfl h.2.1
      have ee1 := getD_of yy1
      refine tupon_enter (f := 37) (args := #[.agg #[.slice pa na ca, .int .i64 p, .int .i64 q], v21]) (by simp [go_sem, ee0, yy0, ee1, yy1]) rfl ?_
      exact (KEv.out v21 g.w (XA1.out.grow g.h) bx21).mono fun e w' ⟨he, hB⟩ => ⟨_, he, hB, rfl⟩
    · intro _
      refine ob_plain [] rfl rfl fun aa g h => ?_
      exact tupon_value (v := .pointer (some ⟨g.w.heap.size, 0, none⟩)) (w1 := g.w.alloc (.cells #[.int .i64 0, .int .i64 0] 24)) (by simp [go_sem]) ((Below.refl _ _).alloc (Nat.le_refl _) _) ⟨_, rfl, g.h.size, IvC.new _ _ _⟩
    · exact fun h => absurd rfl h
  rintro w4 hB4 _ rfl _ rfl _ rfl v21 bx21 _ rfl _ ⟨X7, rfl, hX7, hM7⟩
  simp only [Act.put, List.setIfInBounds_toArray, List.set_cons_succ, List.set_cons_zero, List.filterMap_nil, finP]
  have q0 := hM7.c0
  have q1 := hM7.c1
  have z0 := hM7.frozen 0
  have z1 := hM7.frozen 1
  dsimp only at q0 q1
  have I7 := Lib.hid (hM7.set e0 e1)
  have hB5 := (hB4.setCell (p := ⟨X7, 0, none⟩) hX7 (.int .i64 e0)).setCell (p := ⟨X7, 1, none⟩) hX7 (.int .i64 e1)
  replace XA1 := Lib.hid (XA1.out.grow hB5)
  replace XB1 := Lib.hid (XB1.out.grow hB5)
  replace MA1 := Lib.hid (MA1.out.grow hB5)
  replace MB1 := Lib.hid (MB1.out.grow hB5)
  replace HSS := Lib.hid (HSS.out.grow hB5)
  replace I6 := Lib.hid (I6.out.grow hB5)
  replace HIN := Lib.hid ((hB5.block w.heap.size (Array.getElem?_eq_some_iff.1 HIN.out).1).trans HIN.out)
  replace HT1 := Lib.hid (below_then HT1.out hB5)
  refine ⟨_, by simp [go_sem, q0, q1, z0, z1]; rfl, ?_⟩
  clear q0 q1 z0 z1 hM7 hX7 hB4 hB5 k0 k1 k2 i6 bx21 KEv
  obtain ⟨WS, hWS⟩ : ∃ W, (w4.setCell ⟨X7, 0, none⟩ (.int .i64 e0)).setCell ⟨X7, 1, none⟩ (.int .i64 e1) = W := ⟨_, rfl⟩
  rw [hWS] at XA1 XB1 MA1 MB1 HSS HIN HT1 I6 I7
  rw [hWS]
  clear hWS
  have k0 := MA1.out.c0
  have k1 := MA1.out.c1
  have k2 := MA1.out.c2
  dsimp only at k0 k1 k2
  have j0 := MB1.out.c0
  have j1 := MB1.out.c1
  have j2 := MB1.out.c2
  dsimp only at j0 j1 j2
  go_wp2_with (fail)
  refine (KMu.out _ XA1.out XB1.out).mono ?_
  rintro e w5 ⟨rp, rfl, txp, ⟨pp, np, cp, rfl, hp1, hp2⟩, hB⟩
  clear k0 k1 k2 j0 j1 j2
  have hg5 := (Below.refl w5.heap.size w5).alloc (Nat.le_refl _) (.cells #[.slice pp np cp, .int .i64 x0, .int .i64 x1] 26)
  replace XA1 := Lib.hid (XA1.out.grow hB)
  replace XB1 := Lib.hid (XB1.out.grow hB)
  replace MA1 := Lib.hid (MA1.out.grow hB)
  replace MB1 := Lib.hid (MB1.out.grow hB)
  replace HSS := Lib.hid (HSS.out.grow hB)
  replace I6 := Lib.hid (I6.out.grow hB)
  replace I7 := Lib.hid (I7.out.grow hB)
  replace HIN := Lib.hid ((hB.block w.heap.size (Array.getElem?_eq_some_iff.1 HIN.out).1).trans HIN.out)
  replace HT1 := Lib.hid (below_then HT1.out hB)
  replace XA1 := Lib.hid (XA1.out.grow hg5)
  replace XB1 := Lib.hid (XB1.out.grow hg5)
  replace MA1 := Lib.hid (MA1.out.grow hg5)
  replace MB1 := Lib.hid (MB1.out.grow hg5)
  replace HSS := Lib.hid (HSS.out.grow hg5)
  replace I6 := Lib.hid (I6.out.grow hg5)
  replace I7 := Lib.hid (I7.out.grow hg5)
  replace HIN := Lib.hid ((hg5.block w.heap.size (Array.getElem?_eq_some_iff.1 HIN.out).1).trans HIN.out)
  replace HT1 := Lib.hid (below_then HT1.out hg5)
  have XP := Lib.hid (txp.grow hg5)
  have MP := Lib.hid (MoC.new w5 (.slice pp np cp) x0 x1)
  clear hB hg5 txp hp1 hp2 KMu
  obtain ⟨W5, hW5⟩ : ∃ W, w5.alloc (.cells #[.slice pp np cp, .int .i64 x0, .int .i64 x1] 26) = W := ⟨_, rfl⟩
  rw [hW5] at XA1 XB1 MA1 MB1 HSS HIN HT1 I6 I7 XP MP
  have k0 := MP.out.c0
  have k1 := MP.out.c1
  have k2 := MP.out.c2
  dsimp only at k0 k1 k2
  go_wp2_with (fail)
  try rw [hW5]
  clear hW5
  refine (KV1.out _ _ XP.out).mono ?_
  rintro e w6 ⟨rfl, hB⟩
  clear k0 k1 k2
  replace XA1 := Lib.hid (XA1.out.grow hB)
  replace XB1 := Lib.hid (XB1.out.grow hB)
  replace MA1 := Lib.hid (MA1.out.grow hB)
  replace MB1 := Lib.hid (MB1.out.grow hB)
  replace HSS := Lib.hid (HSS.out.grow hB)
  replace I6 := Lib.hid (I6.out.grow hB)
  replace I7 := Lib.hid (I7.out.grow hB)
  replace XP := Lib.hid (XP.out.grow hB)
  replace MP := Lib.hid (MP.out.grow hB)
  replace HIN := Lib.hid ((hB.block w.heap.size (Array.getElem?_eq_some_iff.1 HIN.out).1).trans HIN.out)
  replace HT1 := Lib.hid (below_then HT1.out hB)
  clear hB
  have k0 := MP.out.c0
  have k1 := MP.out.c1
  have k2 := MP.out.c2
  dsimp only at k0 k1 k2
  go_wp2_with (fail)
  refine (KV2.out _ _ XP.out).mono ?_
  rintro e w7 ⟨rfl, hB⟩
  clear k0 k1 k2
  replace XA1 := Lib.hid (XA1.out.grow hB)
  replace XB1 := Lib.hid (XB1.out.grow hB)
  replace MA1 := Lib.hid (MA1.out.grow hB)
  replace MB1 := Lib.hid (MB1.out.grow hB)
  replace HSS := Lib.hid (HSS.out.grow hB)
  replace I6 := Lib.hid (I6.out.grow hB)
  replace I7 := Lib.hid (I7.out.grow hB)
  replace XP := Lib.hid (XP.out.grow hB)
  replace MP := Lib.hid (MP.out.grow hB)
  replace HIN := Lib.hid ((hB.block w.heap.size (Array.getElem?_eq_some_iff.1 HIN.out).1).trans HIN.out)
  replace HT1 := Lib.hid (below_then HT1.out hB)
  clear hB XP MP
  have k0 := MA1.out.c0
  have k1 := MA1.out.c1
  have k2 := MA1.out.c2
  dsimp only at k0 k1 k2
  have j0 := MB1.out.c0
  have j1 := MB1.out.c1
  have j2 := MB1.out.c2
  dsimp only at j0 j1 j2
  go_wp2_with (fail)
  refine (KAd.out _ XA1.out XB1.out).mono ?_
  rintro e w8 ⟨rn, rfl, txn, ⟨pn, nn, cn, rfl, hp1, hp2⟩, hB⟩
  clear k0 k1 k2 j0 j1 j2
  replace XA1 := Lib.hid (XA1.out.grow hB)
  replace XB1 := Lib.hid (XB1.out.grow hB)
  replace MA1 := Lib.hid (MA1.out.grow hB)
  replace MB1 := Lib.hid (MB1.out.grow hB)
  replace HSS := Lib.hid (HSS.out.grow hB)
  replace I6 := Lib.hid (I6.out.grow hB)
  replace I7 := Lib.hid (I7.out.grow hB)
  replace HIN := Lib.hid ((hB.block w.heap.size (Array.getElem?_eq_some_iff.1 HIN.out).1).trans HIN.out)
  replace HT1 := Lib.hid (below_then HT1.out hB)
  clear hB hp1 hp2
  go_wp2_with (fail)
  refine (KV3.out _ _ txn).mono ?_
  rintro e w9 ⟨rfl, hB⟩
  clear txn
  replace XA1 := Lib.hid (XA1.out.grow hB)
  replace XB1 := Lib.hid (XB1.out.grow hB)
  replace MA1 := Lib.hid (MA1.out.grow hB)
  replace MB1 := Lib.hid (MB1.out.grow hB)
  replace HSS := Lib.hid (HSS.out.grow hB)
  replace I6 := Lib.hid (I6.out.grow hB)
  replace I7 := Lib.hid (I7.out.grow hB)
  replace HIN := Lib.hid ((hB.block w.heap.size (Array.getElem?_eq_some_iff.1 HIN.out).1).trans HIN.out)
  replace HT1 := Lib.hid (below_then HT1.out hB)
  clear hB
  have k0 := MA1.out.c0
  have k1 := MA1.out.c1
  have k2 := MA1.out.c2
  dsimp only at k0 k1 k2
  go_wp2_with (fail)
  refine (KNe.out _ XA1.out).mono ?_
  rintro e w10 ⟨rn, rfl, txn, ⟨pm, nm, cm, rfl, hp1, hp2⟩, hB⟩
  clear k0 k1 k2
  replace XA1 := Lib.hid (XA1.out.grow hB)
  replace XB1 := Lib.hid (XB1.out.grow hB)
  replace MA1 := Lib.hid (MA1.out.grow hB)
  replace MB1 := Lib.hid (MB1.out.grow hB)
  replace HSS := Lib.hid (HSS.out.grow hB)
  replace I6 := Lib.hid (I6.out.grow hB)
  replace I7 := Lib.hid (I7.out.grow hB)
  replace HIN := Lib.hid ((hB.block w.heap.size (Array.getElem?_eq_some_iff.1 HIN.out).1).trans HIN.out)
  replace HT1 := Lib.hid (below_then HT1.out hB)
  clear hB hp1 hp2
  go_wp2_with (fail)
  refine (KV4.out _ _ txn).mono ?_
  rintro e w11 ⟨rfl, hB⟩
  clear txn
  replace XA1 := Lib.hid (XA1.out.grow hB)
  replace XB1 := Lib.hid (XB1.out.grow hB)
  replace MA1 := Lib.hid (MA1.out.grow hB)
  replace MB1 := Lib.hid (MB1.out.grow hB)
  replace HSS := Lib.hid (HSS.out.grow hB)
  replace I6 := Lib.hid (I6.out.grow hB)
  replace I7 := Lib.hid (I7.out.grow hB)
  replace HIN := Lib.hid ((hB.block w.heap.size (Array.getElem?_eq_some_iff.1 HIN.out).1).trans HIN.out)
  replace HT1 := Lib.hid (below_then HT1.out hB)
  clear hB
  have k0 := MA1.out.c0
  have k1 := MA1.out.c1
  have k2 := MA1.out.c2
  dsimp only at k0 k1 k2
  by_cases hE : Ent p q
  · have E1 := RE.out hE
    have E2 := EE.out hE
    obtain ⟨rfl, rfl⟩ := hE
    obtain ⟨rfl, rfl⟩ := E1
    obtain ⟨rfl, rfl⟩ := E2
    go_wp2_with (fail)
    refine (r2ent_yes _).mono ?_
    rintro e w12 ⟨rfl, hB⟩
    clear k0 k1 k2
    replace XA1 := Lib.hid (XA1.out.grow hB)
    replace XB1 := Lib.hid (XB1.out.grow hB)
    replace MA1 := Lib.hid (MA1.out.grow hB)
    replace MB1 := Lib.hid (MB1.out.grow hB)
    replace HSS := Lib.hid (HSS.out.grow hB)
    replace I6 := Lib.hid (I6.out.grow hB)
    replace I7 := Lib.hid (I7.out.grow hB)
    replace HIN := Lib.hid ((hB.block w.heap.size (Array.getElem?_eq_some_iff.1 HIN.out).1).trans HIN.out)
    replace HT1 := Lib.hid (below_then HT1.out hB)
    clear hB
    have k0 := I6.out.c0
    have k1 := I6.out.c1
    dsimp only at k0 k1
    go_wp2_with (fail)
    refine (iv_ent_yes _).mono ?_
    rintro e w13 ⟨rfl, hB⟩
    clear k0 k1
    replace XA1 := Lib.hid (XA1.out.grow hB)
    replace XB1 := Lib.hid (XB1.out.grow hB)
    replace MA1 := Lib.hid (MA1.out.grow hB)
    replace MB1 := Lib.hid (MB1.out.grow hB)
    replace HSS := Lib.hid (HSS.out.grow hB)
    replace I6 := Lib.hid (I6.out.grow hB)
    replace I7 := Lib.hid (I7.out.grow hB)
    replace HIN := Lib.hid ((hB.block w.heap.size (Array.getElem?_eq_some_iff.1 HIN.out).1).trans HIN.out)
    replace HT1 := Lib.hid (below_then HT1.out hB)
    clear hB
    have k0 := I7.out.c0
    have k1 := I7.out.c1
    dsimp only at k0 k1
    go_wp2_with (fail)
    refine (iv_ent_yes _).mono ?_
    rintro e w14 ⟨rfl, hB⟩
    clear k0 k1
    go_wp2_with (fail)
    go_ret
    exact ⟨rfl, below_then HT1.out hB⟩
  · have KE := Lib.hid (fun w => r2ent_no p q w hE)
    have vv := va.out
    unfold VB2 VI at vv
    have vn := vv.resolve_left hE
    have hpq := vn.2.2
    have n1 := vn.1
    have n2 := vn.2.1
    unfold Num at n1 n2
    dsimp only at n1 n2 hpq
    have hfr := frac_bd (d := q - p) (x := a0x) (by omega) HX.out
    have hdiv : 0 ≤ (q - p) * a0x / 65535 ∧ (q - p) * a0x / 65535 ≤ q - p := by omega
    have hcb := cvS_bd a0ls l fun t ht => (tna.out t ht).2
    have hvm : valM a0ls (l, (p, q)) a0x = cvS a0ls l + (p + (q - p) * a0x / 65535) := by unfold valM; dsimp only; omega
    have SA6 := Lib.hid (ev_six GA.out.1 GA.out.2.1)
    have KV := Lib.hid (fun w h1 h2 => valat_ok (.slice pa na ca) (.slice zs a0ls.length ds) l a0ls p q a0x w h1 h2 SA6.out HS0.out.2 lna hpq (by omega) (by omega) HX.out)
    rw [hvm] at KV
    have R1 := RI.out (p + (q - p) * a0x / 65535) (by omega)
    have R2 := EI.out (p + (q - p) * a0x / 65535) (by omega)
    obtain ⟨V, hV⟩ : ∃ V, cvS a0ls l + (p + (q - p) * a0x / 65535) = V := ⟨_, rfl⟩
    rw [hV] at KV R1 R2
    have i6 := heapT_cell HIN.out (k := 6) rfl
    have i7 := heapT_cell HIN.out (k := 7) rfl
    clear hE vv vn hfr hdiv hcb hvm hV n1 n2
    go_wp2_with (fail)
    refine (KE.out _).mono ?_
    rintro e w12 ⟨rfl, hB⟩
    clear k0 k1 k2 i6 i7 KE
    replace XA1 := Lib.hid (XA1.out.grow hB)
    replace XB1 := Lib.hid (XB1.out.grow hB)
    replace MA1 := Lib.hid (MA1.out.grow hB)
    replace MB1 := Lib.hid (MB1.out.grow hB)
    replace HSS := Lib.hid (HSS.out.grow hB)
    replace I6 := Lib.hid (I6.out.grow hB)
    replace I7 := Lib.hid (I7.out.grow hB)
    replace HIN := Lib.hid ((hB.block w.heap.size (Array.getElem?_eq_some_iff.1 HIN.out).1).trans HIN.out)
    replace HT1 := Lib.hid (below_then HT1.out hB)
    clear hB
    have k0 := MA1.out.c0
    have k1 := MA1.out.c1
    have k2 := MA1.out.c2
    dsimp only at k0 k1 k2
    have i6 := heapT_cell HIN.out (k := 6) rfl
    have i7 := heapT_cell HIN.out (k := 7) rfl
    go_wp2_with (fail)
    refine (KV.out _ XA1.out HSS.out).mono ?_
    rintro e w13 ⟨rfl, hB⟩
    clear k0 k1 k2 i6 i7 KV
    replace XA1 := Lib.hid (XA1.out.grow hB)
    replace XB1 := Lib.hid (XB1.out.grow hB)
    replace MA1 := Lib.hid (MA1.out.grow hB)
    replace MB1 := Lib.hid (MB1.out.grow hB)
    replace HSS := Lib.hid (HSS.out.grow hB)
    replace I6 := Lib.hid (I6.out.grow hB)
    replace I7 := Lib.hid (I7.out.grow hB)
    replace HIN := Lib.hid ((hB.block w.heap.size (Array.getElem?_eq_some_iff.1 HIN.out).1).trans HIN.out)
    replace HT1 := Lib.hid (below_then HT1.out hB)
    clear hB
    have k0 := I6.out.c0
    have k1 := I6.out.c1
    dsimp only at k0 k1
    by_cases hE : Ent r0 r1
    · obtain ⟨rfl, rfl⟩ := hE
      go_wp2_with (fail)
      refine (iv_ent_yes _).mono ?_
      rintro e w14 ⟨rfl, hB⟩
      clear k0 k1
      replace XA1 := Lib.hid (XA1.out.grow hB)
      replace XB1 := Lib.hid (XB1.out.grow hB)
      replace MA1 := Lib.hid (MA1.out.grow hB)
      replace MB1 := Lib.hid (MB1.out.grow hB)
      replace HSS := Lib.hid (HSS.out.grow hB)
      replace I6 := Lib.hid (I6.out.grow hB)
      replace I7 := Lib.hid (I7.out.grow hB)
      replace HIN := Lib.hid ((hB.block w.heap.size (Array.getElem?_eq_some_iff.1 HIN.out).1).trans HIN.out)
      replace HT1 := Lib.hid (below_then HT1.out hB)
      clear hB
      have k0 := I7.out.c0
      have k1 := I7.out.c1
      dsimp only at k0 k1
      by_cases hF : Ent e0 e1
      · obtain ⟨rfl, rfl⟩ := hF
        go_wp2_with (fail)
        refine (iv_ent_yes _).mono ?_
        rintro e w15 ⟨rfl, hB⟩
        clear k0 k1
        go_wp2_with (fail)
        go_ret
        exact ⟨rfl, below_then HT1.out hB⟩
      · have KF := Lib.hid (fun w => iv_ent_no e0 e1 w hF)
        have d1 : (decide (e0 ≤ V)) = true := decide_eq_true (R2.resolve_left hF).1
        have d2 : (decide (V ≤ e1)) = true := decide_eq_true (R2.resolve_left hF).2
        clear hF
        go_wp2_with (fail)
        refine (KF.out _).mono ?_
        rintro e w15 ⟨rfl, hB⟩
        clear k0 k1
        have k0 := (I7.out.grow hB).c0
        have k1 := (I7.out.grow hB).c1
        dsimp only at k0 k1
        go_wp2_with (fail)
        go_ret
        exact ⟨rfl, below_then HT1.out hB⟩
    · have KF := Lib.hid (fun w => iv_ent_no r0 r1 w hE)
      have d3 : (decide (r0 ≤ V)) = true := decide_eq_true (R1.resolve_left hE).1
      have d4 : (decide (V ≤ r1)) = true := decide_eq_true (R1.resolve_left hE).2
      clear hE
      go_wp2_with (fail)
      refine (KF.out _).mono ?_
      rintro e w14 ⟨rfl, hB⟩
      clear k0 k1
      replace XA1 := Lib.hid (XA1.out.grow hB)
      replace XB1 := Lib.hid (XB1.out.grow hB)
      replace MA1 := Lib.hid (MA1.out.grow hB)
      replace MB1 := Lib.hid (MB1.out.grow hB)
      replace HSS := Lib.hid (HSS.out.grow hB)
      replace I6 := Lib.hid (I6.out.grow hB)
      replace I7 := Lib.hid (I7.out.grow hB)
      replace HIN := Lib.hid ((hB.block w.heap.size (Array.getElem?_eq_some_iff.1 HIN.out).1).trans HIN.out)
      replace HT1 := Lib.hid (below_then HT1.out hB)
      clear hB
      have j0 := I6.out.c0
      have j1 := I6.out.c1
      dsimp only at j0 j1
      have k0 := I7.out.c0
      have k1 := I7.out.c1
      dsimp only at k0 k1
      by_cases hF : Ent e0 e1
      · obtain ⟨rfl, rfl⟩ := hF
        go_wp2_with (fail)
        refine (iv_ent_yes _).mono ?_
        rintro e w15 ⟨rfl, hB⟩
        clear k0 k1 j0 j1
        go_wp2_with (fail)
        go_ret
        exact ⟨rfl, below_then HT1.out hB⟩
      · have KF := Lib.hid (fun w => iv_ent_no e0 e1 w hF)
        have d1 : (decide (e0 ≤ V)) = true := decide_eq_true (R2.resolve_left hF).1
        have d2 : (decide (V ≤ e1)) = true := decide_eq_true (R2.resolve_left hF).2
        clear hF
        go_wp2_with (fail)
        refine (KF.out _).mono ?_
        rintro e w15 ⟨rfl, hB⟩
        clear k0 k1 j0 j1
        have k0 := (I7.out.grow hB).c0
        have k1 := (I7.out.grow hB).c1
        dsimp only at k0 k1
        go_wp2_with (fail)
        go_ret
        exact ⟨rfl, below_then HT1.out hB⟩
end Go.Proofs.YtbfhmbadgbackaaGreat
