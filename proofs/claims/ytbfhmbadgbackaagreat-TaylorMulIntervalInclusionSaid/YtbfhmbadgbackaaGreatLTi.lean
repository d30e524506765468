/-
  The law TaylorMulIntervalInclusion.
-/
import Derived.Test.YtbfhmbadgbackaaGreatSan6
import Derived.Test.YtbfhmbadgbackaaGreatYl
namespace Go.Proofs.YtbfhmbadgbackaaGreat
open Go.ChangeShapes Go.WideShapes Go.ChangeAt Go.RowKit
set_option linter.unusedVariables false
set_option linter.unusedSimpArgs false
set_option maxRecDepth 100000

attribute [local irreducible] Calls

theorem moderate_ok (x : Int) (w : World) :
    Calls Tryz.prog 41 #[.int .i64 x] w fun e w' => e = .returned (.bool (decide (x ≤ 536870912) && decide (-536870912 ≤ x))) ∧ Below w.heap.size w w' := by
  cases h1 : decide (x ≤ 536870912) with
  | false =>
    go_enter Tryz.func41, Tryz.ntmps41
    go_wp2_with (fail)
    go_ret
    exact ⟨rfl, Below.refl _ _⟩
  | true =>
    have h2 : decide (x ≥ -536870912) = decide (-536870912 ≤ x) := rfl
    go_enter Tryz.func41, Tryz.ntmps41
    go_wp2_with (fail)
    go_ret
    refine ⟨?_, Below.refl _ _⟩
    simp
theorem constM_six {c0 c1 : Int} (h : VB2 (c0, c1)) : Six (constM (c0, c1)).1 := const_six (mid_num h)
set_option maxHeartbeats 64000000 in
theorem tmulinc (w : World) (a0A a0B a0S : Value) (a0p a0q a0r a0s a0x a0y : Int) (a0la a0lb : List Tm) (a0ls : List Int) (h0A : Tx w a0A a0la ∧ ∀ t ∈ a0la, TV t) (h0p : -9223372036854775808 ≤ a0p ∧ a0p ≤ 9223372036854775807) (h0q : -9223372036854775808 ≤ a0q ∧ a0q ≤ 9223372036854775807) (h0B : Tx w a0B a0lb ∧ ∀ t ∈ a0lb, TV t) (h0r : -9223372036854775808 ≤ a0r ∧ a0r ≤ 9223372036854775807) (h0s : -9223372036854775808 ≤ a0s ∧ a0s ≤ 9223372036854775807) (h0S : S8 w a0S a0ls ∧ ∀ x ∈ a0ls, -128 ≤ x ∧ x ≤ 127) (h0x : 0 ≤ a0x ∧ a0x ≤ 65535) (h0y : 0 ≤ a0y ∧ a0y ≤ 65535) (a1_0 a1_1 : Int) (w1 : ∀ x ∈ [a1_0, a1_1], IntKind.has .i64 x) :
    Calls Tryz.prog 6 #[.agg #[a0A, .int .i64 a0p, .int .i64 a0q, a0B, .int .i64 a0r, .int .i64 a0s, a0S, .int .u16 a0x, .int .u16 a0y], .agg #[.int .i64 a1_0, .int .i64 a1_1]] w fun e w' => e = .returned (.bool true) ∧ Below w.heap.size w w' := by
  have b0 : -9223372036854775808 ≤ a1_0 ∧ a1_0 ≤ 9223372036854775807 := by
    have := w1 a1_0 (by simp)
    simpa [IntKind.has, IntKind.min, IntKind.max, IntKind.signed, IntKind.bits] using this
  have b1 : -9223372036854775808 ≤ a1_1 ∧ a1_1 ≤ 9223372036854775807 := by
    have := w1 a1_1 (by simp)
    simpa [IntKind.has, IntKind.min, IntKind.max, IntKind.signed, IntKind.bits] using this
  obtain ⟨c0, c1, hc01, KI⟩ := r2made a1_0 a1_1 b0.1 b0.2 b1.1 b1.2
  have HK := Lib.hid KI
  have HV := Lib.hid hc01
  clear w1 b0 b1 hc01 KI
  have HX := Lib.hid h0x
  have HY := Lib.hid h0y
  have HS0 := Lib.hid h0S
  have hba : Below w.heap.size w ((w.alloc (.cells #[a0A, .int .i64 a0p, .int .i64 a0q, a0B, .int .i64 a0r, .int .i64 a0s, a0S, .int .u16 a0x, .int .u16 a0y] 30)).alloc (.cells #[.int .i64 a1_0, .int .i64 a1_1] 24)) := ((Below.refl _ _).alloc (Nat.le_refl _) _).alloc (by simp) _
  have hI : ((w.alloc (.cells #[a0A, .int .i64 a0p, .int .i64 a0q, a0B, .int .i64 a0r, .int .i64 a0s, a0S, .int .u16 a0x, .int .u16 a0y] 30)).alloc (.cells #[.int .i64 a1_0, .int .i64 a1_1] 24)).heap[w.heap.size]? = some (.cells #[a0A, .int .i64 a0p, .int .i64 a0q, a0B, .int .i64 a0r, .int .i64 a0s, a0S, .int .u16 a0x, .int .u16 a0y] 30 (0, 0)) := (Below.heap_alloc _ _ _ (by simp)).trans (World.alloc_heap_new w _)
  have hJ : IvC ((w.alloc (.cells #[a0A, .int .i64 a0p, .int .i64 a0q, a0B, .int .i64 a0r, .int .i64 a0s, a0S, .int .u16 a0x, .int .u16 a0y] 30)).alloc (.cells #[.int .i64 a1_0, .int .i64 a1_1] 24)) (w.heap.size + 1) (a1_0, a1_1) := by
    have e := IvC.new (w.alloc (.cells #[a0A, .int .i64 a0p, .int .i64 a0q, a0B, .int .i64 a0r, .int .i64 a0s, a0S, .int .u16 a0x, .int .u16 a0y] 30)) a1_0 a1_1
    rw [World.size_alloc] at e
    exact e
  have HJ := Lib.hid hJ
  have HI := Lib.hid hI
  have HBA := Lib.hid hba
  have KM := Lib.hid (fun w hA hB => models_ok a0A a0B a0S a0p a0q a0r a0s a0x a0y a0la a0lb w ⟨hA, h0A.2⟩ h0p h0q ⟨hB, h0B.2⟩ h0r h0s)
  have HA := Lib.hid h0A.1
  have HB := Lib.hid h0B.1
  clear h0A h0p h0q h0B h0r h0s h0S h0x h0y hba hI hJ
  go_enter Tryz.func6, Tryz.ntmps6
  go_wp2_with (fail)
  generalize hW0 : World.alloc (World.alloc w _) _ = W0 at *
  clear hW0
  refine (sanity6 _).mono ?_
  rintro e w1 ⟨rfl, hB1⟩
  have hT1 := below_then HBA.out hB1
  have hI1 := (hB1.block w.heap.size (Array.getElem?_eq_some_iff.1 HI.out).1).trans HI.out
  have k0 := heapT_cell hI1 (k := 0) rfl
  have k1 := heapT_cell hI1 (k := 1) rfl
  have k2 := heapT_cell hI1 (k := 2) rfl
  have k3 := heapT_cell hI1 (k := 3) rfl
  have k4 := heapT_cell hI1 (k := 4) rfl
  have k5 := heapT_cell hI1 (k := 5) rfl
  have k6 := heapT_cell hI1 (k := 6) rfl
  have k7 := heapT_cell hI1 (k := 7) rfl
  have k8 := heapT_cell hI1 (k := 8) rfl
  have hI1' := Lib.hid hI1
  have HJ1 := Lib.hid (HJ.out.grow hB1)
  clear hI1 HJ
  go_wp2_with (fail)
  refine (KM.out w1 (HA.out.grow hT1) (HB.out.grow hT1)).mono ?_
  rintro e w2 ⟨ra, l, p, q, rb, m, r, s, rfl, txa, ⟨pa, na, ca, rfl, hca1, hca2⟩, ga, txb, ⟨pb, nb, cb, rfl, hcb1, hcb2⟩, gb, hB2⟩
  have hT2 := below_then hT1 hB2
  clear k0 k1 k2 k3 k4 k5 k6 k7 k8 hB1 hT1
  have CA : Hid (CapOk (.slice pa na ca)) := Lib.hid ⟨pa, na, ca, rfl, hca1, hca2⟩
  have CB : Hid (CapOk (.slice pb nb cb)) := Lib.hid ⟨pb, nb, cb, rfl, hcb1, hcb2⟩
  have GA := Lib.hid ga
  have GB := Lib.hid gb
  have XA := Lib.hid txa
  have XB := Lib.hid txb
  have HT := Lib.hid hT2
  have HIN := Lib.hid ((hB2.block w.heap.size (Array.getElem?_eq_some_iff.1 hI1'.out).1).trans hI1'.out)
  have HSS := Lib.hid (HS0.out.1.grow hT2)
  have HJ2 := Lib.hid (HJ1.out.grow hB2)
  clear hca1 hca2 hcb1 hcb2 ga gb txa txb hT2 hB2 HI HA HB HBA KM hI1' HJ1
  have XA1 := Lib.hid ((XA.out.grow ((Below.refl w2.heap.size w2).alloc (Nat.le_refl _) (.cells #[.slice pa na ca, .int .i64 p, .int .i64 q] 26))).grow ((Below.refl _ _).alloc (Nat.le_refl _) (.cells #[.slice pb nb cb, .int .i64 r, .int .i64 s] 26)))
  have XB1 := Lib.hid ((XB.out.grow ((Below.refl w2.heap.size w2).alloc (Nat.le_refl _) (.cells #[.slice pa na ca, .int .i64 p, .int .i64 q] 26))).grow ((Below.refl _ _).alloc (Nat.le_refl _) (.cells #[.slice pb nb cb, .int .i64 r, .int .i64 s] 26)))
  have MA1 := Lib.hid ((MoC.new w2 (.slice pa na ca) p q).alloc (.cells #[.slice pb nb cb, .int .i64 r, .int .i64 s] 26))
  have MB1 := Lib.hid (by have e := MoC.new (w2.alloc (.cells #[.slice pa na ca, .int .i64 p, .int .i64 q] 26)) (.slice pb nb cb) r s; rw [World.size_alloc] at e; exact e)
  have HT1 := Lib.hid (((HT.out).alloc HT.out.size (.cells #[.slice pa na ca, .int .i64 p, .int .i64 q] 26)).alloc (by have := HT.out.size; simp; omega) (.cells #[.slice pb nb cb, .int .i64 r, .int .i64 s] 26))
  have hgI := (((Below.refl w2.heap.size w2).alloc (Nat.le_refl _) (.cells #[.slice pa na ca, .int .i64 p, .int .i64 q] 26)).alloc (by simp) (.cells #[.slice pb nb cb, .int .i64 r, .int .i64 s] 26))
  have HIN := Lib.hid ((hgI.block w.heap.size (Array.getElem?_eq_some_iff.1 HIN.out).1).trans HIN.out)
  have HSS := Lib.hid (HSS.out.grow hgI)
  have HJ3 := Lib.hid (HJ2.out.grow hgI)
  clear XA XB HT hgI HJ2
  obtain ⟨W1, hW1⟩ : ∃ W, (w2.alloc (.cells #[.slice pa na ca, .int .i64 p, .int .i64 q] 26)).alloc (.cells #[.slice pb nb cb, .int .i64 r, .int .i64 s] 26) = W := ⟨_, rfl⟩
  rw [hW1] at XA1 XB1 MA1 MB1 HT1 HIN HSS HJ3
  have m0 := HJ3.out.c0
  have m1 := HJ3.out.c1
  dsimp only at m0 m1
  go_wp2_with (fail)
  try rw [hW1]
  clear hW1
  clear XB1 MB1 GB CB
  have tna := Lib.hid (goodm_tn GA.out)
  have lna : l.length ≤ 100 := goodm_len GA.out
  have va := Lib.hid GA.out.2.2.1
  obtain ⟨zs, ds, hzs⟩ : ∃ p c, a0S = .slice p a0ls.length c := ⟨_, _, HS0.out.1.2.choose_spec.choose_spec.1⟩
  subst hzs
  refine (HK.out _).mono ?_
  rintro e w3 ⟨rfl, hB⟩
  clear m0 m1 HJ3 HK
  have hg := (Below.refl w3.heap.size w3).alloc (Nat.le_refl _) (.cells #[.int .i64 c0, .int .i64 c1] 24)
  replace XA1 := Lib.hid (XA1.out.grow hB)
  replace MA1 := Lib.hid (MA1.out.grow hB)
  replace HSS := Lib.hid (HSS.out.grow hB)
  replace HIN := Lib.hid ((hB.block w.heap.size (Array.getElem?_eq_some_iff.1 HIN.out).1).trans HIN.out)
  replace HT1 := Lib.hid (below_then HT1.out hB)
  replace XA1 := Lib.hid (XA1.out.grow hg)
  replace MA1 := Lib.hid (MA1.out.grow hg)
  replace HSS := Lib.hid (HSS.out.grow hg)
  replace HIN := Lib.hid ((hg.block w.heap.size (Array.getElem?_eq_some_iff.1 HIN.out).1).trans HIN.out)
  replace HT1 := Lib.hid (below_then HT1.out hg)
  have I8 := Lib.hid (IvC.new w3 c0 c1)
  clear hB hg
  obtain ⟨W3, hW3⟩ : ∃ W, w3.alloc (.cells #[.int .i64 c0, .int .i64 c1] 24) = W := ⟨_, rfl⟩
  rw [hW3] at XA1 MA1 HSS HIN HT1 I8
  have k0 := MA1.out.c0
  have k1 := MA1.out.c1
  have k2 := MA1.out.c2
  dsimp only at k0 k1 k2
  by_cases hE : Ent p q
  · obtain ⟨rfl, rfl⟩ := hE
    go_wp2_with (fail)
    try rw [hW3]
    clear hW3
    refine (r2ent_yes _).mono ?_
    rintro e w4 ⟨rfl, hB3⟩
    clear k0 k1 k2
    go_wp2_with (fail)
    go_ret
    exact ⟨rfl, below_then HT1.out hB3⟩
  have KE := Lib.hid (fun w => r2ent_no p q w hE)
  go_wp2_with (fail)
  try rw [hW3]
  clear hW3
  refine (KE.out _).mono ?_
  rintro e w4 ⟨rfl, hB⟩
  clear k0 k1 k2
  replace XA1 := Lib.hid (XA1.out.grow hB)
  replace MA1 := Lib.hid (MA1.out.grow hB)
  replace HSS := Lib.hid (HSS.out.grow hB)
  replace I8 := Lib.hid (I8.out.grow hB)
  replace HIN := Lib.hid ((hB.block w.heap.size (Array.getElem?_eq_some_iff.1 HIN.out).1).trans HIN.out)
  replace HT1 := Lib.hid (below_then HT1.out hB)
  clear hB KE
  have j0 := I8.out.c0
  have j1 := I8.out.c1
  dsimp only at j0 j1
  by_cases hF : Ent c0 c1
  · obtain ⟨rfl, rfl⟩ := hF
    go_wp2_with (fail)
    refine (r2ent_yes _).mono ?_
    rintro e w5 ⟨rfl, hB3⟩
    clear j0 j1
    go_wp2_with (fail)
    go_ret
    exact ⟨rfl, below_then HT1.out hB3⟩
  have KE := Lib.hid (fun w => r2ent_no c0 c1 w hF)
  go_wp2_with (fail)
  refine (KE.out _).mono ?_
  rintro e w5 ⟨rfl, hB⟩
  clear j0 j1
  replace XA1 := Lib.hid (XA1.out.grow hB)
  replace MA1 := Lib.hid (MA1.out.grow hB)
  replace HSS := Lib.hid (HSS.out.grow hB)
  replace I8 := Lib.hid (I8.out.grow hB)
  replace HIN := Lib.hid ((hB.block w.heap.size (Array.getElem?_eq_some_iff.1 HIN.out).1).trans HIN.out)
  replace HT1 := Lib.hid (below_then HT1.out hB)
  clear hB KE
  have vv := va.out
  unfold VB2 VI at vv
  have vn := vv.resolve_left hE
  have hpq := vn.2.2
  have nu1 := vn.1
  have nu2 := vn.2.1
  unfold Num at nu1 nu2
  dsimp only at nu1 nu2 hpq
  have hfr := frac_bd (d := q - p) (x := a0x) (by omega) HX.out
  obtain ⟨fV, hfV⟩ : ∃ f, (q - p) * a0x / 65535 = f := ⟨_, rfl⟩
  have bdV := Lib.hid (show p ≤ p + fV ∧ p + fV ≤ q by omega)
  have hvm : valM a0ls (l, (p, q)) a0x = cvS a0ls l + (p + fV) := by unfold valM; dsimp only; omega
  have SV := Lib.hid (show Six l from ev_six GA.out.1 GA.out.2.1)
  have KV := Lib.hid (fun u w h1 h2 => valat_ok u (.slice zs a0ls.length ds) l a0ls p q a0x w h1 h2 SV.out HS0.out.2 lna hpq (by omega) (by omega) HX.out)
  rw [hvm] at KV
  have cbV := cvS_bd a0ls l fun t ht => (tna.out t ht).2
  have un := (show Ent c0 c1 ∨ (Num c0 ∧ Num c1 ∧ c0 ≤ c1) from HV.out).resolve_left hF
  have g1 := un.1
  have g2 := un.2.1
  have g3 := un.2.2
  have hmc := half_num g1 g2 g3
  have cme := constM_eq g1 g2 g3
  unfold Num at g1 g2
  have hfy := frac_bd (d := c1 - c0) (x := a0y) (by omega) HY.out
  obtain ⟨G, hG⟩ : ∃ G, (c1 - c0) * a0y = G := ⟨_, rfl⟩
  rw [hG] at hfy
  obtain ⟨E, hE2⟩ : ∃ E, G / 65535 = E := ⟨_, rfl⟩
  obtain ⟨U, hU⟩ : ∃ U, c0 + E = U := ⟨_, rfl⟩
  have hy0 := HY.out
  have Y1 : IntKind.i64.wrap (c1 - c0) = c1 - c0 := wrap_i64 _ (by omega) (by omega)
  have Y2 : IntKind.i64.wrap a0y = a0y := wrap_i64 _ (by omega) (by omega)
  have Y3 : IntKind.i64.wrap ((c1 - c0) * a0y) = G := by rw [hG]; exact wrap_i64 _ (by omega) (by omega)
  have Y4 : G.tdiv 65535 = E := by rw [Int.tdiv_eq_ediv_of_nonneg hfy.1]; exact hE2
  have Y5 : IntKind.i64.wrap E = E := wrap_i64 _ (by omega) (by omega)
  have Y6 : IntKind.i64.wrap (c0 + E) = U := by rw [hU]; exact wrap_i64 _ (by omega) (by omega)
  have BU : c0 ≤ U ∧ U ≤ c1 := by omega
  obtain ⟨M, hM⟩ : ∃ M, midI (c0, c1) = M := ⟨_, rfl⟩
  have SC := Lib.hid (constM_six (c0 := c0) (c1 := c1) HV.out)
  rw [hM] at cme hmc
  have IM := Lib.hid (mulM_in a0ls (a := (l, (p, q))) (b := constM (c0, c1)) (y := U - M) 6 SV.out SC.out lna (constM_len _) bdV.out (by rw [cme]; dsimp only; omega))
  have cvc : cvS a0ls (constM (c0, c1)).1 + (U - M) = U := by rw [cme, cv_const]; omega
  rw [cvc] at IM
  have one : constM (65536, 65536) = ([(65536, [0, 0, 0, 0, 0, 0])], (0, 0)) := by decide
  have S1 := Lib.hid (constM_six (c0 := 65536) (c1 := 65536) (by decide))
  have IM1 := Lib.hid (mulM_in a0ls (a := (l, (p, q))) (b := constM (65536, 65536)) (y := 0) 6 SV.out S1.out lna (constM_len _) bdV.out (by rw [one]; decide))
  have cv1 : cvS a0ls (constM (65536, 65536)).1 + 0 = 65536 := by
    rw [show (constM (65536, 65536)).1 = constT 65536 by decide, cv_const]
    rfl
  rw [cv1] at IM1
  obtain ⟨V, hV⟩ : ∃ V, cvS a0ls l + (p + fV) = V := ⟨_, rfl⟩
  have bV := bdV.out
  have vab := vb_bdY va.out
  dsimp only at vab
  have BV : -1000000000000 ≤ V ∧ V ≤ 1000000000000 := by omega
  dsimp only at IM IM1
  rw [hV] at IM IM1 KV
  have FM := Lib.hid (mulM_full (a := (l, (p, q))) (b := constM (c0, c1)) 6 tna.out (fun t ht => ⟨(SC.out t ht).1, (SC.out t ht).2.1⟩) lna (constM_len _) va.out (constM_vb HV.out))
  have FO := Lib.hid (mulM_full (a := (l, (p, q))) (b := constM (65536, 65536)) 6 tna.out (fun t ht => ⟨(S1.out t ht).1, (S1.out t ht).2.1⟩) lna (constM_len _) va.out (constM_vb (by decide)))
  have KMu := Lib.hid (fun w h1 => tmuli_ok (.slice pa na ca) p q c0 c1 l w h1 tna.out lna va.out HV.out)
  have KMo := Lib.hid (fun w h1 => tmuli_ok (.slice pa na ca) p q 65536 65536 l w h1 tna.out lna va.out (by decide))
  obtain ⟨⟨N, n0, n1⟩, hN⟩ : ∃ R, mulM (l, (p, q)) (constM (c0, c1)) 6 = R := ⟨_, rfl⟩
  rw [hN] at KMu FM IM
  obtain ⟨⟨P, x0, x1⟩, hP⟩ : ∃ R, mulM (l, (p, q)) (constM (65536, 65536)) 6 = R := ⟨_, rfl⟩
  rw [hP] at KMo FO IM1
  dsimp only at KMu KMo IM IM1
  clear vv vn hpq nu1 nu2 hfr hfV hvm cbV un g1 g2 g3 hmc cme hfy hG hE2 hU hy0 hM cvc one cv1 hV bV vab hN hP bdV hE hF
  have k0 := MA1.out.c0
  have k1 := MA1.out.c1
  have k2 := MA1.out.c2
  dsimp only at k0 k1 k2
  have i6 := heapT_cell HIN.out (k := 6) rfl
  have i7 := heapT_cell HIN.out (k := 7) rfl
  go_wp2_with (fail)
  refine (KV.out _ _ XA1.out HSS.out).mono ?_
  rintro e w6 ⟨rfl, hB⟩
  clear k0 k1 k2 i6 i7 KV
  replace XA1 := Lib.hid (XA1.out.grow hB)
  replace MA1 := Lib.hid (MA1.out.grow hB)
  replace HSS := Lib.hid (HSS.out.grow hB)
  replace I8 := Lib.hid (I8.out.grow hB)
  replace HIN := Lib.hid ((hB.block w.heap.size (Array.getElem?_eq_some_iff.1 HIN.out).1).trans HIN.out)
  replace HT1 := Lib.hid (below_then HT1.out hB)
  clear hB
  have j0 := I8.out.c0
  have j1 := I8.out.c1
  dsimp only at j0 j1
  have i8 := heapT_cell HIN.out (k := 8) rfl
  go_wp2_with (fail)
  refine (moderate_ok V _).mono ?_
  rintro e w7 ⟨rfl, hB⟩
  clear j0 j1 i8
  replace XA1 := Lib.hid (XA1.out.grow hB)
  replace MA1 := Lib.hid (MA1.out.grow hB)
  replace HSS := Lib.hid (HSS.out.grow hB)
  replace I8 := Lib.hid (I8.out.grow hB)
  replace HIN := Lib.hid ((hB.block w.heap.size (Array.getElem?_eq_some_iff.1 HIN.out).1).trans HIN.out)
  replace HT1 := Lib.hid (below_then HT1.out hB)
  clear hB
  cases hm1 : (decide (V ≤ 536870912) && decide (-536870912 ≤ V)) with
  | false =>
    clear hm1
    go_wp2_with (fail)
    go_ret
    exact ⟨rfl, HT1.out⟩
  | true =>
  go_wp2_with (fail)
  refine (moderate_ok U _).mono ?_
  rintro e w8 ⟨rfl, hB⟩
  replace XA1 := Lib.hid (XA1.out.grow hB)
  replace MA1 := Lib.hid (MA1.out.grow hB)
  replace HSS := Lib.hid (HSS.out.grow hB)
  replace I8 := Lib.hid (I8.out.grow hB)
  replace HIN := Lib.hid ((hB.block w.heap.size (Array.getElem?_eq_some_iff.1 HIN.out).1).trans HIN.out)
  replace HT1 := Lib.hid (below_then HT1.out hB)
  clear hB
  cases hm2 : (decide (U ≤ 536870912) && decide (-536870912 ≤ U)) with
  | false =>
    clear hm1 hm2
    go_wp2_with (fail)
    go_ret
    exact ⟨rfl, HT1.out⟩
  | true =>
  simp only [Bool.and_eq_true, decide_eq_true_eq] at hm1 hm2
  have W2 : IntKind.i64.wrap (V * 65536) = V * 65536 := wrap_i64 _ (by omega) (by omega)
  have hpr := prod_in6 (x := V) (y := U) (i := -536870912) (j := 536870912) (k := -536870912) (l := 536870912) (by omega) (by omega) (by omega) (by omega)
  have W5 : IntKind.i64.wrap (V * U) = V * U := by
    have e1 : mn4 (-536870912) 536870912 (-536870912) 536870912 = -288230376151711744 := by decide
    have e2 : mx4 (-536870912) 536870912 (-536870912) 536870912 = 288230376151711744 := by decide
    rw [e1, e2] at hpr
    exact wrap_i64 _ (by omega) (by omega)
  have bM := vb_bdY FM.out.2.2.1
  have bO := vb_bdY FO.out.2.2.1
  dsimp only at bM bO
  have KH1 := Lib.hid (fun (u : Value) w h1 h2 => hv_ok u (.slice zs a0ls.length ds) N a0ls n0 n1 (V * U) true w h1 h2 (ev_six FM.out.1 FM.out.2.1) HS0.out.2 FM.out.1.2.1 bM ⟨fun _ => IM.out, fun _ => rfl⟩)
  have KH2 := Lib.hid (fun (u : Value) w h1 h2 => hv_ok u (.slice zs a0ls.length ds) P a0ls x0 x1 (V * 65536) true w h1 h2 (ev_six FO.out.1 FO.out.2.1) HS0.out.2 FO.out.1.2.1 bO ⟨fun _ => IM1.out, fun _ => rfl⟩)
  have KSp := Lib.hid (fun w => spanc 1 1 65536 65536 w (by decide) (by decide) (by decide) (by decide))
  clear hpr hm1 hm2 bM bO BV BU Y1 Y2 Y3 Y4 Y5 Y6
  go_wp2_with (fail)
  have k0 := fun g : Grown w8 => (MA1.out.grow g.h).c0
  have k1 := fun g : Grown w8 => (MA1.out.grow g.h).c1
  have k2 := fun g : Grown w8 => (MA1.out.grow g.h).c2
  have j0 := fun g : Grown w8 => (I8.out.grow g.h).c0
  have j1 := fun g : Grown w8 => (I8.out.grow g.h).c1
  have i6 := fun g : Grown w8 => heapT_cell ((g.h.block w.heap.size (Array.getElem?_eq_some_iff.1 HIN.out).1).trans HIN.out) (k := 6) rfl
  dsimp only at k0 k1 k2 j0 j1
  refine region_pred (lk [(55, fun z_ _ => z_ = .bool true), (56, fun z_ _ => z_ = .bool true), (57, fun z_ _ => z_ = .agg #[.slice pa na ca, .int .i64 p, .int .i64 q]), (58, fun z_ _ => z_ = .agg #[.int .i64 c0, .int .i64 c1]), (59, fun z_ w' => ∃ p_ n_ c_, z_ = .agg #[.slice p_ n_ c_, .int .i64 n0, .int .i64 n1] ∧ Tx w' (.slice p_ n_ c_) N ∧ CapOk (.slice p_ n_ c_)), (60, fun z_ _ => z_ = .pointer (some ⟨w.heap.size, 6, none⟩)), (61, fun z_ _ => z_ = (.slice zs a0ls.length ds)), (62, fun z_ _ => z_ = .int .i64 V), (63, fun z_ _ => z_ = .int .i64 U), (64, fun z_ _ => z_ = .int .i64 (V * U)), (65, fun z_ _ => z_ = .bool true), (66, fun z_ _ => z_ = .bool true), (67, fun z_ _ => z_ = .bool true), (68, fun z_ _ => z_ = .agg #[.slice pa na ca, .int .i64 p, .int .i64 q]), (69, fun z_ _ => z_ = .agg #[.int .i64 65536, .int .i64 65536]), (70, fun z_ w' => ∃ p_ n_ c_, z_ = .agg #[.slice p_ n_ c_, .int .i64 x0, .int .i64 x1] ∧ Tx w' (.slice p_ n_ c_) P ∧ CapOk (.slice p_ n_ c_)), (71, fun z_ _ => z_ = .pointer (some ⟨w.heap.size, 6, none⟩)), (72, fun z_ _ => z_ = (.slice zs a0ls.length ds)), (73, fun z_ _ => z_ = .int .i64 V), (74, fun z_ _ => z_ = .int .i64 (V * 65536)), (75, fun z_ _ => z_ = .bool true), (76, fun z_ _ => z_ = .bool true), (4, fun z_ _ => z_ = .bool true)]) (by kernel_rfl) (by kernel_rfl) (lk_steady _ ⟨steady_eq _, steady_eq _, steady_eq _, steady_eq _, fun u w1 w2 hb ⟨p, n, c, e, h1, h2⟩ => ⟨p, n, c, e, h1.grow hb, h2⟩, steady_eq _, steady_eq _, steady_eq _, steady_eq _, steady_eq _, steady_eq _, steady_eq _, steady_eq _, steady_eq _, steady_eq _, fun u w1 w2 hb ⟨p, n, c, e, h1, h2⟩ => ⟨p, n, c, e, h1.grow hb, h2⟩, steady_eq _, steady_eq _, steady_eq _, steady_eq _, steady_eq _, steady_eq _, steady_eq _, trivial⟩) ?_ ?_
  · refine ⟨?_, ?_, ?_, ?_, ?_, ?_, ?_, ?_, ?_, ?_, ?_, ?_, ?_, ?_, ?_, ?_, ?_, ?_, ?_, ?_, ?_, ?_, ?_, trivial⟩
    · refine ob_plain [5] rfl rfl fun aa g h => ?_
      have yy0 := seen_out (v := .bool true) rfl rfl h.1
      have ee0 := getD_of yy0
      exact tupon_value (v := .bool true) (by simp [go_sem, ee0, yy0]) (Below.refl _ _) rfl
    · refine ob_plain [55] rfl rfl fun aa g h => ?_
      obtain ⟨_, yy0, rfl⟩ := seen_in rfl h.1
      have ee0 := getD_of yy0
      exact tupon_value (v := .bool true) (by simp [go_sem, ee0, yy0]) (Below.refl _ _) rfl
    · refine ob_gtrue [6] _ true 56 rfl rfl rfl rfl (fun v w h => h) fun aa g h => ?_
      have yy0 := seen_out (v := .pointer (some ⟨w2.heap.size, 0, none⟩)) rfl rfl h.1
      have ee0 := getD_of yy0
      exact tupon_value (v := .agg #[.slice pa na ca, .int .i64 p, .int .i64 q]) (by simp [go_sem, ee0, yy0, k0 g, k1 g, k2 g]) (Below.refl _ _) rfl
    · refine ob_gtrue [8] _ true 56 rfl rfl rfl rfl (fun v w h => h) fun aa g h => ?_
      have yy0 := seen_out (v := .pointer (some ⟨w3.heap.size, 0, none⟩)) rfl rfl h.1
      have ee0 := getD_of yy0
      exact tupon_value (v := .agg #[.int .i64 c0, .int .i64 c1]) (by simp [go_sem, ee0, yy0, j0 g, j1 g]) (Below.refl _ _) rfl
    · refine ob_gtrue [57, 58] _ true 56 rfl rfl rfl rfl (fun v w h => h) fun aa g h => ?_
      obtain ⟨_, yy0, rfl⟩ := seen_in rfl h.1
      have ee0 := getD_of yy0
      obtain ⟨_, yy1, rfl⟩ := seen_in rfl h.2.1
      have ee1 := getD_of yy1
      refine tupon_enter (f := 25) (args := #[.agg #[.slice pa na ca, .int .i64 p, .int .i64 q], .agg #[.int .i64 c0, .int .i64 c1]]) (by simp [go_sem, ee0, yy0, ee1, yy1]) rfl ?_
      exact (KMu.out g.w (XA1.out.grow g.h)).mono fun e w' ⟨r, he, hx, hc, hB⟩ => ⟨_, he, hB, (by obtain ⟨p, n, c, e1, e2⟩ := hc; subst e1; exact ⟨p, n, c, rfl, hx, ⟨p, n, c, rfl, e2⟩⟩)⟩
    · refine ob_gtrue [2] _ true 56 rfl rfl rfl rfl (fun v w h => h) fun aa g h => ?_
      have yy0 := seen_out (v := .pointer (some ⟨w.heap.size, 0, none⟩)) rfl rfl h.1
      have ee0 := getD_of yy0
      exact tupon_value (v := .pointer (some ⟨w.heap.size, 6, none⟩)) (by simp [go_sem, ee0, yy0]) (Below.refl _ _) rfl
    · refine ob_gtrue [60] _ true 56 rfl rfl rfl rfl (fun v w h => h) fun aa g h => ?_
      obtain ⟨_, yy0, rfl⟩ := seen_in rfl h.1
      have ee0 := getD_of yy0
      exact tupon_value (v := (.slice zs a0ls.length ds)) (by simp [go_sem, ee0, yy0, i6 g]) (Below.refl _ _) rfl
    · refine ob_gtrue [9] _ true 56 rfl rfl rfl rfl (fun v w h => h) fun aa g h => ?_
      have yy0 := seen_out (v := .int .i64 V) rfl rfl h.1
      have ee0 := getD_of yy0
      exact tupon_value (v := .int .i64 V) (by simp [go_sem, ee0, yy0]) (Below.refl _ _) rfl
    · refine ob_gtrue [10] _ true 56 rfl rfl rfl rfl (fun v w h => h) fun aa g h => ?_
      have yy0 := seen_out (v := .int .i64 U) rfl rfl h.1
      have ee0 := getD_of yy0
      exact tupon_value (v := .int .i64 U) (by simp [go_sem, ee0, yy0]) (Below.refl _ _) rfl
    · refine ob_gtrue [62, 63] _ true 56 rfl rfl rfl rfl (fun v w h => h) fun aa g h => ?_
      obtain ⟨_, yy0, rfl⟩ := seen_in rfl h.1
      have ee0 := getD_of yy0
      obtain ⟨_, yy1, rfl⟩ := seen_in rfl h.2.1
      have ee1 := getD_of yy1
      exact tupon_value (v := .int .i64 (V * U)) (by simp [go_sem, ee0, yy0, ee1, yy1, W5]) (Below.refl _ _) rfl
    · refine ob_gtrue [59, 61, 64] _ true 56 rfl rfl rfl rfl (fun v w h => h) fun aa g h => ?_
      obtain ⟨_, yy0, ⟨p59, n59, c59, rfl, tx59, cp59⟩⟩ := seen_in rfl h.1
      have ee0 := getD_of yy0
      obtain ⟨_, yy1, rfl⟩ := seen_in rfl h.2.1
      have ee1 := getD_of yy1
      obtain ⟨_, yy2, rfl⟩ := seen_in rfl h.2.2.1
      have ee2 := getD_of yy2
      refine tupon_enter (f := 42) (args := #[.agg #[.slice p59 n59 c59, .int .i64 n0, .int .i64 n1], (.slice zs a0ls.length ds), .int .i64 (V * U)]) (by simp [go_sem, ee0, yy0, ee1, yy1, ee2, yy2]) rfl ?_
      exact (KH1.out (.slice p59 n59 c59) g.w tx59 (HSS.out.grow g.h)).mono fun e w' ⟨he, hB⟩ => ⟨_, he, hB, rfl⟩
    · refine ob_plain [56, 65] rfl rfl fun aa g h => ?_
      obtain ⟨_, yy0, rfl⟩ := seen_in rfl h.1
      have ee0 := getD_of yy0
      obtain ⟨_, yy1, rfl⟩ := seen_in rfl h.2.1
      have ee1 := getD_of yy1
      exact tupon_value (v := .bool true) (by simp [go_sem, ee0, yy0, ee1, yy1]) (Below.refl _ _) rfl
    · refine ob_plain [66] rfl rfl fun aa g h => ?_
      obtain ⟨_, yy0, rfl⟩ := seen_in rfl h.1
      have ee0 := getD_of yy0
      exact tupon_value (v := .bool true) (by simp [go_sem, ee0, yy0]) (Below.refl _ _) rfl
    · refine ob_gtrue [6] _ true 67 rfl rfl rfl rfl (fun v w h => h) fun aa g h => ?_
      have yy0 := seen_out (v := .pointer (some ⟨w2.heap.size, 0, none⟩)) rfl rfl h.1
      have ee0 := getD_of yy0
      exact tupon_value (v := .agg #[.slice pa na ca, .int .i64 p, .int .i64 q]) (by simp [go_sem, ee0, yy0, k0 g, k1 g, k2 g]) (Below.refl _ _) rfl
    · refine ob_gtrue [] _ true 67 rfl rfl rfl rfl (fun v w h => h) fun aa g h => ?_
      refine tupon_enter (f := 43) (args := #[.int .i64 1, .int .i64 1]) (by simp [go_sem]) rfl ?_
      exact (KSp.out g.w).mono fun e w' ⟨he, hB⟩ => ⟨_, he, hB, rfl⟩
    · refine ob_gtrue [68, 69] _ true 67 rfl rfl rfl rfl (fun v w h => h) fun aa g h => ?_
      obtain ⟨_, yy0, rfl⟩ := seen_in rfl h.1
      have ee0 := getD_of yy0
      obtain ⟨_, yy1, rfl⟩ := seen_in rfl h.2.1
      have ee1 := getD_of yy1
      refine tupon_enter (f := 25) (args := #[.agg #[.slice pa na ca, .int .i64 p, .int .i64 q], .agg #[.int .i64 65536, .int .i64 65536]]) (by simp [go_sem, ee0, yy0, ee1, yy1]) rfl ?_
      exact (KMo.out g.w (XA1.out.grow g.h)).mono fun e w' ⟨r, he, hx, hc, hB⟩ => ⟨_, he, hB, (by obtain ⟨p, n, c, e1, e2⟩ := hc; subst e1; exact ⟨p, n, c, rfl, hx, ⟨p, n, c, rfl, e2⟩⟩)⟩
    · refine ob_gtrue [2] _ true 67 rfl rfl rfl rfl (fun v w h => h) fun aa g h => ?_
      have yy0 := seen_out (v := .pointer (some ⟨w.heap.size, 0, none⟩)) rfl rfl h.1
      have ee0 := getD_of yy0
      exact tupon_value (v := .pointer (some ⟨w.heap.size, 6, none⟩)) (by simp [go_sem, ee0, yy0]) (Below.refl _ _) rfl
    · refine ob_gtrue [71] _ true 67 rfl rfl rfl rfl (fun v w h => h) fun aa g h => ?_
      obtain ⟨_, yy0, rfl⟩ := seen_in rfl h.1
      have ee0 := getD_of yy0
      exact tupon_value (v := (.slice zs a0ls.length ds)) (by simp [go_sem, ee0, yy0, i6 g]) (Below.refl _ _) rfl
    · refine ob_gtrue [9] _ true 67 rfl rfl rfl rfl (fun v w h => h) fun aa g h => ?_
      have yy0 := seen_out (v := .int .i64 V) rfl rfl h.1
      have ee0 := getD_of yy0
      exact tupon_value (v := .int .i64 V) (by simp [go_sem, ee0, yy0]) (Below.refl _ _) rfl
    · refine ob_gtrue [73] _ true 67 rfl rfl rfl rfl (fun v w h => h) fun aa g h => ?_
      obtain ⟨_, yy0, rfl⟩ := seen_in rfl h.1
      have ee0 := getD_of yy0
      exact tupon_value (v := .int .i64 (V * 65536)) (by simp [go_sem, ee0, yy0, W2]) (Below.refl _ _) rfl
    · refine ob_gtrue [70, 72, 74] _ true 67 rfl rfl rfl rfl (fun v w h => h) fun aa g h => ?_
      obtain ⟨_, yy0, ⟨p70, n70, c70, rfl, tx70, cp70⟩⟩ := seen_in rfl h.1
      have ee0 := getD_of yy0
      obtain ⟨_, yy1, rfl⟩ := seen_in rfl h.2.1
      have ee1 := getD_of yy1
      obtain ⟨_, yy2, rfl⟩ := seen_in rfl h.2.2.1
      have ee2 := getD_of yy2
      refine tupon_enter (f := 42) (args := #[.agg #[.slice p70 n70 c70, .int .i64 x0, .int .i64 x1], (.slice zs a0ls.length ds), .int .i64 (V * 65536)]) (by simp [go_sem, ee0, yy0, ee1, yy1, ee2, yy2]) rfl ?_
      exact (KH2.out (.slice p70 n70 c70) g.w tx70 (HSS.out.grow g.h)).mono fun e w' ⟨he, hB⟩ => ⟨_, he, hB, rfl⟩
    · refine ob_plain [67, 75] rfl rfl fun aa g h => ?_
      obtain ⟨_, yy0, rfl⟩ := seen_in rfl h.1
      have ee0 := getD_of yy0
      obtain ⟨_, yy1, rfl⟩ := seen_in rfl h.2.1
      have ee1 := getD_of yy1
      exact tupon_value (v := .bool true) (by simp [go_sem, ee0, yy0, ee1, yy1]) (Below.refl _ _) rfl
    · refine ob_plain [76] rfl rfl fun aa g h => ?_
      obtain ⟨_, yy0, rfl⟩ := seen_in rfl h.1
      have ee0 := getD_of yy0
      exact tupon_value (v := .bool true) (by simp [go_sem, ee0, yy0]) (Below.refl _ _) rfl
  rintro w9 hB9 _ rfl _ rfl _ rfl _ rfl _ ⟨p59, n59, c59, rfl, tx59, cp59⟩ _ rfl _ rfl _ rfl _ rfl _ rfl _ rfl _ rfl _ rfl _ rfl _ rfl _ ⟨p70, n70, c70, rfl, tx70, cp70⟩ _ rfl _ rfl _ rfl _ rfl _ rfl _ rfl _ rfl
  simp only [Act.put, List.setIfInBounds_toArray, List.set_cons_succ, List.set_cons_zero, List.filterMap_nil, finP]
  clear k0 k1 k2 j0 j1 i6
  go_wp2_with (fail)
  go_ret
  exact ⟨rfl, below_then HT1.out hB9⟩
end Go.Proofs.YtbfhmbadgbackaaGreat
