/-
  The law TaylorInclusion.
-/
import Derived.Test.YtbfhmbadgbackaaGreatSan6
import Derived.Test.YtbfhmbadgbackaaGreatYl
namespace Go.Proofs.YtbfhmbadgbackaaGreat
open Go.ChangeShapes Go.WideShapes Go.ChangeAt Go.RowKit
set_option linter.unusedVariables false
set_option linter.unusedSimpArgs false
set_option maxRecDepth 100000

attribute [local irreducible] Calls

theorem moderate_ok (x : Int) (w : World) :
    Calls Tryz.prog 41 #[.int .i64 x] w fun e w' => e = .returned (.bool (decide (x ≤ 536870912) && decide (-536870912 ≤ x))) ∧ Below w.heap.size w w' := by
  cases h1 : decide (x ≤ 536870912) with
  | false =>
    go_enter Tryz.func41, Tryz.ntmps41
    go_wp2_with (fail)
    go_ret
    exact ⟨rfl, Below.refl _ _⟩
  | true =>
    have h2 : decide (x ≥ -536870912) = decide (-536870912 ≤ x) := rfl
    go_enter Tryz.func41, Tryz.ntmps41
    go_wp2_with (fail)
    go_ret
    refine ⟨?_, Below.refl _ _⟩
    simp
set_option maxHeartbeats 64000000 in
theorem tincl (w : World) (a0A a0B a0S : Value) (a0p a0q a0r a0s a0x a0y : Int) (a0la a0lb : List Tm) (a0ls : List Int) (h0A : Tx w a0A a0la ∧ ∀ t ∈ a0la, TV t) (h0p : -9223372036854775808 ≤ a0p ∧ a0p ≤ 9223372036854775807) (h0q : -9223372036854775808 ≤ a0q ∧ a0q ≤ 9223372036854775807) (h0B : Tx w a0B a0lb ∧ ∀ t ∈ a0lb, TV t) (h0r : -9223372036854775808 ≤ a0r ∧ a0r ≤ 9223372036854775807) (h0s : -9223372036854775808 ≤ a0s ∧ a0s ≤ 9223372036854775807) (h0S : S8 w a0S a0ls ∧ ∀ x ∈ a0ls, -128 ≤ x ∧ x ≤ 127) (h0x : 0 ≤ a0x ∧ a0x ≤ 65535) (h0y : 0 ≤ a0y ∧ a0y ≤ 65535) (a1 : Int) (w1 : (Lit.int .u8 a1).wf = true) :
    Calls Tryz.prog 5 #[.agg #[a0A, .int .i64 a0p, .int .i64 a0q, a0B, .int .i64 a0r, .int .i64 a0s, a0S, .int .u16 a0x, .int .u16 a0y], .int .u8 a1] w fun e w' => e = .returned (.bool true) ∧ Below w.heap.size w w' := by
  have b1 := bounds_u8 w1
  have b10 : 0 ≤ a1 := b1.1
  have T7 : a1.tmod 7 = a1 % 7 := Int.tmod_eq_emod_of_nonneg b10
  obtain ⟨d, hd⟩ : ∃ d, a1 % 7 = d := ⟨_, rfl⟩
  have hd0 : 0 ≤ d := by omega
  have hd6 : d ≤ 6 := by omega
  rw [hd] at T7
  have Wd : IntKind.i64.wrap d = d := wrap_i64 _ (by omega) (by omega)
  have HX := Lib.hid h0x
  have HY := Lib.hid h0y
  have HS0 := Lib.hid h0S
  clear b1 w1 hd b10
  have hba : Below w.heap.size w (w.alloc (.cells #[a0A, .int .i64 a0p, .int .i64 a0q, a0B, .int .i64 a0r, .int .i64 a0s, a0S, .int .u16 a0x, .int .u16 a0y] 30)) := (Below.refl _ _).alloc (Nat.le_refl _) _
  have hI : (w.alloc (.cells #[a0A, .int .i64 a0p, .int .i64 a0q, a0B, .int .i64 a0r, .int .i64 a0s, a0S, .int .u16 a0x, .int .u16 a0y] 30)).heap[w.heap.size]? = some (.cells #[a0A, .int .i64 a0p, .int .i64 a0q, a0B, .int .i64 a0r, .int .i64 a0s, a0S, .int .u16 a0x, .int .u16 a0y] 30 (0, 0)) := World.alloc_heap_new w _
  have HI := Lib.hid hI
  have HBA := Lib.hid hba
  have KM := Lib.hid (fun w hA hB => models_ok a0A a0B a0S a0p a0q a0r a0s a0x a0y a0la a0lb w ⟨hA, h0A.2⟩ h0p h0q ⟨hB, h0B.2⟩ h0r h0s)
  have HA := Lib.hid h0A.1
  have HB := Lib.hid h0B.1
  clear h0A h0p h0q h0B h0r h0s h0S h0x h0y hba hI
  go_enter Tryz.func5, Tryz.ntmps5
  go_wp2_with (fail)
  generalize hW0 : World.alloc w _ = W0 at *
  clear hW0
  refine (sanity6 _).mono ?_
  rintro e w1 ⟨rfl, hB1⟩
  have hT1 := below_then HBA.out hB1
  have hI1 := (hB1.block w.heap.size (Array.getElem?_eq_some_iff.1 HI.out).1).trans HI.out
  have k0 := heapT_cell hI1 (k := 0) rfl
  have k1 := heapT_cell hI1 (k := 1) rfl
  have k2 := heapT_cell hI1 (k := 2) rfl
  have k3 := heapT_cell hI1 (k := 3) rfl
  have k4 := heapT_cell hI1 (k := 4) rfl
  have k5 := heapT_cell hI1 (k := 5) rfl
  have k6 := heapT_cell hI1 (k := 6) rfl
  have k7 := heapT_cell hI1 (k := 7) rfl
  have k8 := heapT_cell hI1 (k := 8) rfl
  have hI1' := Lib.hid hI1
  clear hI1
  go_wp2_with (fail)
  refine (KM.out w1 (HA.out.grow hT1) (HB.out.grow hT1)).mono ?_
  rintro e w2 ⟨ra, l, p, q, rb, m, r, s, rfl, txa, ⟨pa, na, ca, rfl, hca1, hca2⟩, ga, txb, ⟨pb, nb, cb, rfl, hcb1, hcb2⟩, gb, hB2⟩
  have hT2 := below_then hT1 hB2
  clear k0 k1 k2 k3 k4 k5 k6 k7 k8 hB1 hT1
  have CA : Hid (CapOk (.slice pa na ca)) := Lib.hid ⟨pa, na, ca, rfl, hca1, hca2⟩
  have CB : Hid (CapOk (.slice pb nb cb)) := Lib.hid ⟨pb, nb, cb, rfl, hcb1, hcb2⟩
  have GA := Lib.hid ga
  have GB := Lib.hid gb
  have XA := Lib.hid txa
  have XB := Lib.hid txb
  have HT := Lib.hid hT2
  have HIN := Lib.hid ((hB2.block w.heap.size (Array.getElem?_eq_some_iff.1 hI1'.out).1).trans hI1'.out)
  have HSS := Lib.hid (HS0.out.1.grow hT2)
  clear hca1 hca2 hcb1 hcb2 ga gb txa txb hT2 hB2 HI HA HB HBA KM hI1'
  go_wp2_with (fail)
  have XA1 := Lib.hid ((XA.out.grow ((Below.refl w2.heap.size w2).alloc (Nat.le_refl _) (.cells #[.slice pa na ca, .int .i64 p, .int .i64 q] 26))).grow ((Below.refl _ _).alloc (Nat.le_refl _) (.cells #[.slice pb nb cb, .int .i64 r, .int .i64 s] 26)))
  have XB1 := Lib.hid ((XB.out.grow ((Below.refl w2.heap.size w2).alloc (Nat.le_refl _) (.cells #[.slice pa na ca, .int .i64 p, .int .i64 q] 26))).grow ((Below.refl _ _).alloc (Nat.le_refl _) (.cells #[.slice pb nb cb, .int .i64 r, .int .i64 s] 26)))
  have MA1 := Lib.hid ((MoC.new w2 (.slice pa na ca) p q).alloc (.cells #[.slice pb nb cb, .int .i64 r, .int .i64 s] 26))
  have MB1 := Lib.hid (by have e := MoC.new (w2.alloc (.cells #[.slice pa na ca, .int .i64 p, .int .i64 q] 26)) (.slice pb nb cb) r s; rw [World.size_alloc] at e; exact e)
  have HT1 := Lib.hid (((HT.out).alloc HT.out.size (.cells #[.slice pa na ca, .int .i64 p, .int .i64 q] 26)).alloc (by have := HT.out.size; simp; omega) (.cells #[.slice pb nb cb, .int .i64 r, .int .i64 s] 26))
  have hgI := (((Below.refl w2.heap.size w2).alloc (Nat.le_refl _) (.cells #[.slice pa na ca, .int .i64 p, .int .i64 q] 26)).alloc (by simp) (.cells #[.slice pb nb cb, .int .i64 r, .int .i64 s] 26))
  have HIN := Lib.hid ((hgI.block w.heap.size (Array.getElem?_eq_some_iff.1 HIN.out).1).trans HIN.out)
  have HSS := Lib.hid (HSS.out.grow hgI)
  clear XA XB HT hgI
  generalize hW1 : World.alloc (World.alloc w2 _) _ = W1 at *
  clear hW1
  have tna := Lib.hid (goodm_tn GA.out)
  have tnb := Lib.hid (goodm_tn GB.out)
  have lna : l.length ≤ 100 := goodm_len GA.out
  have lnb : m.length ≤ 100 := goodm_len GB.out
  have va := Lib.hid GA.out.2.2.1
  have vb := Lib.hid GB.out.2.2.1
  obtain ⟨zs, ds, hzs⟩ : ∃ p c, a0S = .slice p a0ls.length c := ⟨_, _, HS0.out.1.2.choose_spec.choose_spec.1⟩
  subst hzs
  by_cases hE : Ent p q
  · obtain ⟨rfl, rfl⟩ := hE
    refine (r2ent_yes _).mono ?_
    rintro e w3 ⟨rfl, hB3⟩
    go_wp2_with (fail)
    go_ret
    exact ⟨rfl, below_then HT1.out hB3⟩
  have KE := Lib.hid (fun w => r2ent_no p q w hE)
  refine (KE.out _).mono ?_
  rintro e w3 ⟨rfl, hB⟩
  replace XA1 := Lib.hid (XA1.out.grow hB)
  replace XB1 := Lib.hid (XB1.out.grow hB)
  replace MA1 := Lib.hid (MA1.out.grow hB)
  replace MB1 := Lib.hid (MB1.out.grow hB)
  replace HSS := Lib.hid (HSS.out.grow hB)
  replace HIN := Lib.hid ((hB.block w.heap.size (Array.getElem?_eq_some_iff.1 HIN.out).1).trans HIN.out)
  replace HT1 := Lib.hid (below_then HT1.out hB)
  clear hB KE
  have j0 := MB1.out.c0
  have j1 := MB1.out.c1
  have j2 := MB1.out.c2
  dsimp only at j0 j1 j2
  by_cases hF : Ent r s
  · obtain ⟨rfl, rfl⟩ := hF
    go_wp2_with (fail)
    refine (r2ent_yes _).mono ?_
    rintro e w4 ⟨rfl, hB3⟩
    clear j0 j1 j2
    go_wp2_with (fail)
    go_ret
    exact ⟨rfl, below_then HT1.out hB3⟩
  have KE := Lib.hid (fun w => r2ent_no r s w hF)
  go_wp2_with (fail)
  refine (KE.out _).mono ?_
  rintro e w4 ⟨rfl, hB⟩
  replace XA1 := Lib.hid (XA1.out.grow hB)
  replace XB1 := Lib.hid (XB1.out.grow hB)
  replace MA1 := Lib.hid (MA1.out.grow hB)
  replace MB1 := Lib.hid (MB1.out.grow hB)
  replace HSS := Lib.hid (HSS.out.grow hB)
  replace HIN := Lib.hid ((hB.block w.heap.size (Array.getElem?_eq_some_iff.1 HIN.out).1).trans HIN.out)
  replace HT1 := Lib.hid (below_then HT1.out hB)
  clear hB KE j0 j1 j2
  have vv := va.out
  unfold VB2 VI at vv
  have vn := vv.resolve_left hE
  have hpq := vn.2.2
  have n1 := vn.1
  have n2 := vn.2.1
  unfold Num at n1 n2
  dsimp only at n1 n2 hpq
  have hfr := frac_bd (d := q - p) (x := a0x) (by omega) HX.out
  obtain ⟨fV, hfV⟩ : ∃ f, (q - p) * a0x / 65535 = f := ⟨_, rfl⟩
  have bdV := Lib.hid (show p ≤ p + fV ∧ p + fV ≤ q by omega)
  have hvm : valM a0ls (l, (p, q)) a0x = cvS a0ls l + (p + fV) := by unfold valM; dsimp only; omega
  have SV := Lib.hid (show Six l from ev_six GA.out.1 GA.out.2.1)
  have KV := Lib.hid (fun u w h1 h2 => valat_ok u (.slice zs a0ls.length ds) l a0ls p q a0x w h1 h2 SV.out HS0.out.2 lna hpq (by omega) (by omega) HX.out)
  rw [hvm] at KV
  have cbV := cvS_bd a0ls l fun t ht => (tna.out t ht).2
  clear vv vn hpq n1 n2 hfr hfV hvm
  have vv := vb.out
  unfold VB2 VI at vv
  have vn := vv.resolve_left hF
  have hpq := vn.2.2
  have n1 := vn.1
  have n2 := vn.2.1
  unfold Num at n1 n2
  dsimp only at n1 n2 hpq
  have hfr := frac_bd (d := s - r) (x := a0y) (by omega) HY.out
  obtain ⟨fU, hfU⟩ : ∃ f, (s - r) * a0y / 65535 = f := ⟨_, rfl⟩
  have bdU := Lib.hid (show r ≤ r + fU ∧ r + fU ≤ s by omega)
  have hvm : valM a0ls (m, (r, s)) a0y = cvS a0ls m + (r + fU) := by unfold valM; dsimp only; omega
  have SU := Lib.hid (show Six m from ev_six GB.out.1 GB.out.2.1)
  have KU := Lib.hid (fun u w h1 h2 => valat_ok u (.slice zs a0ls.length ds) m a0ls r s a0y w h1 h2 SU.out HS0.out.2 lnb hpq (by omega) (by omega) HY.out)
  rw [hvm] at KU
  have cbU := cvS_bd a0ls m fun t ht => (tnb.out t ht).2
  clear vv vn hpq n1 n2 hfr hfU hvm
  have IA := Lib.hid (addM_in a0ls (a := (l, (p, q))) (b := (m, (r, s))) tna.out tnb.out bdV.out bdU.out)
  have IS := Lib.hid (addM_in a0ls (a := (l, (p, q))) (b := negM (m, (r, s))) (y := -(r + fU)) tna.out (neg_tn tnb.out) bdV.out (show -s ≤ -(r + fU) ∧ -(r + fU) ≤ -r by have := bdU.out; omega))
  have IM := Lib.hid (mulM_in a0ls (a := (l, (p, q))) (b := (m, (r, s))) d SV.out SU.out lna lnb bdV.out bdU.out)
  have cn : cvS a0ls (negM (m, (r, s))).1 = -cvS a0ls m := by
    show cvS a0ls (negT m) = _
    have h := merge_cv a0ls m (negT m)
    rw [merge_neg] at h
    rw [show cvS a0ls [] = 0 from rfl] at h
    omega
  rw [cn] at IS
  obtain ⟨V, hV⟩ : ∃ V, cvS a0ls l + (p + fV) = V := ⟨_, rfl⟩
  obtain ⟨U, hU⟩ : ∃ U, cvS a0ls m + (r + fU) = U := ⟨_, rfl⟩
  have bV := bdV.out
  have bU := bdU.out
  have vab := vb_bdY va.out
  have vbb := vb_bdY vb.out
  dsimp only at vab vbb
  have BV : -1000000000000 ≤ V ∧ V ≤ 1000000000000 := by omega
  have BU : -1000000000000 ≤ U ∧ U ≤ 1000000000000 := by omega
  have IS2 : Hid (Ent (addM (l, (p, q)) (negM (m, (r, s)))).2.1 (addM (l, (p, q)) (negM (m, (r, s)))).2.2 ∨ cvS a0ls (addM (l, (p, q)) (negM (m, (r, s)))).1 + (addM (l, (p, q)) (negM (m, (r, s)))).2.1 ≤ V - U ∧ V - U ≤ cvS a0ls (addM (l, (p, q)) (negM (m, (r, s)))).1 + (addM (l, (p, q)) (negM (m, (r, s)))).2.2) := Lib.hid (by
    have h := IS.out
    dsimp only at h
    rw [hV, show -cvS a0ls m + -(r + fU) = -U by omega] at h
    rw [Int.sub_eq_add_neg]
    exact h)
  dsimp only at IA IM
  rw [hV, hU] at IA IM
  rw [hV] at KV
  rw [hU] at KU
  have FA := Lib.hid (addM_full (a := (l, (p, q))) (b := (m, (r, s))) GA.out.1 GB.out.1 tna.out tnb.out va.out vb.out)
  have FS := Lib.hid (addM_full (a := (l, (p, q))) (b := negM (m, (r, s))) GA.out.1 (neg_vp GB.out.1) tna.out (neg_tn tnb.out) va.out (neg_vb vb.out))
  have FM := Lib.hid (mulM_full (a := (l, (p, q))) (b := (m, (r, s))) d tna.out tnb.out lna lnb va.out vb.out)
  have KAd := Lib.hid (fun w h1 h2 => tadd_ok (.slice pa na ca) (.slice pb nb cb) p q r s l m w h1 tna.out lna CA.out h2 tnb.out lnb CB.out va.out vb.out)
  have KSu := Lib.hid (fun w h1 h2 => tsub_ok (.slice pa na ca) (.slice pb nb cb) p q r s l m w h1 tna.out lna CA.out h2 tnb.out lnb CB.out va.out vb.out)
  have KMu := Lib.hid (fun w h1 h2 => tmul_ok (.slice pa na ca) (.slice pb nb cb) p q r s d l m w h1 tna.out lna h2 tnb.out lnb va.out vb.out)
  obtain ⟨⟨N, n0, n1⟩, hN⟩ : ∃ R, addM (l, (p, q)) (m, (r, s)) = R := ⟨_, rfl⟩
  rw [hN] at KAd FA IA
  obtain ⟨⟨S, s0, s1⟩, hS⟩ : ∃ R, addM (l, (p, q)) (negM (m, (r, s))) = R := ⟨_, rfl⟩
  rw [hS] at KSu FS IS2
  obtain ⟨⟨P, x0, x1⟩, hP⟩ : ∃ R, mulM (l, (p, q)) (m, (r, s)) d = R := ⟨_, rfl⟩
  rw [hP] at KMu FM IM
  dsimp only at KAd KSu KMu IA IS2 IM
  clear IS cn hV hU bV bU vab vbb hN hS hP bdV bdU cbV cbU hE hF
  have k0 := MA1.out.c0
  have k1 := MA1.out.c1
  have k2 := MA1.out.c2
  dsimp only at k0 k1 k2
  have i6 := heapT_cell HIN.out (k := 6) rfl
  have i7 := heapT_cell HIN.out (k := 7) rfl
  go_wp2_with (fail)
  refine (KV.out _ _ XA1.out HSS.out).mono ?_
  rintro e w5 ⟨rfl, hB⟩
  clear k0 k1 k2 i6 i7 KV
  replace XA1 := Lib.hid (XA1.out.grow hB)
  replace XB1 := Lib.hid (XB1.out.grow hB)
  replace MA1 := Lib.hid (MA1.out.grow hB)
  replace MB1 := Lib.hid (MB1.out.grow hB)
  replace HSS := Lib.hid (HSS.out.grow hB)
  replace HIN := Lib.hid ((hB.block w.heap.size (Array.getElem?_eq_some_iff.1 HIN.out).1).trans HIN.out)
  replace HT1 := Lib.hid (below_then HT1.out hB)
  clear hB
  have j0 := MB1.out.c0
  have j1 := MB1.out.c1
  have j2 := MB1.out.c2
  dsimp only at j0 j1 j2
  have i6 := heapT_cell HIN.out (k := 6) rfl
  have i8 := heapT_cell HIN.out (k := 8) rfl
  go_wp2_with (fail)
  refine (KU.out _ _ XB1.out HSS.out).mono ?_
  rintro e w6 ⟨rfl, hB⟩
  clear j0 j1 j2 i6 i8 KU
  replace XA1 := Lib.hid (XA1.out.grow hB)
  replace XB1 := Lib.hid (XB1.out.grow hB)
  replace MA1 := Lib.hid (MA1.out.grow hB)
  replace MB1 := Lib.hid (MB1.out.grow hB)
  replace HSS := Lib.hid (HSS.out.grow hB)
  replace HIN := Lib.hid ((hB.block w.heap.size (Array.getElem?_eq_some_iff.1 HIN.out).1).trans HIN.out)
  replace HT1 := Lib.hid (below_then HT1.out hB)
  clear hB
  go_wp2_with (fail)
  refine (moderate_ok V _).mono ?_
  rintro e w7 ⟨rfl, hB⟩
  replace XA1 := Lib.hid (XA1.out.grow hB)
  replace XB1 := Lib.hid (XB1.out.grow hB)
  replace MA1 := Lib.hid (MA1.out.grow hB)
  replace MB1 := Lib.hid (MB1.out.grow hB)
  replace HSS := Lib.hid (HSS.out.grow hB)
  replace HIN := Lib.hid ((hB.block w.heap.size (Array.getElem?_eq_some_iff.1 HIN.out).1).trans HIN.out)
  replace HT1 := Lib.hid (below_then HT1.out hB)
  clear hB
  cases hm1 : (decide (V ≤ 536870912) && decide (-536870912 ≤ V)) with
  | false =>
    clear hm1
    go_wp2_with (fail)
    go_ret
    exact ⟨rfl, HT1.out⟩
  | true =>
  go_wp2_with (fail)
  refine (moderate_ok U _).mono ?_
  rintro e w8 ⟨rfl, hB⟩
  replace XA1 := Lib.hid (XA1.out.grow hB)
  replace XB1 := Lib.hid (XB1.out.grow hB)
  replace MA1 := Lib.hid (MA1.out.grow hB)
  replace MB1 := Lib.hid (MB1.out.grow hB)
  replace HSS := Lib.hid (HSS.out.grow hB)
  replace HIN := Lib.hid ((hB.block w.heap.size (Array.getElem?_eq_some_iff.1 HIN.out).1).trans HIN.out)
  replace HT1 := Lib.hid (below_then HT1.out hB)
  clear hB
  cases hm2 : (decide (U ≤ 536870912) && decide (-536870912 ≤ U)) with
  | false =>
    clear hm1 hm2
    go_wp2_with (fail)
    go_ret
    exact ⟨rfl, HT1.out⟩
  | true =>
  simp only [Bool.and_eq_true, decide_eq_true_eq] at hm1 hm2
  have W1 : IntKind.i64.wrap (V + U) = V + U := wrap_i64 _ (by omega) (by omega)
  have W2 : IntKind.i64.wrap ((V + U) * 65536) = (V + U) * 65536 := wrap_i64 _ (by omega) (by omega)
  have W3 : IntKind.i64.wrap (V - U) = V - U := wrap_i64 _ (by omega) (by omega)
  have W4 : IntKind.i64.wrap ((V - U) * 65536) = (V - U) * 65536 := wrap_i64 _ (by omega) (by omega)
  have hpr := prod_in6 (x := V) (y := U) (i := -536870912) (j := 536870912) (k := -536870912) (l := 536870912) (by omega) (by omega) (by omega) (by omega)
  have W5 : IntKind.i64.wrap (V * U) = V * U := by
    have e1 : mn4 (-536870912) 536870912 (-536870912) 536870912 = -288230376151711744 := by decide
    have e2 : mx4 (-536870912) 536870912 (-536870912) 536870912 = 288230376151711744 := by decide
    rw [e1, e2] at hpr
    exact wrap_i64 _ (by omega) (by omega)
  have bA := vb_bdY FA.out.2.2.1
  have bS := vb_bdY FS.out.2.2.1
  have bM := vb_bdY FM.out.2.2.1
  dsimp only at bA bS bM
  have KH1 := Lib.hid (fun (u : Value) w h1 h2 => hv_ok u (.slice zs a0ls.length ds) N a0ls n0 n1 ((V + U) * 65536) true w h1 h2 (ev_six FA.out.1 FA.out.2.1) HS0.out.2 FA.out.1.2.1 bA ⟨fun _ => by
    rcases IA.out with h | h
    · exact .inl h
    · exact .inr (by omega), fun _ => rfl⟩)
  have KH2 := Lib.hid (fun (u : Value) w h1 h2 => hv_ok u (.slice zs a0ls.length ds) S a0ls s0 s1 ((V - U) * 65536) true w h1 h2 (ev_six FS.out.1 FS.out.2.1) HS0.out.2 FS.out.1.2.1 bS ⟨fun _ => by
    rcases IS2.out with h | h
    · exact .inl h
    · exact .inr (by omega), fun _ => rfl⟩)
  have KH3 := Lib.hid (fun (u : Value) w h1 h2 => hv_ok u (.slice zs a0ls.length ds) P a0ls x0 x1 (V * U) true w h1 h2 (ev_six FM.out.1 FM.out.2.1) HS0.out.2 FM.out.1.2.1 bM ⟨fun _ => IM.out, fun _ => rfl⟩)
  clear hpr hm1 hm2 bA bS bM BV BU
  go_wp2_with (fail)
  have k0 := fun g : Grown w8 => (MA1.out.grow g.h).c0
  have k1 := fun g : Grown w8 => (MA1.out.grow g.h).c1
  have k2 := fun g : Grown w8 => (MA1.out.grow g.h).c2
  have j0 := fun g : Grown w8 => (MB1.out.grow g.h).c0
  have j1 := fun g : Grown w8 => (MB1.out.grow g.h).c1
  have j2 := fun g : Grown w8 => (MB1.out.grow g.h).c2
  have i6 := fun g : Grown w8 => heapT_cell ((g.h.block w.heap.size (Array.getElem?_eq_some_iff.1 HIN.out).1).trans HIN.out) (k := 6) rfl
  dsimp only at k0 k1 k2 j0 j1 j2
  refine region_pred (lk [(46, fun z_ _ => z_ = .bool true), (47, fun z_ _ => z_ = .bool true), (48, fun z_ _ => z_ = .agg #[.slice pa na ca, .int .i64 p, .int .i64 q]), (49, fun z_ _ => z_ = .agg #[.slice pb nb cb, .int .i64 r, .int .i64 s]), (50, fun z_ w' => ∃ p_ n_ c_, z_ = .agg #[.slice p_ n_ c_, .int .i64 n0, .int .i64 n1] ∧ Tx w' (.slice p_ n_ c_) N ∧ CapOk (.slice p_ n_ c_)), (51, fun z_ _ => z_ = .pointer (some ⟨w.heap.size, 6, none⟩)), (52, fun z_ _ => z_ = (.slice zs a0ls.length ds)), (53, fun z_ _ => z_ = .int .i64 V), (54, fun z_ _ => z_ = .int .i64 U), (55, fun z_ _ => z_ = .int .i64 (V + U)), (56, fun z_ _ => z_ = .int .i64 ((V + U) * 65536)), (57, fun z_ _ => z_ = .bool true), (58, fun z_ _ => z_ = .bool true), (59, fun z_ _ => z_ = .bool true), (60, fun z_ _ => z_ = .agg #[.slice pa na ca, .int .i64 p, .int .i64 q]), (61, fun z_ _ => z_ = .agg #[.slice pb nb cb, .int .i64 r, .int .i64 s]), (62, fun z_ w' => ∃ p_ n_ c_, z_ = .agg #[.slice p_ n_ c_, .int .i64 s0, .int .i64 s1] ∧ Tx w' (.slice p_ n_ c_) S ∧ CapOk (.slice p_ n_ c_)), (63, fun z_ _ => z_ = .pointer (some ⟨w.heap.size, 6, none⟩)), (64, fun z_ _ => z_ = (.slice zs a0ls.length ds)), (65, fun z_ _ => z_ = .int .i64 V), (66, fun z_ _ => z_ = .int .i64 U), (67, fun z_ _ => z_ = .int .i64 (V - U)), (68, fun z_ _ => z_ = .int .i64 ((V - U) * 65536)), (69, fun z_ _ => z_ = .bool true), (70, fun z_ _ => z_ = .bool true), (71, fun z_ _ => z_ = .bool true), (72, fun z_ _ => z_ = .agg #[.slice pa na ca, .int .i64 p, .int .i64 q]), (73, fun z_ _ => z_ = .agg #[.slice pb nb cb, .int .i64 r, .int .i64 s]), (74, fun z_ _ => z_ = .int .u8 a1), (75, fun z_ _ => z_ = .int .u8 d), (76, fun z_ _ => z_ = .int .i64 d), (77, fun z_ w' => ∃ p_ n_ c_, z_ = .agg #[.slice p_ n_ c_, .int .i64 x0, .int .i64 x1] ∧ Tx w' (.slice p_ n_ c_) P ∧ CapOk (.slice p_ n_ c_)), (78, fun z_ _ => z_ = .pointer (some ⟨w.heap.size, 6, none⟩)), (79, fun z_ _ => z_ = (.slice zs a0ls.length ds)), (80, fun z_ _ => z_ = .int .i64 V), (81, fun z_ _ => z_ = .int .i64 U), (82, fun z_ _ => z_ = .int .i64 (V * U)), (83, fun z_ _ => z_ = .bool true), (84, fun z_ _ => z_ = .bool true), (4, fun z_ _ => z_ = .bool true)]) (by kernel_rfl) (by kernel_rfl) (lk_steady _ ⟨steady_eq _, steady_eq _, steady_eq _, steady_eq _, fun u w1 w2 hb ⟨p, n, c, e, h1, h2⟩ => ⟨p, n, c, e, h1.grow hb, h2⟩, steady_eq _, steady_eq _, steady_eq _, steady_eq _, steady_eq _, steady_eq _, steady_eq _, steady_eq _, steady_eq _, steady_eq _, steady_eq _, fun u w1 w2 hb ⟨p, n, c, e, h1, h2⟩ => ⟨p, n, c, e, h1.grow hb, h2⟩, steady_eq _, steady_eq _, steady_eq _, steady_eq _, steady_eq _, steady_eq _, steady_eq _, steady_eq _, steady_eq _, steady_eq _, steady_eq _, steady_eq _, steady_eq _, steady_eq _, fun u w1 w2 hb ⟨p, n, c, e, h1, h2⟩ => ⟨p, n, c, e, h1.grow hb, h2⟩, steady_eq _, steady_eq _, steady_eq _, steady_eq _, steady_eq _, steady_eq _, steady_eq _, steady_eq _, trivial⟩) ?_ ?_
  · refine ⟨?_, ?_, ?_, ?_, ?_, ?_, ?_, ?_, ?_, ?_, ?_, ?_, ?_, ?_, ?_, ?_, ?_, ?_, ?_, ?_, ?_, ?_, ?_, ?_, ?_, ?_, ?_, ?_, ?_, ?_, ?_, ?_, ?_, ?_, ?_, ?_, ?_, ?_, ?_, ?_, trivial⟩
    · refine ob_plain [5] rfl rfl fun aa g h => ?_
      have yy0 := seen_out (v := .bool true) rfl rfl h.1
      have ee0 := getD_of yy0
      exact tupon_value (v := .bool true) (by simp [go_sem, ee0, yy0]) (Below.refl _ _) rfl
    · refine ob_plain [46] rfl rfl fun aa g h => ?_
      obtain ⟨_, yy0, rfl⟩ := seen_in rfl h.1
      have ee0 := getD_of yy0
      exact tupon_value (v := .bool true) (by simp [go_sem, ee0, yy0]) (Below.refl _ _) rfl
    · refine ob_gtrue [6] _ true 47 rfl rfl rfl rfl (fun v w h => h) fun aa g h => ?_
      have yy0 := seen_out (v := .pointer (some ⟨w2.heap.size, 0, none⟩)) rfl rfl h.1
      have ee0 := getD_of yy0
      exact tupon_value (v := .agg #[.slice pa na ca, .int .i64 p, .int .i64 q]) (by simp [go_sem, ee0, yy0, k0 g, k1 g, k2 g]) (Below.refl _ _) rfl
    · refine ob_gtrue [7] _ true 47 rfl rfl rfl rfl (fun v w h => h) fun aa g h => ?_
      have yy0 := seen_out (v := .pointer (some ⟨w2.heap.size + 1, 0, none⟩)) rfl rfl h.1
      have ee0 := getD_of yy0
      exact tupon_value (v := .agg #[.slice pb nb cb, .int .i64 r, .int .i64 s]) (by simp [go_sem, ee0, yy0, j0 g, j1 g, j2 g]) (Below.refl _ _) rfl
    · refine ob_gtrue [48, 49] _ true 47 rfl rfl rfl rfl (fun v w h => h) fun aa g h => ?_
      obtain ⟨_, yy0, rfl⟩ := seen_in rfl h.1
      have ee0 := getD_of yy0
      obtain ⟨_, yy1, rfl⟩ := seen_in rfl h.2.1
      have ee1 := getD_of yy1
      refine tupon_enter (f := 17) (args := #[.agg #[.slice pa na ca, .int .i64 p, .int .i64 q], .agg #[.slice pb nb cb, .int .i64 r, .int .i64 s]]) (by simp [go_sem, ee0, yy0, ee1, yy1]) rfl ?_
      exact (KAd.out g.w (XA1.out.grow g.h) (XB1.out.grow g.h)).mono fun e w' ⟨r, he, hx, hc, hB⟩ => ⟨_, he, hB, (by obtain ⟨p, n, c, e1, e2⟩ := hc; subst e1; exact ⟨p, n, c, rfl, hx, ⟨p, n, c, rfl, e2⟩⟩)⟩
    · refine ob_gtrue [2] _ true 47 rfl rfl rfl rfl (fun v w h => h) fun aa g h => ?_
      have yy0 := seen_out (v := .pointer (some ⟨w.heap.size, 0, none⟩)) rfl rfl h.1
      have ee0 := getD_of yy0
      exact tupon_value (v := .pointer (some ⟨w.heap.size, 6, none⟩)) (by simp [go_sem, ee0, yy0]) (Below.refl _ _) rfl
    · refine ob_gtrue [51] _ true 47 rfl rfl rfl rfl (fun v w h => h) fun aa g h => ?_
      obtain ⟨_, yy0, rfl⟩ := seen_in rfl h.1
      have ee0 := getD_of yy0
      exact tupon_value (v := (.slice zs a0ls.length ds)) (by simp [go_sem, ee0, yy0, i6 g]) (Below.refl _ _) rfl
    · refine ob_gtrue [8] _ true 47 rfl rfl rfl rfl (fun v w h => h) fun aa g h => ?_
      have yy0 := seen_out (v := .int .i64 V) rfl rfl h.1
      have ee0 := getD_of yy0
      exact tupon_value (v := .int .i64 V) (by simp [go_sem, ee0, yy0]) (Below.refl _ _) rfl
    · refine ob_gtrue [9] _ true 47 rfl rfl rfl rfl (fun v w h => h) fun aa g h => ?_
      have yy0 := seen_out (v := .int .i64 U) rfl rfl h.1
      have ee0 := getD_of yy0
      exact tupon_value (v := .int .i64 U) (by simp [go_sem, ee0, yy0]) (Below.refl _ _) rfl
    · refine ob_gtrue [53, 54] _ true 47 rfl rfl rfl rfl (fun v w h => h) fun aa g h => ?_
      obtain ⟨_, yy0, rfl⟩ := seen_in rfl h.1
      have ee0 := getD_of yy0
      obtain ⟨_, yy1, rfl⟩ := seen_in rfl h.2.1
      have ee1 := getD_of yy1
      exact tupon_value (v := .int .i64 (V + U)) (by simp [go_sem, ee0, yy0, ee1, yy1, W1]) (Below.refl _ _) rfl
    · refine ob_gtrue [55] _ true 47 rfl rfl rfl rfl (fun v w h => h) fun aa g h => ?_
      obtain ⟨_, yy0, rfl⟩ := seen_in rfl h.1
      have ee0 := getD_of yy0
      exact tupon_value (v := .int .i64 ((V + U) * 65536)) (by simp [go_sem, ee0, yy0, W2]) (Below.refl _ _) rfl
    · refine ob_gtrue [50, 52, 56] _ true 47 rfl rfl rfl rfl (fun v w h => h) fun aa g h => ?_
      obtain ⟨_, yy0, ⟨p50, n50, c50, rfl, tx50, cp50⟩⟩ := seen_in rfl h.1
      have ee0 := getD_of yy0
      obtain ⟨_, yy1, rfl⟩ := seen_in rfl h.2.1
      have ee1 := getD_of yy1
      obtain ⟨_, yy2, rfl⟩ := seen_in rfl h.2.2.1
      have ee2 := getD_of yy2
      refine tupon_enter (f := 42) (args := #[.agg #[.slice p50 n50 c50, .int .i64 n0, .int .i64 n1], (.slice zs a0ls.length ds), .int .i64 ((V + U) * 65536)]) (by simp [go_sem, ee0, yy0, ee1, yy1, ee2, yy2]) rfl ?_
      exact (KH1.out (.slice p50 n50 c50) g.w tx50 (HSS.out.grow g.h)).mono fun e w' ⟨he, hB⟩ => ⟨_, he, hB, rfl⟩
    · refine ob_plain [47, 57] rfl rfl fun aa g h => ?_
      obtain ⟨_, yy0, rfl⟩ := seen_in rfl h.1
      have ee0 := getD_of yy0
      obtain ⟨_, yy1, rfl⟩ := seen_in rfl h.2.1
      have ee1 := getD_of yy1
      exact tupon_value (v := .bool true) (by simp [go_sem, ee0, yy0, ee1, yy1]) (Below.refl _ _) rfl
    · refine ob_plain [58] rfl rfl fun aa g h => ?_
      obtain ⟨_, yy0, rfl⟩ := seen_in rfl h.1
      have ee0 := getD_of yy0
      exact tupon_value (v := .bool true) (by simp [go_sem, ee0, yy0]) (Below.refl _ _) rfl
    · refine ob_gtrue [6] _ true 59 rfl rfl rfl rfl (fun v w h => h) fun aa g h => ?_
      have yy0 := seen_out (v := .pointer (some ⟨w2.heap.size, 0, none⟩)) rfl rfl h.1
      have ee0 := getD_of yy0
      exact tupon_value (v := .agg #[.slice pa na ca, .int .i64 p, .int .i64 q]) (by simp [go_sem, ee0, yy0, k0 g, k1 g, k2 g]) (Below.refl _ _) rfl
    · refine ob_gtrue [7] _ true 59 rfl rfl rfl rfl (fun v w h => h) fun aa g h => ?_
      have yy0 := seen_out (v := .pointer (some ⟨w2.heap.size + 1, 0, none⟩)) rfl rfl h.1
      have ee0 := getD_of yy0
      exact tupon_value (v := .agg #[.slice pb nb cb, .int .i64 r, .int .i64 s]) (by simp [go_sem, ee0, yy0, j0 g, j1 g, j2 g]) (Below.refl _ _) rfl
    · refine ob_gtrue [60, 61] _ true 59 rfl rfl rfl rfl (fun v w h => h) fun aa g h => ?_
      obtain ⟨_, yy0, rfl⟩ := seen_in rfl h.1
      have ee0 := getD_of yy0
      obtain ⟨_, yy1, rfl⟩ := seen_in rfl h.2.1
      have ee1 := getD_of yy1
      refine tupon_enter (f := 19) (args := #[.agg #[.slice pa na ca, .int .i64 p, .int .i64 q], .agg #[.slice pb nb cb, .int .i64 r, .int .i64 s]]) (by simp [go_sem, ee0, yy0, ee1, yy1]) rfl ?_
      exact (KSu.out g.w (XA1.out.grow g.h) (XB1.out.grow g.h)).mono fun e w' ⟨r, he, hx, hc, hB⟩ => ⟨_, he, hB, (by obtain ⟨p, n, c, e1, e2⟩ := hc; subst e1; exact ⟨p, n, c, rfl, hx, ⟨p, n, c, rfl, e2⟩⟩)⟩
    · refine ob_gtrue [2] _ true 59 rfl rfl rfl rfl (fun v w h => h) fun aa g h => ?_
      have yy0 := seen_out (v := .pointer (some ⟨w.heap.size, 0, none⟩)) rfl rfl h.1
      have ee0 := getD_of yy0
      exact tupon_value (v := .pointer (some ⟨w.heap.size, 6, none⟩)) (by simp [go_sem, ee0, yy0]) (Below.refl _ _) rfl
    · refine ob_gtrue [63] _ true 59 rfl rfl rfl rfl (fun v w h => h) fun aa g h => ?_
      obtain ⟨_, yy0, rfl⟩ := seen_in rfl h.1
      have ee0 := getD_of yy0
      exact tupon_value (v := (.slice zs a0ls.length ds)) (by simp [go_sem, ee0, yy0, i6 g]) (Below.refl _ _) rfl
    · refine ob_gtrue [8] _ true 59 rfl rfl rfl rfl (fun v w h => h) fun aa g h => ?_
      have yy0 := seen_out (v := .int .i64 V) rfl rfl h.1
      have ee0 := getD_of yy0
      exact tupon_value (v := .int .i64 V) (by simp [go_sem, ee0, yy0]) (Below.refl _ _) rfl
    · refine ob_gtrue [9] _ true 59 rfl rfl rfl rfl (fun v w h => h) fun aa g h => ?_
      have yy0 := seen_out (v := .int .i64 U) rfl rfl h.1
      have ee0 := getD_of yy0
      exact tupon_value (v := .int .i64 U) (by simp [go_sem, ee0, yy0]) (Below.refl _ _) rfl
    · refine ob_gtrue [65, 66] _ true 59 rfl rfl rfl rfl (fun v w h => h) fun aa g h => ?_
      obtain ⟨_, yy0, rfl⟩ := seen_in rfl h.1
      have ee0 := getD_of yy0
      obtain ⟨_, yy1, rfl⟩ := seen_in rfl h.2.1
      have ee1 := getD_of yy1
      exact tupon_value (v := .int .i64 (V - U)) (by simp [go_sem, ee0, yy0, ee1, yy1, W3]) (Below.refl _ _) rfl
    · refine ob_gtrue [67] _ true 59 rfl rfl rfl rfl (fun v w h => h) fun aa g h => ?_
      obtain ⟨_, yy0, rfl⟩ := seen_in rfl h.1
      have ee0 := getD_of yy0
      exact tupon_value (v := .int .i64 ((V - U) * 65536)) (by simp [go_sem, ee0, yy0, W4]) (Below.refl _ _) rfl
    · refine ob_gtrue [62, 64, 68] _ true 59 rfl rfl rfl rfl (fun v w h => h) fun aa g h => ?_
      obtain ⟨_, yy0, ⟨p62, n62, c62, rfl, tx62, cp62⟩⟩ := seen_in rfl h.1
      have ee0 := getD_of yy0
      obtain ⟨_, yy1, rfl⟩ := seen_in rfl h.2.1
      have ee1 := getD_of yy1
      obtain ⟨_, yy2, rfl⟩ := seen_in rfl h.2.2.1
      have ee2 := getD_of yy2
      refine tupon_enter (f := 42) (args := #[.agg #[.slice p62 n62 c62, .int .i64 s0, .int .i64 s1], (.slice zs a0ls.length ds), .int .i64 ((V - U) * 65536)]) (by simp [go_sem, ee0, yy0, ee1, yy1, ee2, yy2]) rfl ?_
      exact (KH2.out (.slice p62 n62 c62) g.w tx62 (HSS.out.grow g.h)).mono fun e w' ⟨he, hB⟩ => ⟨_, he, hB, rfl⟩
    · refine ob_plain [59, 69] rfl rfl fun aa g h => ?_
      obtain ⟨_, yy0, rfl⟩ := seen_in rfl h.1
      have ee0 := getD_of yy0
      obtain ⟨_, yy1, rfl⟩ := seen_in rfl h.2.1
      have ee1 := getD_of yy1
      exact tupon_value (v := .bool true) (by simp [go_sem, ee0, yy0, ee1, yy1]) (Below.refl _ _) rfl
    · refine ob_plain [70] rfl rfl fun aa g h => ?_
      obtain ⟨_, yy0, rfl⟩ := seen_in rfl h.1
      have ee0 := getD_of yy0
      exact tupon_value (v := .bool true) (by simp [go_sem, ee0, yy0]) (Below.refl _ _) rfl
    · refine ob_gtrue [6] _ true 71 rfl rfl rfl rfl (fun v w h => h) fun aa g h => ?_
      have yy0 := seen_out (v := .pointer (some ⟨w2.heap.size, 0, none⟩)) rfl rfl h.1
      have ee0 := getD_of yy0
      exact tupon_value (v := .agg #[.slice pa na ca, .int .i64 p, .int .i64 q]) (by simp [go_sem, ee0, yy0, k0 g, k1 g, k2 g]) (Below.refl _ _) rfl
    · refine ob_gtrue [7] _ true 71 rfl rfl rfl rfl (fun v w h => h) fun aa g h => ?_
      have yy0 := seen_out (v := .pointer (some ⟨w2.heap.size + 1, 0, none⟩)) rfl rfl h.1
      have ee0 := getD_of yy0
      exact tupon_value (v := .agg #[.slice pb nb cb, .int .i64 r, .int .i64 s]) (by simp [go_sem, ee0, yy0, j0 g, j1 g, j2 g]) (Below.refl _ _) rfl
    · refine ob_gtrue [1] _ true 71 rfl rfl rfl rfl (fun v w h => h) fun aa g h => ?_
      have yy0 := seen_out (v := .int .u8 a1) rfl rfl h.1
      have ee0 := getD_of yy0
      exact tupon_value (v := .int .u8 a1) (by simp [go_sem, ee0, yy0]) (Below.refl _ _) rfl
    · refine ob_gtrue [74] _ true 71 rfl rfl rfl rfl (fun v w h => h) fun aa g h => ?_
      obtain ⟨_, yy0, rfl⟩ := seen_in rfl h.1
      have ee0 := getD_of yy0
      exact tupon_value (v := .int .u8 d) (by simp [go_sem, ee0, yy0, T7]) (Below.refl _ _) rfl
    · refine ob_gtrue [75] _ true 71 rfl rfl rfl rfl (fun v w h => h) fun aa g h => ?_
      obtain ⟨_, yy0, rfl⟩ := seen_in rfl h.1
      have ee0 := getD_of yy0
      exact tupon_value (v := .int .i64 d) (by simp [go_sem, ee0, yy0, Wd]) (Below.refl _ _) rfl
    · refine ob_gtrue [72, 73, 76] _ true 71 rfl rfl rfl rfl (fun v w h => h) fun aa g h => ?_
      obtain ⟨_, yy0, rfl⟩ := seen_in rfl h.1
      have ee0 := getD_of yy0
      obtain ⟨_, yy1, rfl⟩ := seen_in rfl h.2.1
      have ee1 := getD_of yy1
      obtain ⟨_, yy2, rfl⟩ := seen_in rfl h.2.2.1
      have ee2 := getD_of yy2
      refine tupon_enter (f := 23) (args := #[.agg #[.slice pa na ca, .int .i64 p, .int .i64 q], .agg #[.slice pb nb cb, .int .i64 r, .int .i64 s], .int .i64 d]) (by simp [go_sem, ee0, yy0, ee1, yy1, ee2, yy2]) rfl ?_
      exact (KMu.out g.w (XA1.out.grow g.h) (XB1.out.grow g.h)).mono fun e w' ⟨r, he, hx, hc, hB⟩ => ⟨_, he, hB, (by obtain ⟨p, n, c, e1, e2⟩ := hc; subst e1; exact ⟨p, n, c, rfl, hx, ⟨p, n, c, rfl, e2⟩⟩)⟩
    · refine ob_gtrue [2] _ true 71 rfl rfl rfl rfl (fun v w h => h) fun aa g h => ?_
      have yy0 := seen_out (v := .pointer (some ⟨w.heap.size, 0, none⟩)) rfl rfl h.1
      have ee0 := getD_of yy0
      exact tupon_value (v := .pointer (some ⟨w.heap.size, 6, none⟩)) (by simp [go_sem, ee0, yy0]) (Below.refl _ _) rfl
    · refine ob_gtrue [78] _ true 71 rfl rfl rfl rfl (fun v w h => h) fun aa g h => ?_
      obtain ⟨_, yy0, rfl⟩ := seen_in rfl h.1
      have ee0 := getD_of yy0
      exact tupon_value (v := (.slice zs a0ls.length ds)) (by simp [go_sem, ee0, yy0, i6 g]) (Below.refl _ _) rfl
    · refine ob_gtrue [8] _ true 71 rfl rfl rfl rfl (fun v w h => h) fun aa g h => ?_
      have yy0 := seen_out (v := .int .i64 V) rfl rfl h.1
      have ee0 := getD_of yy0
      exact tupon_value (v := .int .i64 V) (by simp [go_sem, ee0, yy0]) (Below.refl _ _) rfl
    · refine ob_gtrue [9] _ true 71 rfl rfl rfl rfl (fun v w h => h) fun aa g h => ?_
      have yy0 := seen_out (v := .int .i64 U) rfl rfl h.1
      have ee0 := getD_of yy0
      exact tupon_value (v := .int .i64 U) (by simp [go_sem, ee0, yy0]) (Below.refl _ _) rfl
    · refine ob_gtrue [80, 81] _ true 71 rfl rfl rfl rfl (fun v w h => h) fun aa g h => ?_
      obtain ⟨_, yy0, rfl⟩ := seen_in rfl h.1
      have ee0 := getD_of yy0
      obtain ⟨_, yy1, rfl⟩ := seen_in rfl h.2.1
      have ee1 := getD_of yy1
      exact tupon_value (v := .int .i64 (V * U)) (by simp [go_sem, ee0, yy0, ee1, yy1, W5]) (Below.refl _ _) rfl
    · refine ob_gtrue [77, 79, 82] _ true 71 rfl rfl rfl rfl (fun v w h => h) fun aa g h => ?_
      obtain ⟨_, yy0, ⟨p77, n77, c77, rfl, tx77, cp77⟩⟩ := seen_in rfl h.1
      have ee0 := getD_of yy0
      obtain ⟨_, yy1, rfl⟩ := seen_in rfl h.2.1
      have ee1 := getD_of yy1
      obtain ⟨_, yy2, rfl⟩ := seen_in rfl h.2.2.1
      have ee2 := getD_of yy2
      refine tupon_enter (f := 42) (args := #[.agg #[.slice p77 n77 c77, .int .i64 x0, .int .i64 x1], (.slice zs a0ls.length ds), .int .i64 (V * U)]) (by simp [go_sem, ee0, yy0, ee1, yy1, ee2, yy2]) rfl ?_
      exact (KH3.out (.slice p77 n77 c77) g.w tx77 (HSS.out.grow g.h)).mono fun e w' ⟨he, hB⟩ => ⟨_, he, hB, rfl⟩
    · refine ob_plain [71, 83] rfl rfl fun aa g h => ?_
      obtain ⟨_, yy0, rfl⟩ := seen_in rfl h.1
      have ee0 := getD_of yy0
      obtain ⟨_, yy1, rfl⟩ := seen_in rfl h.2.1
      have ee1 := getD_of yy1
      exact tupon_value (v := .bool true) (by simp [go_sem, ee0, yy0, ee1, yy1]) (Below.refl _ _) rfl
    · refine ob_plain [84] rfl rfl fun aa g h => ?_
      obtain ⟨_, yy0, rfl⟩ := seen_in rfl h.1
      have ee0 := getD_of yy0
      exact tupon_value (v := .bool true) (by simp [go_sem, ee0, yy0]) (Below.refl _ _) rfl
  rintro w9 hB9 _ rfl _ rfl _ rfl _ rfl _ ⟨p50, n50, c50, rfl, tx50, cp50⟩ _ rfl _ rfl _ rfl _ rfl _ rfl _ rfl _ rfl _ rfl _ rfl _ rfl _ rfl _ ⟨p62, n62, c62, rfl, tx62, cp62⟩ _ rfl _ rfl _ rfl _ rfl _ rfl _ rfl _ rfl _ rfl _ rfl _ rfl _ rfl _ rfl _ rfl _ rfl _ ⟨p77, n77, c77, rfl, tx77, cp77⟩ _ rfl _ rfl _ rfl _ rfl _ rfl _ rfl _ rfl _ rfl
  simp only [Act.put, List.setIfInBounds_toArray, List.set_cons_succ, List.set_cons_zero, List.filterMap_nil, finP]
  clear k0 k1 k2 j0 j1 j2 i6
  go_wp2_with (fail)
  go_ret
  exact ⟨rfl, below_then HT1.out hB9⟩
end Go.Proofs.YtbfhmbadgbackaaGreat
