/-
  The law TaylorMatchesReference.
-/
import Derived.Test.YthakeeinhgfbbaaGreatSan6
import Derived.Test.YthakeeinhgfbbaaGreatYl
import Derived.Test.YthakeeinhgfbbaaGreatYs
import Derived.Test.YthakeeinhgfbbaaGreatZa
namespace Go.Proofs.YthakeeinhgfbbaaGreat
open Go.ChangeShapes Go.WideShapes Go.ChangeAt Go.RowKit
set_option linter.unusedVariables false
set_option linter.unusedSimpArgs false
set_option maxRecDepth 100000

attribute [local irreducible] Calls

theorem constM_six3 {c0 c1 : Int} (h : VB2 (c0, c1)) : Six (constM (c0, c1)).1 := const_six (mid_num h)
def MoP (x y : Int) (l : List Tm) (z : Value) (w : World) : Prop := ∃ p n c, z = .agg #[.slice p n c, .int .i64 x, .int .i64 y] ∧ Tx w (.slice p n c) l
theorem mop_steady (x y : Int) (l : List Tm) : Steady (MoP x y l) := fun u w1 w2 hb h => by
  obtain ⟨p, n, c, e, h1⟩ := h
  exact ⟨p, n, c, e, h1.grow hb⟩
theorem mop_mk {x y : Int} {l : List Tm} {r : Value} {w : World} (h : Tx w r l) : MoP x y l (.agg #[r, .int .i64 x, .int .i64 y]) w := by
  obtain ⟨p, c, e⟩ := h.cut
  subst e
  exact ⟨p, _, c, rfl, h⟩
theorem same_yes (u v : Value) (x y : Int) (l : List Tm) (w : World) (hu : Tx w u l) (hv : Tx w v l) (hl : ∀ t ∈ l, TV t) :
    Calls Tryz.prog 16 #[.agg #[u, .int .i64 x, .int .i64 y], .agg #[v, .int .i64 x, .int .i64 y]] w fun e w' => e = .returned (.bool true) ∧ Below w.heap.size w w' := by
  have h := rsame_ok u v x y x y l l w hu hv hl hl
  rw [beq_self_eq_true, beq_self_eq_true, decide_eq_true rfl] at h
  exact h
set_option maxHeartbeats 128000000 in
theorem tmatch (w : World) (a0A a0B a0S : Value) (a0p a0q a0r a0s a0x a0y : Int) (a0la a0lb : List Tm) (a0ls : List Int) (h0A : Tx w a0A a0la ∧ ∀ t ∈ a0la, TV t) (h0p : -9223372036854775808 ≤ a0p ∧ a0p ≤ 9223372036854775807) (h0q : -9223372036854775808 ≤ a0q ∧ a0q ≤ 9223372036854775807) (h0B : Tx w a0B a0lb ∧ ∀ t ∈ a0lb, TV t) (h0r : -9223372036854775808 ≤ a0r ∧ a0r ≤ 9223372036854775807) (h0s : -9223372036854775808 ≤ a0s ∧ a0s ≤ 9223372036854775807) (h0S : S8 w a0S a0ls ∧ ∀ x ∈ a0ls, -128 ≤ x ∧ x ≤ 127) (h0x : 0 ≤ a0x ∧ a0x ≤ 65535) (h0y : 0 ≤ a0y ∧ a0y ≤ 65535) (a1 : Int) (w1 : (Lit.int .u8 a1).wf = true) (a2_0 a2_1 : Int) (w2 : ∀ x ∈ [a2_0, a2_1], IntKind.has .i64 x) :
    Calls Tryz.prog 3 #[.agg #[a0A, .int .i64 a0p, .int .i64 a0q, a0B, .int .i64 a0r, .int .i64 a0s, a0S, .int .u16 a0x, .int .u16 a0y], .int .u8 a1, .agg #[.int .i64 a2_0, .int .i64 a2_1]] w fun e w' => e = .returned (.bool true) ∧ Below w.heap.size w w' := by
  have b0 : -9223372036854775808 ≤ a2_0 ∧ a2_0 ≤ 9223372036854775807 := by
    have := w2 a2_0 (by simp)
    simpa [IntKind.has, IntKind.min, IntKind.max, IntKind.signed, IntKind.bits] using this
  have b1 : -9223372036854775808 ≤ a2_1 ∧ a2_1 ≤ 9223372036854775807 := by
    have := w2 a2_1 (by simp)
    simpa [IntKind.has, IntKind.min, IntKind.max, IntKind.signed, IntKind.bits] using this
  obtain ⟨c0, c1, hc01, KI⟩ := r2made a2_0 a2_1 b0.1 b0.2 b1.1 b1.2
  have HK := Lib.hid KI
  have HV := Lib.hid hc01
  have bd := bounds_u8 w1
  have b10 : 0 ≤ a1 := bd.1
  have T7 : a1.tmod 7 = a1 % 7 := Int.tmod_eq_emod_of_nonneg b10
  obtain ⟨d, hd⟩ : ∃ d, a1 % 7 = d := ⟨_, rfl⟩
  have hd0 : 0 ≤ d := by omega
  have hd6 : d ≤ 6 := by omega
  rw [hd] at T7
  have Wd : IntKind.i64.wrap d = d := wrap_i64 _ (by omega) (by omega)
  have HA0 := Lib.hid h0A
  clear w1 w2 hd b10 b0 b1 hc01 KI bd
  have hba : Below w.heap.size w ((w.alloc (.cells #[a0A, .int .i64 a0p, .int .i64 a0q, a0B, .int .i64 a0r, .int .i64 a0s, a0S, .int .u16 a0x, .int .u16 a0y] 30)).alloc (.cells #[.int .i64 a2_0, .int .i64 a2_1] 24)) := ((Below.refl _ _).alloc (Nat.le_refl _) _).alloc (by simp) _
  have hI : ((w.alloc (.cells #[a0A, .int .i64 a0p, .int .i64 a0q, a0B, .int .i64 a0r, .int .i64 a0s, a0S, .int .u16 a0x, .int .u16 a0y] 30)).alloc (.cells #[.int .i64 a2_0, .int .i64 a2_1] 24)).heap[w.heap.size]? = some (.cells #[a0A, .int .i64 a0p, .int .i64 a0q, a0B, .int .i64 a0r, .int .i64 a0s, a0S, .int .u16 a0x, .int .u16 a0y] 30 (0, 0)) := (Below.heap_alloc _ _ _ (by simp)).trans (World.alloc_heap_new w _)
  have hJ : IvC ((w.alloc (.cells #[a0A, .int .i64 a0p, .int .i64 a0q, a0B, .int .i64 a0r, .int .i64 a0s, a0S, .int .u16 a0x, .int .u16 a0y] 30)).alloc (.cells #[.int .i64 a2_0, .int .i64 a2_1] 24)) (w.heap.size + 1) (a2_0, a2_1) := by
    have e := IvC.new (w.alloc (.cells #[a0A, .int .i64 a0p, .int .i64 a0q, a0B, .int .i64 a0r, .int .i64 a0s, a0S, .int .u16 a0x, .int .u16 a0y] 30)) a2_0 a2_1
    rw [World.size_alloc] at e
    exact e
  have HJ := Lib.hid hJ
  have HI := Lib.hid hI
  have HBA := Lib.hid hba
  have KM := Lib.hid (fun w hA hB => models_sh a0A a0B a0S a0p a0q a0r a0s a0x a0y a0la a0lb w ⟨hA, h0A.2⟩ h0p h0q ⟨hB, h0B.2⟩ h0r h0s)
  have HA := Lib.hid h0A.1
  have HB := Lib.hid h0B.1
  clear h0A h0p h0q h0B h0r h0s h0S h0x h0y hba hI hJ
  go_enter Tryz.func3, Tryz.ntmps3
  go_wp2_with (fail)
  generalize hW0 : World.alloc (World.alloc w _) _ = W0 at *
  clear hW0
  refine (sanity6 _).mono ?_
  rintro e w1 ⟨rfl, hB1⟩
  have hT1 := below_then HBA.out hB1
  have hI1 := (hB1.block w.heap.size (Array.getElem?_eq_some_iff.1 HI.out).1).trans HI.out
  have k0 := heapT_cell hI1 (k := 0) rfl
  have k1 := heapT_cell hI1 (k := 1) rfl
  have k2 := heapT_cell hI1 (k := 2) rfl
  have k3 := heapT_cell hI1 (k := 3) rfl
  have k4 := heapT_cell hI1 (k := 4) rfl
  have k5 := heapT_cell hI1 (k := 5) rfl
  have k6 := heapT_cell hI1 (k := 6) rfl
  have k7 := heapT_cell hI1 (k := 7) rfl
  have k8 := heapT_cell hI1 (k := 8) rfl
  have hI1' := Lib.hid hI1
  have HJ1 := Lib.hid (HJ.out.grow hB1)
  clear hI1 HJ
  go_wp2_with (fail)
  refine (KM.out w1 (HA.out.grow hT1) (HB.out.grow hT1)).mono ?_
  rintro e w2 ⟨ra, l, p, q, rb, m, r, s, rfl, txa, ⟨pa, na, ca, rfl, hca1, hca2⟩, ga, txb, ⟨pb, nb, cb, rfl, hcb1, hcb2⟩, gb, hB2⟩
  have hT2 := below_then hT1 hB2
  clear k0 k1 k2 k3 k4 k5 k6 k7 k8 hB1 hT1
  have SA : Hid (ShC (.slice pa na ca)) := Lib.hid ⟨pa, na, ca, rfl, hca1, hca2⟩
  have CA := Lib.hid SA.out.cap
  have SB : Hid (ShC (.slice pb nb cb)) := Lib.hid ⟨pb, nb, cb, rfl, hcb1, hcb2⟩
  have CB := Lib.hid SB.out.cap
  have GA := Lib.hid ga
  have GB := Lib.hid gb
  have XA := Lib.hid txa
  have XB := Lib.hid txb
  have HT := Lib.hid hT2
  have HIN := Lib.hid ((hB2.block w.heap.size (Array.getElem?_eq_some_iff.1 hI1'.out).1).trans hI1'.out)
  have HJ2 := Lib.hid (HJ1.out.grow hB2)
  clear hca1 hca2 hcb1 hcb2 ga gb txa txb hT2 hB2 HI HA HB HBA KM hI1' HJ1
  have XA1 := Lib.hid ((XA.out.grow ((Below.refl w2.heap.size w2).alloc (Nat.le_refl _) (.cells #[.slice pa na ca, .int .i64 p, .int .i64 q] 26))).grow ((Below.refl _ _).alloc (Nat.le_refl _) (.cells #[.slice pb nb cb, .int .i64 r, .int .i64 s] 26)))
  have XB1 := Lib.hid ((XB.out.grow ((Below.refl w2.heap.size w2).alloc (Nat.le_refl _) (.cells #[.slice pa na ca, .int .i64 p, .int .i64 q] 26))).grow ((Below.refl _ _).alloc (Nat.le_refl _) (.cells #[.slice pb nb cb, .int .i64 r, .int .i64 s] 26)))
  have MA1 := Lib.hid ((MoC.new w2 (.slice pa na ca) p q).alloc (.cells #[.slice pb nb cb, .int .i64 r, .int .i64 s] 26))
  have MB1 := Lib.hid (by have e := MoC.new (w2.alloc (.cells #[.slice pa na ca, .int .i64 p, .int .i64 q] 26)) (.slice pb nb cb) r s; rw [World.size_alloc] at e; exact e)
  have HT1 := Lib.hid (((HT.out).alloc HT.out.size (.cells #[.slice pa na ca, .int .i64 p, .int .i64 q] 26)).alloc (by have := HT.out.size; simp; omega) (.cells #[.slice pb nb cb, .int .i64 r, .int .i64 s] 26))
  have hgI := (((Below.refl w2.heap.size w2).alloc (Nat.le_refl _) (.cells #[.slice pa na ca, .int .i64 p, .int .i64 q] 26)).alloc (by simp) (.cells #[.slice pb nb cb, .int .i64 r, .int .i64 s] 26))
  have HIN := Lib.hid ((hgI.block w.heap.size (Array.getElem?_eq_some_iff.1 HIN.out).1).trans HIN.out)
  have HJ3 := Lib.hid (HJ2.out.grow hgI)
  clear XA XB HT hgI HJ2
  obtain ⟨zA, dA, hzA⟩ := HA0.out.1.cut
  subst hzA
  obtain ⟨W1, hW1⟩ : ∃ W, (w2.alloc (.cells #[.slice pa na ca, .int .i64 p, .int .i64 q] 26)).alloc (.cells #[.slice pb nb cb, .int .i64 r, .int .i64 s] 26) = W := ⟨_, rfl⟩
  rw [hW1] at XA1 XB1 MA1 MB1 HT1 HIN HJ3
  have m0 := HJ3.out.c0
  have m1 := HJ3.out.c1
  have i0 := heapT_cell HIN.out (k := 0) rfl
  dsimp only at m0 m1
  by_cases hlen : 120 < a0la.length
  · have i3 : (120 : Int) < a0la.length := by omega
    go_wp2_with (fail)
    try rw [hW1]
    go_ret
    exact ⟨rfl, HT1.out⟩
  have i3 : ¬ (120 : Int) < a0la.length := by omega
  go_wp2_with (fail)
  try rw [hW1]
  clear hW1 i0 hlen i3
  have tna := Lib.hid (goodm_tn GA.out)
  have tnb := Lib.hid (goodm_tn GB.out)
  have lna : l.length ≤ 100 := goodm_len GA.out
  have lnb : m.length ≤ 100 := goodm_len GB.out
  have va := Lib.hid GA.out.2.2.1
  have vb := Lib.hid GB.out.2.2.1
  refine (HK.out _).mono ?_
  rintro e w3 ⟨rfl, hB⟩
  clear m0 m1 HJ3 HK
  have hg := (Below.refl w3.heap.size w3).alloc (Nat.le_refl _) (.cells #[.int .i64 c0, .int .i64 c1] 24)
  replace XA1 := Lib.hid (XA1.out.grow hB)
  replace XB1 := Lib.hid (XB1.out.grow hB)
  replace MA1 := Lib.hid (MA1.out.grow hB)
  replace MB1 := Lib.hid (MB1.out.grow hB)
  replace HIN := Lib.hid ((hB.block w.heap.size (Array.getElem?_eq_some_iff.1 HIN.out).1).trans HIN.out)
  replace HT1 := Lib.hid (below_then HT1.out hB)
  replace XA1 := Lib.hid (XA1.out.grow hg)
  replace XB1 := Lib.hid (XB1.out.grow hg)
  replace MA1 := Lib.hid (MA1.out.grow hg)
  replace MB1 := Lib.hid (MB1.out.grow hg)
  replace HIN := Lib.hid ((hg.block w.heap.size (Array.getElem?_eq_some_iff.1 HIN.out).1).trans HIN.out)
  replace HT1 := Lib.hid (below_then HT1.out hg)
  have I8 := Lib.hid (IvC.new w3 c0 c1)
  clear hB hg
  obtain ⟨W3, hW3⟩ : ∃ W, w3.alloc (.cells #[.int .i64 c0, .int .i64 c1] 24) = W := ⟨_, rfl⟩
  rw [hW3] at XA1 XB1 MA1 MB1 HIN HT1 I8
  obtain ⟨R, hR⟩ : ∃ R : Bool, R = true ↔ VP a0la ∧ VI a0p a0q ∧ (a0la = [] ∨ ¬ Ent a0p a0q) := by
    by_cases h : VP a0la ∧ VI a0p a0q ∧ (a0la = [] ∨ ¬ Ent a0p a0q)
    · exact ⟨true, fun _ => h, fun _ => rfl⟩
    · exact ⟨false, (fun h' => by cases h'), fun h' => absurd h' h⟩
  have KVa := Lib.hid (fun w h => tvalid_ok (.slice zA a0la.length dA) a0p a0q a0la R w h HA0.out.2 hR)
  have KVr := Lib.hid (fun w h => rvalid6_ok (.slice zA a0la.length dA) a0p a0q a0la R w h HA0.out.2 hR)
  have SC := Lib.hid (constM_six3 (c0 := c0) (c1 := c1) HV.out)
  have KAd := Lib.hid (fun w h1 h2 => tadd_ok (.slice pa na ca) (.slice pb nb cb) p q r s l m w h1 tna.out lna CA.out h2 tnb.out lnb CB.out va.out vb.out)
  have RAd := Lib.hid (fun w h1 h2 => radd6m_ok (.slice pa na ca) (.slice pb nb cb) p q r s l m w h1 tna.out GA.out.1 lna SA.out.shs h2 tnb.out GB.out.1 lnb va.out vb.out)
  have KSu := Lib.hid (fun w h1 h2 => tsub_ok (.slice pa na ca) (.slice pb nb cb) p q r s l m w h1 tna.out lna CA.out h2 tnb.out lnb CB.out va.out vb.out)
  have RSu := Lib.hid (fun w h1 h2 => rsub6_ok (.slice pa na ca) (.slice pb nb cb) p q r s l m w h1 tna.out GA.out.1 lna SA.out.shs h2 tnb.out GB.out.1 lnb va.out vb.out GB.out.2.2.2.2)
  have KNe := Lib.hid (fun w h1 => tneg_ok (.slice pa na ca) p q l w h1 tna.out lna CA.out va.out)
  have RNe := Lib.hid (fun w h1 => rneg6_ok (.slice pa na ca) p q l w h1 tna.out lna va.out GA.out.2.2.2.2)
  have KMu := Lib.hid (fun w h1 h2 => tmul_ok (.slice pa na ca) (.slice pb nb cb) p q r s d l m w h1 tna.out lna h2 tnb.out lnb va.out vb.out)
  have RMu := Lib.hid (fun w h1 h2 => rmul6_ok (.slice pa na ca) (.slice pb nb cb) p q r s d l m w h1 tna.out lna h2 tnb.out lnb va.out vb.out)
  have KMi := Lib.hid (fun w h1 => tmuli_ok (.slice pa na ca) p q c0 c1 l w h1 tna.out lna va.out HV.out)
  have RMi := Lib.hid (fun w h1 => rmuli6_ok (.slice pa na ca) p q c0 c1 l w h1 tna.out lna va.out HV.out)
  have KTr := Lib.hid (fun w h1 => ttrunc_ok (.slice pa na ca) p q d l w h1 tna.out lna va.out)
  have RTr := Lib.hid (fun w h1 => rtrunc6_ok (.slice pa na ca) p q d l w h1 tna.out (fun t ht => ((vp_parts GA.out.1).2 t ht).1) lna hd6 va.out)
  have KRg := Lib.hid (fun w h1 => trange_ok (.slice pa na ca) p q l w h1 tna.out lna va.out)
  have RRg := Lib.hid (fun w h1 => rrange6_ok (.slice pa na ca) p q l w h1 tna.out lna va.out)
  have TAd := Lib.hid (addM_full (a := (l, (p, q))) (b := (m, (r, s))) GA.out.1 GB.out.1 tna.out tnb.out va.out vb.out).2.1
  have TSu := Lib.hid (addM_full (a := (l, (p, q))) (b := negM (m, (r, s))) GA.out.1 (neg_vp GB.out.1) tna.out (neg_tn tnb.out) va.out (neg_vb vb.out)).2.1
  have TNe : Hid (∀ t ∈ negT l, TV t) := Lib.hid (fun t ht => (neg_tn tna.out t ht).1)
  have TMu := Lib.hid (mulM_full (a := (l, (p, q))) (b := (m, (r, s))) d tna.out tnb.out lna lnb va.out vb.out).2.1
  have TMi := Lib.hid (mulM_full (a := (l, (p, q))) (b := constM (c0, c1)) 6 tna.out (fun t ht => ⟨(SC.out t ht).1, (SC.out t ht).2.1⟩) lna (constM_len _) va.out (constM_vb HV.out)).2.1
  have TTr : Hid (∀ t ∈ (truncM (l, (p, q)) d).1, TV t) := Lib.hid (normM_tv (truncP_tvY (fun t ht => (tna.out t ht).1)))
  obtain ⟨⟨N, n0, n1⟩, hN⟩ : ∃ R, addM (l, (p, q)) (m, (r, s)) = R := ⟨_, rfl⟩
  rw [hN] at KAd RAd TAd
  clear hN
  obtain ⟨⟨S, s0, s1⟩, hS⟩ : ∃ R, addM (l, (p, q)) (negM (m, (r, s))) = R := ⟨_, rfl⟩
  rw [hS] at KSu RSu TSu
  clear hS
  obtain ⟨⟨P, x0, x1⟩, hP⟩ : ∃ R, mulM (l, (p, q)) (m, (r, s)) d = R := ⟨_, rfl⟩
  rw [hP] at KMu RMu TMu
  clear hP
  obtain ⟨⟨Q, y0, y1⟩, hQ⟩ : ∃ R, mulM (l, (p, q)) (constM (c0, c1)) 6 = R := ⟨_, rfl⟩
  rw [hQ] at KMi RMi TMi
  clear hQ
  obtain ⟨⟨T, z0, z1⟩, hT⟩ : ∃ R, truncM (l, (p, q)) d = R := ⟨_, rfl⟩
  rw [hT] at KTr RTr TTr
  clear hT
  obtain ⟨⟨g0, g1⟩, hG⟩ : ∃ R, rangeM (l, (p, q)) = R := ⟨_, rfl⟩
  rw [hG] at KRg RRg
  clear hG
  obtain ⟨U, hU⟩ : ∃ U, negT l = U := ⟨_, rfl⟩
  rw [hU] at KNe RNe TNe
  clear hU
  obtain ⟨q', hq'⟩ : ∃ z, -q = z := ⟨_, rfl⟩
  obtain ⟨p', hp'⟩ : ∃ z, -p = z := ⟨_, rfl⟩
  rw [hq', hp'] at KNe RNe
  clear hq' hp'
  dsimp only at KAd RAd KSu RSu KMu RMu KMi RMi KTr RTr KRg RRg KNe RNe
  have YN := Lib.hid (fun (u v : Value) w h1 h2 => same_yes u v n0 n1 N w h1 h2 TAd.out)
  have YS := Lib.hid (fun (u v : Value) w h1 h2 => same_yes u v s0 s1 S w h1 h2 TSu.out)
  have YP := Lib.hid (fun (u v : Value) w h1 h2 => same_yes u v x0 x1 P w h1 h2 TMu.out)
  have YQ := Lib.hid (fun (u v : Value) w h1 h2 => same_yes u v y0 y1 Q w h1 h2 TMi.out)
  have YT := Lib.hid (fun (u v : Value) w h1 h2 => same_yes u v z0 z1 T w h1 h2 TTr.out)
  have YU := Lib.hid (fun (u v : Value) w h1 h2 => same_yes u v q' p' U w h1 h2 TNe.out)
  clear TAd TSu TNe TMu TMi TTr SC tna tnb va vb lna lnb hR GA GB CA CB SA SB HV hd0 hd6 T7 Wd
  have HXR := Lib.hid (HA0.out.1.grow HT1.out)
  go_wp2_with (fail)
  try rw [hW3]
  clear hW3
  have i0 := fun g : Grown W3 => heapT_cell ((g.h.block w.heap.size (Array.getElem?_eq_some_iff.1 HIN.out).1).trans HIN.out) (k := 0) rfl
  have i1 := fun g : Grown W3 => heapT_cell ((g.h.block w.heap.size (Array.getElem?_eq_some_iff.1 HIN.out).1).trans HIN.out) (k := 1) rfl
  have i2 := fun g : Grown W3 => heapT_cell ((g.h.block w.heap.size (Array.getElem?_eq_some_iff.1 HIN.out).1).trans HIN.out) (k := 2) rfl
  have k0 := fun g : Grown W3 => (MA1.out.grow g.h).c0
  have k1 := fun g : Grown W3 => (MA1.out.grow g.h).c1
  have k2 := fun g : Grown W3 => (MA1.out.grow g.h).c2
  have j0 := fun g : Grown W3 => (MB1.out.grow g.h).c0
  have j1 := fun g : Grown W3 => (MB1.out.grow g.h).c1
  have j2 := fun g : Grown W3 => (MB1.out.grow g.h).c2
  have l0 := fun g : Grown W3 => (I8.out.grow g.h).c0
  have l1 := fun g : Grown W3 => (I8.out.grow g.h).c1
  dsimp only at k0 k1 k2 j0 j1 j2 l0 l1
  refine region_pred (lk [(29, fun z_ _ => z_ = .bool true), (30, fun z_ _ => z_ = .bool true), (31, fun z_ _ => z_ = .pointer (some ⟨w.heap.size, 0, none⟩)), (32, fun z_ _ => z_ = .agg #[.slice zA a0la.length dA, .int .i64 a0p, .int .i64 a0q]), (33, fun z_ _ => z_ = .bool R), (34, fun z_ _ => z_ = .pointer (some ⟨w.heap.size, 0, none⟩)), (35, fun z_ _ => z_ = .agg #[.slice zA a0la.length dA, .int .i64 a0p, .int .i64 a0q]), (36, fun z_ _ => z_ = .bool R), (37, fun z_ _ => z_ = .bool true), (38, fun z_ _ => z_ = .bool true), (39, fun z_ _ => z_ = .bool true), (40, fun z_ _ => z_ = .agg #[.slice pa na ca, .int .i64 p, .int .i64 q]), (41, fun z_ _ => z_ = .agg #[.slice pb nb cb, .int .i64 r, .int .i64 s]), (42, MoP n0 n1 N), (43, fun z_ _ => z_ = .agg #[.slice pa na ca, .int .i64 p, .int .i64 q]), (44, fun z_ _ => z_ = .agg #[.slice pb nb cb, .int .i64 r, .int .i64 s]), (45, MoP n0 n1 N), (46, fun z_ _ => z_ = .bool true), (47, fun z_ _ => z_ = .bool true), (48, fun z_ _ => z_ = .bool true), (49, fun z_ _ => z_ = .agg #[.slice pa na ca, .int .i64 p, .int .i64 q]), (50, fun z_ _ => z_ = .agg #[.slice pb nb cb, .int .i64 r, .int .i64 s]), (51, MoP s0 s1 S), (52, fun z_ _ => z_ = .agg #[.slice pa na ca, .int .i64 p, .int .i64 q]), (53, fun z_ _ => z_ = .agg #[.slice pb nb cb, .int .i64 r, .int .i64 s]), (54, MoP s0 s1 S), (55, fun z_ _ => z_ = .bool true), (56, fun z_ _ => z_ = .bool true), (57, fun z_ _ => z_ = .bool true), (58, fun z_ _ => z_ = .agg #[.slice pa na ca, .int .i64 p, .int .i64 q]), (59, MoP q' p' U), (60, fun z_ _ => z_ = .agg #[.slice pa na ca, .int .i64 p, .int .i64 q]), (61, MoP q' p' U), (62, fun z_ _ => z_ = .bool true), (63, fun z_ _ => z_ = .bool true), (64, fun z_ _ => z_ = .bool true), (65, fun z_ _ => z_ = .agg #[.slice pa na ca, .int .i64 p, .int .i64 q]), (66, fun z_ _ => z_ = .agg #[.slice pb nb cb, .int .i64 r, .int .i64 s]), (67, fun z_ _ => z_ = .int .i64 d), (68, MoP x0 x1 P), (69, fun z_ _ => z_ = .agg #[.slice pa na ca, .int .i64 p, .int .i64 q]), (70, fun z_ _ => z_ = .agg #[.slice pb nb cb, .int .i64 r, .int .i64 s]), (71, fun z_ _ => z_ = .int .i64 d), (72, MoP x0 x1 P), (73, fun z_ _ => z_ = .bool true), (74, fun z_ _ => z_ = .bool true), (75, fun z_ _ => z_ = .bool true), (76, fun z_ _ => z_ = .agg #[.slice pa na ca, .int .i64 p, .int .i64 q]), (77, fun z_ _ => z_ = .agg #[.int .i64 c0, .int .i64 c1]), (78, MoP y0 y1 Q), (79, fun z_ _ => z_ = .agg #[.slice pa na ca, .int .i64 p, .int .i64 q]), (80, fun z_ _ => z_ = .agg #[.int .i64 c0, .int .i64 c1]), (81, MoP y0 y1 Q), (82, fun z_ _ => z_ = .bool true), (83, fun z_ _ => z_ = .bool true), (84, fun z_ _ => z_ = .bool true), (85, fun z_ _ => z_ = .agg #[.slice pa na ca, .int .i64 p, .int .i64 q]), (86, fun z_ _ => z_ = .int .i64 d), (87, MoP z0 z1 T), (88, fun z_ _ => z_ = .agg #[.slice pa na ca, .int .i64 p, .int .i64 q]), (89, fun z_ _ => z_ = .int .i64 d), (90, MoP z0 z1 T), (91, fun z_ _ => z_ = .bool true), (92, fun z_ _ => z_ = .bool true), (93, fun z_ _ => z_ = .bool true), (94, fun z_ _ => z_ = .agg #[.slice pa na ca, .int .i64 p, .int .i64 q]), (95, fun z_ _ => z_ = .agg #[.int .i64 g0, .int .i64 g1]), (96, fun z_ _ => z_ = .agg #[.slice pa na ca, .int .i64 p, .int .i64 q]), (97, fun z_ _ => z_ = .agg #[.int .i64 g0, .int .i64 g1]), (98, fun z_ _ => z_ = .bool true), (99, fun z_ _ => z_ = .bool true), (6, fun z_ _ => z_ = .bool true)]) (by kernel_rfl) (by kernel_rfl) (lk_steady _ ⟨steady_eq _, steady_eq _, steady_eq _, steady_eq _, steady_eq _, steady_eq _, steady_eq _, steady_eq _, steady_eq _, steady_eq _, steady_eq _, steady_eq _, steady_eq _, mop_steady _ _ _, steady_eq _, steady_eq _, mop_steady _ _ _, steady_eq _, steady_eq _, steady_eq _, steady_eq _, steady_eq _, mop_steady _ _ _, steady_eq _, steady_eq _, mop_steady _ _ _, steady_eq _, steady_eq _, steady_eq _, steady_eq _, mop_steady _ _ _, steady_eq _, mop_steady _ _ _, steady_eq _, steady_eq _, steady_eq _, steady_eq _, steady_eq _, steady_eq _, mop_steady _ _ _, steady_eq _, steady_eq _, steady_eq _, mop_steady _ _ _, steady_eq _, steady_eq _, steady_eq _, steady_eq _, steady_eq _, mop_steady _ _ _, steady_eq _, steady_eq _, mop_steady _ _ _, steady_eq _, steady_eq _, steady_eq _, steady_eq _, steady_eq _, mop_steady _ _ _, steady_eq _, steady_eq _, mop_steady _ _ _, steady_eq _, steady_eq _, steady_eq _, steady_eq _, steady_eq _, steady_eq _, steady_eq _, steady_eq _, steady_eq _, steady_eq _, trivial⟩) ?_ ?_
  · refine ⟨?_, ?_, ?_, ?_, ?_, ?_, ?_, ?_, ?_, ?_, ?_, ?_, ?_, ?_, ?_, ?_, ?_, ?_, ?_, ?_, ?_, ?_, ?_, ?_, ?_, ?_, ?_, ?_, ?_, ?_, ?_, ?_, ?_, ?_, ?_, ?_, ?_, ?_, ?_, ?_, ?_, ?_, ?_, ?_, ?_, ?_, ?_, ?_, ?_, ?_, ?_, ?_, ?_, ?_, ?_, ?_, ?_, ?_, ?_, ?_, ?_, ?_, ?_, ?_, ?_, ?_, ?_, ?_, ?_, ?_, ?_, ?_, trivial⟩
    · refine ob_plain [7] rfl rfl fun aa g h => ?_
      have yy0 := seen_out (v := .bool true) rfl rfl h.1
      have ee0 := getD_of yy0
      exact tupon_value (v := .bool true) (by simp [go_sem, ee0, yy0]) (Below.refl _ _) rfl
    · refine ob_plain [29] rfl rfl fun aa g h => ?_
      obtain ⟨_, yy0, rfl⟩ := seen_in rfl h.1
      have ee0 := getD_of yy0
      exact tupon_value (v := .bool true) (by simp [go_sem, ee0, yy0]) (Below.refl _ _) rfl
    · refine ob_gtrue [3] _ true 30 rfl rfl rfl rfl (fun v w h => h) fun aa g h => ?_
      have yy0 := seen_out (v := .pointer (some ⟨w.heap.size, 0, none⟩)) rfl rfl h.1
      have ee0 := getD_of yy0
      exact tupon_value (v := .pointer (some ⟨w.heap.size, 0, none⟩)) (by simp [go_sem, ee0, yy0]) (Below.refl _ _) rfl
    · refine ob_gtrue [31] _ true 30 rfl rfl rfl rfl (fun v w h => h) fun aa g h => ?_
      obtain ⟨_, yy0, rfl⟩ := seen_in rfl h.1
      have ee0 := getD_of yy0
      exact tupon_value (v := .agg #[.slice zA a0la.length dA, .int .i64 a0p, .int .i64 a0q]) (by simp [go_sem, ee0, yy0, i0 g, i1 g, i2 g]) (Below.refl _ _) rfl
    · refine ob_gtrue [32] _ true 30 rfl rfl rfl rfl (fun v w h => h) fun aa g h => ?_
      obtain ⟨_, yy0, rfl⟩ := seen_in rfl h.1
      have ee0 := getD_of yy0
      refine tupon_enter (f := 14) (args := #[.agg #[.slice zA a0la.length dA, .int .i64 a0p, .int .i64 a0q]]) (by simp [go_sem, ee0, yy0]) rfl ?_
      exact (KVa.out g.w (HXR.out.grow g.h)).mono fun e w' ⟨he, hB⟩ => ⟨_, he, hB, rfl⟩
    · refine ob_gtrue [3] _ true 30 rfl rfl rfl rfl (fun v w h => h) fun aa g h => ?_
      have yy0 := seen_out (v := .pointer (some ⟨w.heap.size, 0, none⟩)) rfl rfl h.1
      have ee0 := getD_of yy0
      exact tupon_value (v := .pointer (some ⟨w.heap.size, 0, none⟩)) (by simp [go_sem, ee0, yy0]) (Below.refl _ _) rfl
    · refine ob_gtrue [34] _ true 30 rfl rfl rfl rfl (fun v w h => h) fun aa g h => ?_
      obtain ⟨_, yy0, rfl⟩ := seen_in rfl h.1
      have ee0 := getD_of yy0
      exact tupon_value (v := .agg #[.slice zA a0la.length dA, .int .i64 a0p, .int .i64 a0q]) (by simp [go_sem, ee0, yy0, i0 g, i1 g, i2 g]) (Below.refl _ _) rfl
    · refine ob_gtrue [35] _ true 30 rfl rfl rfl rfl (fun v w h => h) fun aa g h => ?_
      obtain ⟨_, yy0, rfl⟩ := seen_in rfl h.1
      have ee0 := getD_of yy0
      refine tupon_enter (f := 15) (args := #[.agg #[.slice zA a0la.length dA, .int .i64 a0p, .int .i64 a0q]]) (by simp [go_sem, ee0, yy0]) rfl ?_
      exact (KVr.out g.w (HXR.out.grow g.h)).mono fun e w' ⟨he, hB⟩ => ⟨_, he, hB, rfl⟩
    · refine ob_gtrue [33, 36] _ true 30 rfl rfl rfl rfl (fun v w h => h) fun aa g h => ?_
      obtain ⟨_, yy0, rfl⟩ := seen_in rfl h.1
      have ee0 := getD_of yy0
      obtain ⟨_, yy1, rfl⟩ := seen_in rfl h.2.1
      have ee1 := getD_of yy1
      exact tupon_value (v := .bool true) (by simp [go_sem, ee0, yy0, ee1, yy1]) (Below.refl _ _) rfl
    · refine ob_plain [30, 37] rfl rfl fun aa g h => ?_
      obtain ⟨_, yy0, rfl⟩ := seen_in rfl h.1
      have ee0 := getD_of yy0
      obtain ⟨_, yy1, rfl⟩ := seen_in rfl h.2.1
      have ee1 := getD_of yy1
      exact tupon_value (v := .bool true) (by simp [go_sem, ee0, yy0, ee1, yy1]) (Below.refl _ _) rfl
    · refine ob_plain [38] rfl rfl fun aa g h => ?_
      obtain ⟨_, yy0, rfl⟩ := seen_in rfl h.1
      have ee0 := getD_of yy0
      exact tupon_value (v := .bool true) (by simp [go_sem, ee0, yy0]) (Below.refl _ _) rfl
    · refine ob_gtrue [8] _ true 39 rfl rfl rfl rfl (fun v w h => h) fun aa g h => ?_
      have yy0 := seen_out (v := .pointer (some ⟨w2.heap.size, 0, none⟩)) rfl rfl h.1
      have ee0 := getD_of yy0
      exact tupon_value (v := .agg #[.slice pa na ca, .int .i64 p, .int .i64 q]) (by simp [go_sem, ee0, yy0, k0 g, k1 g, k2 g]) (Below.refl _ _) rfl
    · refine ob_gtrue [9] _ true 39 rfl rfl rfl rfl (fun v w h => h) fun aa g h => ?_
      have yy0 := seen_out (v := .pointer (some ⟨w2.heap.size + 1, 0, none⟩)) rfl rfl h.1
      have ee0 := getD_of yy0
      exact tupon_value (v := .agg #[.slice pb nb cb, .int .i64 r, .int .i64 s]) (by simp [go_sem, ee0, yy0, j0 g, j1 g, j2 g]) (Below.refl _ _) rfl
    · refine ob_gtrue [40, 41] _ true 39 rfl rfl rfl rfl (fun v w h => h) fun aa g h => ?_
      obtain ⟨_, yy0, rfl⟩ := seen_in rfl h.1
      have ee0 := getD_of yy0
      obtain ⟨_, yy1, rfl⟩ := seen_in rfl h.2.1
      have ee1 := getD_of yy1
      refine tupon_enter (f := 17) (args := #[.agg #[.slice pa na ca, .int .i64 p, .int .i64 q], .agg #[.slice pb nb cb, .int .i64 r, .int .i64 s]]) (by simp [go_sem, ee0, yy0, ee1, yy1]) rfl ?_
      exact (KAd.out g.w (XA1.out.grow g.h) (XB1.out.grow g.h)).mono fun e w' ⟨r, he, hx, _, hB⟩ => ⟨_, he, hB, mop_mk hx⟩
    · refine ob_gtrue [8] _ true 39 rfl rfl rfl rfl (fun v w h => h) fun aa g h => ?_
      have yy0 := seen_out (v := .pointer (some ⟨w2.heap.size, 0, none⟩)) rfl rfl h.1
      have ee0 := getD_of yy0
      exact tupon_value (v := .agg #[.slice pa na ca, .int .i64 p, .int .i64 q]) (by simp [go_sem, ee0, yy0, k0 g, k1 g, k2 g]) (Below.refl _ _) rfl
    · refine ob_gtrue [9] _ true 39 rfl rfl rfl rfl (fun v w h => h) fun aa g h => ?_
      have yy0 := seen_out (v := .pointer (some ⟨w2.heap.size + 1, 0, none⟩)) rfl rfl h.1
      have ee0 := getD_of yy0
      exact tupon_value (v := .agg #[.slice pb nb cb, .int .i64 r, .int .i64 s]) (by simp [go_sem, ee0, yy0, j0 g, j1 g, j2 g]) (Below.refl _ _) rfl
    · refine ob_gtrue [43, 44] _ true 39 rfl rfl rfl rfl (fun v w h => h) fun aa g h => ?_
      obtain ⟨_, yy0, rfl⟩ := seen_in rfl h.1
      have ee0 := getD_of yy0
      obtain ⟨_, yy1, rfl⟩ := seen_in rfl h.2.1
      have ee1 := getD_of yy1
      refine tupon_enter (f := 18) (args := #[.agg #[.slice pa na ca, .int .i64 p, .int .i64 q], .agg #[.slice pb nb cb, .int .i64 r, .int .i64 s]]) (by simp [go_sem, ee0, yy0, ee1, yy1]) rfl ?_
      exact (RAd.out g.w (XA1.out.grow g.h) (XB1.out.grow g.h)).mono fun e w' ⟨r, he, hx, hB⟩ => ⟨_, he, hB, mop_mk hx⟩
    · refine ob_gtrue [42, 45] _ true 39 rfl rfl rfl rfl (fun v w h => h) fun aa g h => ?_
      obtain ⟨_, yy0, ⟨p42, n42, c42, rfl, tx42⟩⟩ := seen_in rfl h.1
      have ee0 := getD_of yy0
      obtain ⟨_, yy1, ⟨p45, n45, c45, rfl, tx45⟩⟩ := seen_in rfl h.2.1
      have ee1 := getD_of yy1
      refine tupon_enter (f := 16) (args := #[.agg #[.slice p42 n42 c42, .int .i64 n0, .int .i64 n1], .agg #[.slice p45 n45 c45, .int .i64 n0, .int .i64 n1]]) (by simp [go_sem, ee0, yy0, ee1, yy1]) rfl ?_
      exact (YN.out (.slice p42 n42 c42) (.slice p45 n45 c45) g.w tx42 tx45).mono fun e w' ⟨he, hB⟩ => ⟨_, he, hB, rfl⟩
    · refine ob_plain [39, 46] rfl rfl fun aa g h => ?_
      obtain ⟨_, yy0, rfl⟩ := seen_in rfl h.1
      have ee0 := getD_of yy0
      obtain ⟨_, yy1, rfl⟩ := seen_in rfl h.2.1
      have ee1 := getD_of yy1
      exact tupon_value (v := .bool true) (by simp [go_sem, ee0, yy0, ee1, yy1]) (Below.refl _ _) rfl
    · refine ob_plain [47] rfl rfl fun aa g h => ?_
      obtain ⟨_, yy0, rfl⟩ := seen_in rfl h.1
      have ee0 := getD_of yy0
      exact tupon_value (v := .bool true) (by simp [go_sem, ee0, yy0]) (Below.refl _ _) rfl
    · refine ob_gtrue [8] _ true 48 rfl rfl rfl rfl (fun v w h => h) fun aa g h => ?_
      have yy0 := seen_out (v := .pointer (some ⟨w2.heap.size, 0, none⟩)) rfl rfl h.1
      have ee0 := getD_of yy0
      exact tupon_value (v := .agg #[.slice pa na ca, .int .i64 p, .int .i64 q]) (by simp [go_sem, ee0, yy0, k0 g, k1 g, k2 g]) (Below.refl _ _) rfl
    · refine ob_gtrue [9] _ true 48 rfl rfl rfl rfl (fun v w h => h) fun aa g h => ?_
      have yy0 := seen_out (v := .pointer (some ⟨w2.heap.size + 1, 0, none⟩)) rfl rfl h.1
      have ee0 := getD_of yy0
      exact tupon_value (v := .agg #[.slice pb nb cb, .int .i64 r, .int .i64 s]) (by simp [go_sem, ee0, yy0, j0 g, j1 g, j2 g]) (Below.refl _ _) rfl
    · refine ob_gtrue [49, 50] _ true 48 rfl rfl rfl rfl (fun v w h => h) fun aa g h => ?_
      obtain ⟨_, yy0, rfl⟩ := seen_in rfl h.1
      have ee0 := getD_of yy0
      obtain ⟨_, yy1, rfl⟩ := seen_in rfl h.2.1
      have ee1 := getD_of yy1
      refine tupon_enter (f := 19) (args := #[.agg #[.slice pa na ca, .int .i64 p, .int .i64 q], .agg #[.slice pb nb cb, .int .i64 r, .int .i64 s]]) (by simp [go_sem, ee0, yy0, ee1, yy1]) rfl ?_
      exact (KSu.out g.w (XA1.out.grow g.h) (XB1.out.grow g.h)).mono fun e w' ⟨r, he, hx, _, hB⟩ => ⟨_, he, hB, mop_mk hx⟩
    · refine ob_gtrue [8] _ true 48 rfl rfl rfl rfl (fun v w h => h) fun aa g h => ?_
      have yy0 := seen_out (v := .pointer (some ⟨w2.heap.size, 0, none⟩)) rfl rfl h.1
      have ee0 := getD_of yy0
      exact tupon_value (v := .agg #[.slice pa na ca, .int .i64 p, .int .i64 q]) (by simp [go_sem, ee0, yy0, k0 g, k1 g, k2 g]) (Below.refl _ _) rfl
    · refine ob_gtrue [9] _ true 48 rfl rfl rfl rfl (fun v w h => h) fun aa g h => ?_
      have yy0 := seen_out (v := .pointer (some ⟨w2.heap.size + 1, 0, none⟩)) rfl rfl h.1
      have ee0 := getD_of yy0
      exact tupon_value (v := .agg #[.slice pb nb cb, .int .i64 r, .int .i64 s]) (by simp [go_sem, ee0, yy0, j0 g, j1 g, j2 g]) (Below.refl _ _) rfl
    · refine ob_gtrue [52, 53] _ true 48 rfl rfl rfl rfl (fun v w h => h) fun aa g h => ?_
      obtain ⟨_, yy0, rfl⟩ := seen_in rfl h.1
      have ee0 := getD_of yy0
      obtain ⟨_, yy1, rfl⟩ := seen_in rfl h.2.1
      have ee1 := getD_of yy1
      refine tupon_enter (f := 20) (args := #[.agg #[.slice pa na ca, .int .i64 p, .int .i64 q], .agg #[.slice pb nb cb, .int .i64 r, .int .i64 s]]) (by simp [go_sem, ee0, yy0, ee1, yy1]) rfl ?_
      exact (RSu.out g.w (XA1.out.grow g.h) (XB1.out.grow g.h)).mono fun e w' ⟨r, he, hx, hB⟩ => ⟨_, he, hB, mop_mk hx⟩
    · refine ob_gtrue [51, 54] _ true 48 rfl rfl rfl rfl (fun v w h => h) fun aa g h => ?_
      obtain ⟨_, yy0, ⟨p51, n51, c51, rfl, tx51⟩⟩ := seen_in rfl h.1
      have ee0 := getD_of yy0
      obtain ⟨_, yy1, ⟨p54, n54, c54, rfl, tx54⟩⟩ := seen_in rfl h.2.1
      have ee1 := getD_of yy1
      refine tupon_enter (f := 16) (args := #[.agg #[.slice p51 n51 c51, .int .i64 s0, .int .i64 s1], .agg #[.slice p54 n54 c54, .int .i64 s0, .int .i64 s1]]) (by simp [go_sem, ee0, yy0, ee1, yy1]) rfl ?_
      exact (YS.out (.slice p51 n51 c51) (.slice p54 n54 c54) g.w tx51 tx54).mono fun e w' ⟨he, hB⟩ => ⟨_, he, hB, rfl⟩
    · refine ob_plain [48, 55] rfl rfl fun aa g h => ?_
      obtain ⟨_, yy0, rfl⟩ := seen_in rfl h.1
      have ee0 := getD_of yy0
      obtain ⟨_, yy1, rfl⟩ := seen_in rfl h.2.1
      have ee1 := getD_of yy1
      exact tupon_value (v := .bool true) (by simp [go_sem, ee0, yy0, ee1, yy1]) (Below.refl _ _) rfl
    · refine ob_plain [56] rfl rfl fun aa g h => ?_
      obtain ⟨_, yy0, rfl⟩ := seen_in rfl h.1
      have ee0 := getD_of yy0
      exact tupon_value (v := .bool true) (by simp [go_sem, ee0, yy0]) (Below.refl _ _) rfl
    · refine ob_gtrue [8] _ true 57 rfl rfl rfl rfl (fun v w h => h) fun aa g h => ?_
      have yy0 := seen_out (v := .pointer (some ⟨w2.heap.size, 0, none⟩)) rfl rfl h.1
      have ee0 := getD_of yy0
      exact tupon_value (v := .agg #[.slice pa na ca, .int .i64 p, .int .i64 q]) (by simp [go_sem, ee0, yy0, k0 g, k1 g, k2 g]) (Below.refl _ _) rfl
    · refine ob_gtrue [58] _ true 57 rfl rfl rfl rfl (fun v w h => h) fun aa g h => ?_
      obtain ⟨_, yy0, rfl⟩ := seen_in rfl h.1
      have ee0 := getD_of yy0
      refine tupon_enter (f := 21) (args := #[.agg #[.slice pa na ca, .int .i64 p, .int .i64 q]]) (by simp [go_sem, ee0, yy0]) rfl ?_
      exact (KNe.out g.w (XA1.out.grow g.h)).mono fun e w' ⟨r, he, hx, _, hB⟩ => ⟨_, he, hB, mop_mk hx⟩
    · refine ob_gtrue [8] _ true 57 rfl rfl rfl rfl (fun v w h => h) fun aa g h => ?_
      have yy0 := seen_out (v := .pointer (some ⟨w2.heap.size, 0, none⟩)) rfl rfl h.1
      have ee0 := getD_of yy0
      exact tupon_value (v := .agg #[.slice pa na ca, .int .i64 p, .int .i64 q]) (by simp [go_sem, ee0, yy0, k0 g, k1 g, k2 g]) (Below.refl _ _) rfl
    · refine ob_gtrue [60] _ true 57 rfl rfl rfl rfl (fun v w h => h) fun aa g h => ?_
      obtain ⟨_, yy0, rfl⟩ := seen_in rfl h.1
      have ee0 := getD_of yy0
      refine tupon_enter (f := 22) (args := #[.agg #[.slice pa na ca, .int .i64 p, .int .i64 q]]) (by simp [go_sem, ee0, yy0]) rfl ?_
      exact (RNe.out g.w (XA1.out.grow g.h)).mono fun e w' ⟨r, he, hx, hB⟩ => ⟨_, he, hB, mop_mk hx⟩
    · refine ob_gtrue [59, 61] _ true 57 rfl rfl rfl rfl (fun v w h => h) fun aa g h => ?_
      obtain ⟨_, yy0, ⟨p59, n59, c59, rfl, tx59⟩⟩ := seen_in rfl h.1
      have ee0 := getD_of yy0
      obtain ⟨_, yy1, ⟨p61, n61, c61, rfl, tx61⟩⟩ := seen_in rfl h.2.1
      have ee1 := getD_of yy1
      refine tupon_enter (f := 16) (args := #[.agg #[.slice p59 n59 c59, .int .i64 q', .int .i64 p'], .agg #[.slice p61 n61 c61, .int .i64 q', .int .i64 p']]) (by simp [go_sem, ee0, yy0, ee1, yy1]) rfl ?_
      exact (YU.out (.slice p59 n59 c59) (.slice p61 n61 c61) g.w tx59 tx61).mono fun e w' ⟨he, hB⟩ => ⟨_, he, hB, rfl⟩
    · refine ob_plain [57, 62] rfl rfl fun aa g h => ?_
      obtain ⟨_, yy0, rfl⟩ := seen_in rfl h.1
      have ee0 := getD_of yy0
      obtain ⟨_, yy1, rfl⟩ := seen_in rfl h.2.1
      have ee1 := getD_of yy1
      exact tupon_value (v := .bool true) (by simp [go_sem, ee0, yy0, ee1, yy1]) (Below.refl _ _) rfl
    · refine ob_plain [63] rfl rfl fun aa g h => ?_
      obtain ⟨_, yy0, rfl⟩ := seen_in rfl h.1
      have ee0 := getD_of yy0
      exact tupon_value (v := .bool true) (by simp [go_sem, ee0, yy0]) (Below.refl _ _) rfl
    · refine ob_gtrue [8] _ true 64 rfl rfl rfl rfl (fun v w h => h) fun aa g h => ?_
      have yy0 := seen_out (v := .pointer (some ⟨w2.heap.size, 0, none⟩)) rfl rfl h.1
      have ee0 := getD_of yy0
      exact tupon_value (v := .agg #[.slice pa na ca, .int .i64 p, .int .i64 q]) (by simp [go_sem, ee0, yy0, k0 g, k1 g, k2 g]) (Below.refl _ _) rfl
    · refine ob_gtrue [9] _ true 64 rfl rfl rfl rfl (fun v w h => h) fun aa g h => ?_
      have yy0 := seen_out (v := .pointer (some ⟨w2.heap.size + 1, 0, none⟩)) rfl rfl h.1
      have ee0 := getD_of yy0
      exact tupon_value (v := .agg #[.slice pb nb cb, .int .i64 r, .int .i64 s]) (by simp [go_sem, ee0, yy0, j0 g, j1 g, j2 g]) (Below.refl _ _) rfl
    · refine ob_gtrue [10] _ true 64 rfl rfl rfl rfl (fun v w h => h) fun aa g h => ?_
      have yy0 := seen_out (v := .int .i64 d) rfl rfl h.1
      have ee0 := getD_of yy0
      exact tupon_value (v := .int .i64 d) (by simp [go_sem, ee0, yy0]) (Below.refl _ _) rfl
    · refine ob_gtrue [65, 66, 67] _ true 64 rfl rfl rfl rfl (fun v w h => h) fun aa g h => ?_
      obtain ⟨_, yy0, rfl⟩ := seen_in rfl h.1
      have ee0 := getD_of yy0
      obtain ⟨_, yy1, rfl⟩ := seen_in rfl h.2.1
      have ee1 := getD_of yy1
      obtain ⟨_, yy2, rfl⟩ := seen_in rfl h.2.2.1
      have ee2 := getD_of yy2
      refine tupon_enter (f := 23) (args := #[.agg #[.slice pa na ca, .int .i64 p, .int .i64 q], .agg #[.slice pb nb cb, .int .i64 r, .int .i64 s], .int .i64 d]) (by simp [go_sem, ee0, yy0, ee1, yy1, ee2, yy2]) rfl ?_
      exact (KMu.out g.w (XA1.out.grow g.h) (XB1.out.grow g.h)).mono fun e w' ⟨r, he, hx, _, hB⟩ => ⟨_, he, hB, mop_mk hx⟩
    · refine ob_gtrue [8] _ true 64 rfl rfl rfl rfl (fun v w h => h) fun aa g h => ?_
      have yy0 := seen_out (v := .pointer (some ⟨w2.heap.size, 0, none⟩)) rfl rfl h.1
      have ee0 := getD_of yy0
      exact tupon_value (v := .agg #[.slice pa na ca, .int .i64 p, .int .i64 q]) (by simp [go_sem, ee0, yy0, k0 g, k1 g, k2 g]) (Below.refl _ _) rfl
    · refine ob_gtrue [9] _ true 64 rfl rfl rfl rfl (fun v w h => h) fun aa g h => ?_
      have yy0 := seen_out (v := .pointer (some ⟨w2.heap.size + 1, 0, none⟩)) rfl rfl h.1
      have ee0 := getD_of yy0
      exact tupon_value (v := .agg #[.slice pb nb cb, .int .i64 r, .int .i64 s]) (by simp [go_sem, ee0, yy0, j0 g, j1 g, j2 g]) (Below.refl _ _) rfl
    · refine ob_gtrue [10] _ true 64 rfl rfl rfl rfl (fun v w h => h) fun aa g h => ?_
      have yy0 := seen_out (v := .int .i64 d) rfl rfl h.1
      have ee0 := getD_of yy0
      exact tupon_value (v := .int .i64 d) (by simp [go_sem, ee0, yy0]) (Below.refl _ _) rfl
    · refine ob_gtrue [69, 70, 71] _ true 64 rfl rfl rfl rfl (fun v w h => h) fun aa g h => ?_
      obtain ⟨_, yy0, rfl⟩ := seen_in rfl h.1
      have ee0 := getD_of yy0
      obtain ⟨_, yy1, rfl⟩ := seen_in rfl h.2.1
      have ee1 := getD_of yy1
      obtain ⟨_, yy2, rfl⟩ := seen_in rfl h.2.2.1
      have ee2 := getD_of yy2
      refine tupon_enter (f := 24) (args := #[.agg #[.slice pa na ca, .int .i64 p, .int .i64 q], .agg #[.slice pb nb cb, .int .i64 r, .int .i64 s], .int .i64 d]) (by simp [go_sem, ee0, yy0, ee1, yy1, ee2, yy2]) rfl ?_
      exact (RMu.out g.w (XA1.out.grow g.h) (XB1.out.grow g.h)).mono fun e w' ⟨r, he, hx, hB⟩ => ⟨_, he, hB, mop_mk hx⟩
    · refine ob_gtrue [68, 72] _ true 64 rfl rfl rfl rfl (fun v w h => h) fun aa g h => ?_
      obtain ⟨_, yy0, ⟨p68, n68, c68, rfl, tx68⟩⟩ := seen_in rfl h.1
      have ee0 := getD_of yy0
      obtain ⟨_, yy1, ⟨p72, n72, c72, rfl, tx72⟩⟩ := seen_in rfl h.2.1
      have ee1 := getD_of yy1
      refine tupon_enter (f := 16) (args := #[.agg #[.slice p68 n68 c68, .int .i64 x0, .int .i64 x1], .agg #[.slice p72 n72 c72, .int .i64 x0, .int .i64 x1]]) (by simp [go_sem, ee0, yy0, ee1, yy1]) rfl ?_
      exact (YP.out (.slice p68 n68 c68) (.slice p72 n72 c72) g.w tx68 tx72).mono fun e w' ⟨he, hB⟩ => ⟨_, he, hB, rfl⟩
    · refine ob_plain [64, 73] rfl rfl fun aa g h => ?_
      obtain ⟨_, yy0, rfl⟩ := seen_in rfl h.1
      have ee0 := getD_of yy0
      obtain ⟨_, yy1, rfl⟩ := seen_in rfl h.2.1
      have ee1 := getD_of yy1
      exact tupon_value (v := .bool true) (by simp [go_sem, ee0, yy0, ee1, yy1]) (Below.refl _ _) rfl
    · refine ob_plain [74] rfl rfl fun aa g h => ?_
      obtain ⟨_, yy0, rfl⟩ := seen_in rfl h.1
      have ee0 := getD_of yy0
      exact tupon_value (v := .bool true) (by simp [go_sem, ee0, yy0]) (Below.refl _ _) rfl
    · refine ob_gtrue [8] _ true 75 rfl rfl rfl rfl (fun v w h => h) fun aa g h => ?_
      have yy0 := seen_out (v := .pointer (some ⟨w2.heap.size, 0, none⟩)) rfl rfl h.1
      have ee0 := getD_of yy0
      exact tupon_value (v := .agg #[.slice pa na ca, .int .i64 p, .int .i64 q]) (by simp [go_sem, ee0, yy0, k0 g, k1 g, k2 g]) (Below.refl _ _) rfl
    · refine ob_gtrue [11] _ true 75 rfl rfl rfl rfl (fun v w h => h) fun aa g h => ?_
      have yy0 := seen_out (v := .pointer (some ⟨w3.heap.size, 0, none⟩)) rfl rfl h.1
      have ee0 := getD_of yy0
      exact tupon_value (v := .agg #[.int .i64 c0, .int .i64 c1]) (by simp [go_sem, ee0, yy0, l0 g, l1 g]) (Below.refl _ _) rfl
    · refine ob_gtrue [76, 77] _ true 75 rfl rfl rfl rfl (fun v w h => h) fun aa g h => ?_
      obtain ⟨_, yy0, rfl⟩ := seen_in rfl h.1
      have ee0 := getD_of yy0
      obtain ⟨_, yy1, rfl⟩ := seen_in rfl h.2.1
      have ee1 := getD_of yy1
      refine tupon_enter (f := 25) (args := #[.agg #[.slice pa na ca, .int .i64 p, .int .i64 q], .agg #[.int .i64 c0, .int .i64 c1]]) (by simp [go_sem, ee0, yy0, ee1, yy1]) rfl ?_
      exact (KMi.out g.w (XA1.out.grow g.h)).mono fun e w' ⟨r, he, hx, _, hB⟩ => ⟨_, he, hB, mop_mk hx⟩
    · refine ob_gtrue [8] _ true 75 rfl rfl rfl rfl (fun v w h => h) fun aa g h => ?_
      have yy0 := seen_out (v := .pointer (some ⟨w2.heap.size, 0, none⟩)) rfl rfl h.1
      have ee0 := getD_of yy0
      exact tupon_value (v := .agg #[.slice pa na ca, .int .i64 p, .int .i64 q]) (by simp [go_sem, ee0, yy0, k0 g, k1 g, k2 g]) (Below.refl _ _) rfl
    · refine ob_gtrue [11] _ true 75 rfl rfl rfl rfl (fun v w h => h) fun aa g h => ?_
      have yy0 := seen_out (v := .pointer (some ⟨w3.heap.size, 0, none⟩)) rfl rfl h.1
      have ee0 := getD_of yy0
      exact tupon_value (v := .agg #[.int .i64 c0, .int .i64 c1]) (by simp [go_sem, ee0, yy0, l0 g, l1 g]) (Below.refl _ _) rfl
    · refine ob_gtrue [79, 80] _ true 75 rfl rfl rfl rfl (fun v w h => h) fun aa g h => ?_
      obtain ⟨_, yy0, rfl⟩ := seen_in rfl h.1
      have ee0 := getD_of yy0
      obtain ⟨_, yy1, rfl⟩ := seen_in rfl h.2.1
      have ee1 := getD_of yy1
      refine tupon_enter (f := 26) (args := #[.agg #[.slice pa na ca, .int .i64 p, .int .i64 q], .agg #[.int .i64 c0, .int .i64 c1]]) (by simp [go_sem, ee0, yy0, ee1, yy1]) rfl ?_
      exact (RMi.out g.w (XA1.out.grow g.h)).mono fun e w' ⟨r, he, hx, hB⟩ => ⟨_, he, hB, mop_mk hx⟩
    · refine ob_gtrue [78, 81] _ true 75 rfl rfl rfl rfl (fun v w h => h) fun aa g h => ?_
      obtain ⟨_, yy0, ⟨p78, n78, c78, rfl, tx78⟩⟩ := seen_in rfl h.1
      have ee0 := getD_of yy0
      obtain ⟨_, yy1, ⟨p81, n81, c81, rfl, tx81⟩⟩ := seen_in rfl h.2.1
      have ee1 := getD_of yy1
      refine tupon_enter (f := 16) (args := #[.agg #[.slice p78 n78 c78, .int .i64 y0, .int .i64 y1], .agg #[.slice p81 n81 c81, .int .i64 y0, .int .i64 y1]]) (by simp [go_sem, ee0, yy0, ee1, yy1]) rfl ?_
      exact (YQ.out (.slice p78 n78 c78) (.slice p81 n81 c81) g.w tx78 tx81).mono fun e w' ⟨he, hB⟩ => ⟨_, he, hB, rfl⟩
    · refine ob_plain [75, 82] rfl rfl fun aa g h => ?_
      obtain ⟨_, yy0, rfl⟩ := seen_in rfl h.1
      have ee0 := getD_of yy0
      obtain ⟨_, yy1, rfl⟩ := seen_in rfl h.2.1
      have ee1 := getD_of yy1
      exact tupon_value (v := .bool true) (by simp [go_sem, ee0, yy0, ee1, yy1]) (Below.refl _ _) rfl
    · refine ob_plain [83] rfl rfl fun aa g h => ?_
      obtain ⟨_, yy0, rfl⟩ := seen_in rfl h.1
      have ee0 := getD_of yy0
      exact tupon_value (v := .bool true) (by simp [go_sem, ee0, yy0]) (Below.refl _ _) rfl
    · refine ob_gtrue [8] _ true 84 rfl rfl rfl rfl (fun v w h => h) fun aa g h => ?_
      have yy0 := seen_out (v := .pointer (some ⟨w2.heap.size, 0, none⟩)) rfl rfl h.1
      have ee0 := getD_of yy0
      exact tupon_value (v := .agg #[.slice pa na ca, .int .i64 p, .int .i64 q]) (by simp [go_sem, ee0, yy0, k0 g, k1 g, k2 g]) (Below.refl _ _) rfl
    · refine ob_gtrue [10] _ true 84 rfl rfl rfl rfl (fun v w h => h) fun aa g h => ?_
      have yy0 := seen_out (v := .int .i64 d) rfl rfl h.1
      have ee0 := getD_of yy0
      exact tupon_value (v := .int .i64 d) (by simp [go_sem, ee0, yy0]) (Below.refl _ _) rfl
    · refine ob_gtrue [85, 86] _ true 84 rfl rfl rfl rfl (fun v w h => h) fun aa g h => ?_
      obtain ⟨_, yy0, rfl⟩ := seen_in rfl h.1
      have ee0 := getD_of yy0
      obtain ⟨_, yy1, rfl⟩ := seen_in rfl h.2.1
      have ee1 := getD_of yy1
      refine tupon_enter (f := 27) (args := #[.agg #[.slice pa na ca, .int .i64 p, .int .i64 q], .int .i64 d]) (by simp [go_sem, ee0, yy0, ee1, yy1]) rfl ?_
      exact (KTr.out g.w (XA1.out.grow g.h)).mono fun e w' ⟨r, he, hx, _, hB⟩ => ⟨_, he, hB, mop_mk hx⟩
    · refine ob_gtrue [8] _ true 84 rfl rfl rfl rfl (fun v w h => h) fun aa g h => ?_
      have yy0 := seen_out (v := .pointer (some ⟨w2.heap.size, 0, none⟩)) rfl rfl h.1
      have ee0 := getD_of yy0
      exact tupon_value (v := .agg #[.slice pa na ca, .int .i64 p, .int .i64 q]) (by simp [go_sem, ee0, yy0, k0 g, k1 g, k2 g]) (Below.refl _ _) rfl
    · refine ob_gtrue [10] _ true 84 rfl rfl rfl rfl (fun v w h => h) fun aa g h => ?_
      have yy0 := seen_out (v := .int .i64 d) rfl rfl h.1
      have ee0 := getD_of yy0
      exact tupon_value (v := .int .i64 d) (by simp [go_sem, ee0, yy0]) (Below.refl _ _) rfl
    · refine ob_gtrue [88, 89] _ true 84 rfl rfl rfl rfl (fun v w h => h) fun aa g h => ?_
      obtain ⟨_, yy0, rfl⟩ := seen_in rfl h.1
      have ee0 := getD_of yy0
      obtain ⟨_, yy1, rfl⟩ := seen_in rfl h.2.1
      have ee1 := getD_of yy1
      refine tupon_enter (f := 28) (args := #[.agg #[.slice pa na ca, .int .i64 p, .int .i64 q], .int .i64 d]) (by simp [go_sem, ee0, yy0, ee1, yy1]) rfl ?_
      exact (RTr.out g.w (XA1.out.grow g.h)).mono fun e w' ⟨r, he, hx, hB⟩ => ⟨_, he, hB, mop_mk hx⟩
    · refine ob_gtrue [87, 90] _ true 84 rfl rfl rfl rfl (fun v w h => h) fun aa g h => ?_
      obtain ⟨_, yy0, ⟨p87, n87, c87, rfl, tx87⟩⟩ := seen_in rfl h.1
      have ee0 := getD_of yy0
      obtain ⟨_, yy1, ⟨p90, n90, c90, rfl, tx90⟩⟩ := seen_in rfl h.2.1
      have ee1 := getD_of yy1
      refine tupon_enter (f := 16) (args := #[.agg #[.slice p87 n87 c87, .int .i64 z0, .int .i64 z1], .agg #[.slice p90 n90 c90, .int .i64 z0, .int .i64 z1]]) (by simp [go_sem, ee0, yy0, ee1, yy1]) rfl ?_
      exact (YT.out (.slice p87 n87 c87) (.slice p90 n90 c90) g.w tx87 tx90).mono fun e w' ⟨he, hB⟩ => ⟨_, he, hB, rfl⟩
    · refine ob_plain [84, 91] rfl rfl fun aa g h => ?_
      obtain ⟨_, yy0, rfl⟩ := seen_in rfl h.1
      have ee0 := getD_of yy0
      obtain ⟨_, yy1, rfl⟩ := seen_in rfl h.2.1
      have ee1 := getD_of yy1
      exact tupon_value (v := .bool true) (by simp [go_sem, ee0, yy0, ee1, yy1]) (Below.refl _ _) rfl
    · refine ob_plain [92] rfl rfl fun aa g h => ?_
      obtain ⟨_, yy0, rfl⟩ := seen_in rfl h.1
      have ee0 := getD_of yy0
      exact tupon_value (v := .bool true) (by simp [go_sem, ee0, yy0]) (Below.refl _ _) rfl
    · refine ob_gtrue [8] _ true 93 rfl rfl rfl rfl (fun v w h => h) fun aa g h => ?_
      have yy0 := seen_out (v := .pointer (some ⟨w2.heap.size, 0, none⟩)) rfl rfl h.1
      have ee0 := getD_of yy0
      exact tupon_value (v := .agg #[.slice pa na ca, .int .i64 p, .int .i64 q]) (by simp [go_sem, ee0, yy0, k0 g, k1 g, k2 g]) (Below.refl _ _) rfl
    · refine ob_gtrue [94] _ true 93 rfl rfl rfl rfl (fun v w h => h) fun aa g h => ?_
      obtain ⟨_, yy0, rfl⟩ := seen_in rfl h.1
      have ee0 := getD_of yy0
      refine tupon_enter (f := 29) (args := #[.agg #[.slice pa na ca, .int .i64 p, .int .i64 q]]) (by simp [go_sem, ee0, yy0]) rfl ?_
      exact (KRg.out g.w (XA1.out.grow g.h)).mono fun e w' ⟨he, hB⟩ => ⟨_, he, hB, rfl⟩
    · refine ob_gtrue [8] _ true 93 rfl rfl rfl rfl (fun v w h => h) fun aa g h => ?_
      have yy0 := seen_out (v := .pointer (some ⟨w2.heap.size, 0, none⟩)) rfl rfl h.1
      have ee0 := getD_of yy0
      exact tupon_value (v := .agg #[.slice pa na ca, .int .i64 p, .int .i64 q]) (by simp [go_sem, ee0, yy0, k0 g, k1 g, k2 g]) (Below.refl _ _) rfl
    · refine ob_gtrue [96] _ true 93 rfl rfl rfl rfl (fun v w h => h) fun aa g h => ?_
      obtain ⟨_, yy0, rfl⟩ := seen_in rfl h.1
      have ee0 := getD_of yy0
      refine tupon_enter (f := 30) (args := #[.agg #[.slice pa na ca, .int .i64 p, .int .i64 q]]) (by simp [go_sem, ee0, yy0]) rfl ?_
      exact (RRg.out g.w (XA1.out.grow g.h)).mono fun e w' ⟨he, hB⟩ => ⟨_, he, hB, rfl⟩
    · refine ob_gtrue [95, 97] _ true 93 rfl rfl rfl rfl (fun v w h => h) fun aa g h => ?_
      obtain ⟨_, yy0, rfl⟩ := seen_in rfl h.1
      have ee0 := getD_of yy0
      obtain ⟨_, yy1, rfl⟩ := seen_in rfl h.2.1
      have ee1 := getD_of yy1
      exact tupon_value (v := .bool true) (by simp [go_sem, ee0, yy0, ee1, yy1]) (Below.refl _ _) rfl
    · refine ob_plain [93, 98] rfl rfl fun aa g h => ?_
      obtain ⟨_, yy0, rfl⟩ := seen_in rfl h.1
      have ee0 := getD_of yy0
      obtain ⟨_, yy1, rfl⟩ := seen_in rfl h.2.1
      have ee1 := getD_of yy1
      exact tupon_value (v := .bool true) (by simp [go_sem, ee0, yy0, ee1, yy1]) (Below.refl _ _) rfl
    · refine ob_plain [99] rfl rfl fun aa g h => ?_
      obtain ⟨_, yy0, rfl⟩ := seen_in rfl h.1
      have ee0 := getD_of yy0
      exact tupon_value (v := .bool true) (by simp [go_sem, ee0, yy0]) (Below.refl _ _) rfl
  rintro w9 hB9 _ rfl _ rfl _ rfl _ rfl _ rfl _ rfl _ rfl _ rfl _ rfl _ rfl _ rfl _ rfl _ rfl _ ⟨p42, n42, c42, rfl, tx42⟩ _ rfl _ rfl _ ⟨p45, n45, c45, rfl, tx45⟩ _ rfl _ rfl _ rfl _ rfl _ rfl _ ⟨p51, n51, c51, rfl, tx51⟩ _ rfl _ rfl _ ⟨p54, n54, c54, rfl, tx54⟩ _ rfl _ rfl _ rfl _ rfl _ ⟨p59, n59, c59, rfl, tx59⟩ _ rfl _ ⟨p61, n61, c61, rfl, tx61⟩ _ rfl _ rfl _ rfl _ rfl _ rfl _ rfl _ ⟨p68, n68, c68, rfl, tx68⟩ _ rfl _ rfl _ rfl _ ⟨p72, n72, c72, rfl, tx72⟩ _ rfl _ rfl _ rfl _ rfl _ rfl _ ⟨p78, n78, c78, rfl, tx78⟩ _ rfl _ rfl _ ⟨p81, n81, c81, rfl, tx81⟩ _ rfl _ rfl _ rfl _ rfl _ rfl _ ⟨p87, n87, c87, rfl, tx87⟩ _ rfl _ rfl _ ⟨p90, n90, c90, rfl, tx90⟩ _ rfl _ rfl _ rfl _ rfl _ rfl _ rfl _ rfl _ rfl _ rfl _ rfl
  simp only [Act.put, List.setIfInBounds_toArray, List.set_cons_succ, List.set_cons_zero, List.filterMap_nil, finP]
  clear k0 k1 k2 j0 j1 j2 l0 l1 i0 i1 i2
  go_wp2_with (fail)
  go_ret
  exact ⟨rfl, below_then HT1.out hB9⟩
end Go.Proofs.YthakeeinhgfbbaaGreat
