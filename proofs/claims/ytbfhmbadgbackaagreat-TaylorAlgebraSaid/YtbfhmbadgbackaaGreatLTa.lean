/-
  The law TaylorAlgebra.
-/
import Derived.Test.YtbfhmbadgbackaaGreatSan6
import Derived.Test.YtbfhmbadgbackaaGreatYf
import Derived.Test.YtbfhmbadgbackaaGreatYg
namespace Go.Proofs.YtbfhmbadgbackaaGreat
open Go.ChangeShapes Go.WideShapes Go.ChangeAt Go.RowKit
set_option linter.unusedVariables false
set_option linter.unusedSimpArgs false
set_option maxRecDepth 100000

attribute [local irreducible] Calls

theorem addM_tv {a b : Mo} (ha : ∀ t ∈ a.1, TV t ∧ Num t.1) (hb : ∀ t ∈ b.1, TV t ∧ Num t.1) : ∀ t ∈ (addM a b).1, TV t := normM_tv (truncP_tvY (merge_tv ha hb))
theorem good_bd {a : Mo} (h : VB2 a.2) : -2147483648 ≤ a.2.1 ∧ a.2.1 ≤ 2147483648 ∧ -2147483648 ≤ a.2.2 ∧ a.2.2 ≤ 2147483648 := vb_bdY h
theorem normM_vb {l : List Tm} {p : Int × Int} (h : VB2 p) : VB2 (normM l p).2 := by
  unfold normM
  split
  · exact .inl ⟨rfl, rfl⟩
  · exact h
theorem addM_vb {a b : Mo} (ha : VB2 a.2) (hb : VB2 b.2) : VB2 (addM a b).2 := normM_vb (addI2_vb (merge_vb _ _) (addI2_vb ha hb))
theorem iso6 {P : Program} {f : FuncId} {args : Array Value} {w : World} {m k : Mo} (h : Calls P f args w fun e w' => ∃ r, e = .returned (.agg #[r, .int .i64 m.2.1, .int .i64 m.2.2]) ∧ Tx w' r m.1 ∧ CapOk r ∧ Below w.heap.size w w') (e : m = k) : Calls P f args w fun e w' => ∃ r, e = .returned (.agg #[r, .int .i64 k.2.1, .int .i64 k.2.2]) ∧ Tx w' r k.1 ∧ CapOk r ∧ Below w.heap.size w w' := by
  subst e
  exact h
theorem rsame_yes (u v : Value) (a b : Int) (l : List Tm) (w : World) (hu : Tx w u l) (hv : Tx w v l) (hl : ∀ t ∈ l, TV t) :
    Calls Tryz.prog 16 #[.agg #[u, .int .i64 a, .int .i64 b], .agg #[v, .int .i64 a, .int .i64 b]] w fun e w' => e = .returned (.bool true) ∧ Below w.heap.size w w' := by
  have := rsame_ok u v a b a b l l w hu hv hl hl
  simpa using this
theorem moc_set6 {W : World} {b : Nat} {u : Value} {p : Int × Int} (h : MoC W b u p) (v : Value) (x y : Int) : MoC (((W.setCell ⟨b, 0, none⟩ v).setCell ⟨b, 1, none⟩ (.int .i64 x)).setCell ⟨b, 2, none⟩ (.int .i64 y)) b v (x, y) := cellsT_set (o := 2) (u := .int .i64 y) (cellsT_set (o := 1) (u := .int .i64 x) (cellsT_set (o := 0) (u := v) h))
set_option maxHeartbeats 64000000 in
theorem talgebra (w : World) (a0A a0B a0S : Value) (a0p a0q a0r a0s a0x a0y : Int) (a0la a0lb : List Tm) (a0ls : List Int) (h0A : Tx w a0A a0la ∧ ∀ t ∈ a0la, TV t) (h0p : -9223372036854775808 ≤ a0p ∧ a0p ≤ 9223372036854775807) (h0q : -9223372036854775808 ≤ a0q ∧ a0q ≤ 9223372036854775807) (h0B : Tx w a0B a0lb ∧ ∀ t ∈ a0lb, TV t) (h0r : -9223372036854775808 ≤ a0r ∧ a0r ≤ 9223372036854775807) (h0s : -9223372036854775808 ≤ a0s ∧ a0s ≤ 9223372036854775807) (h0S : S8 w a0S a0ls ∧ ∀ x ∈ a0ls, -128 ≤ x ∧ x ≤ 127) (h0x : 0 ≤ a0x ∧ a0x ≤ 65535) (h0y : 0 ≤ a0y ∧ a0y ≤ 65535) :
    Calls Tryz.prog 10 #[.agg #[a0A, .int .i64 a0p, .int .i64 a0q, a0B, .int .i64 a0r, .int .i64 a0s, a0S, .int .u16 a0x, .int .u16 a0y]] w fun e w' => e = .returned (.bool true) ∧ Below w.heap.size w w' := by
  have hba : Below w.heap.size w (w.alloc (.cells #[a0A, .int .i64 a0p, .int .i64 a0q, a0B, .int .i64 a0r, .int .i64 a0s, a0S, .int .u16 a0x, .int .u16 a0y] 30)) := (Below.refl _ _).alloc (Nat.le_refl _) _
  have hI : (w.alloc (.cells #[a0A, .int .i64 a0p, .int .i64 a0q, a0B, .int .i64 a0r, .int .i64 a0s, a0S, .int .u16 a0x, .int .u16 a0y] 30)).heap[w.heap.size]? = some (.cells #[a0A, .int .i64 a0p, .int .i64 a0q, a0B, .int .i64 a0r, .int .i64 a0s, a0S, .int .u16 a0x, .int .u16 a0y] 30 (0, 0)) := World.alloc_heap_new w _
  have HI := Lib.hid hI
  have HBA := Lib.hid hba
  have KM := Lib.hid (fun w hA hB => models_ok a0A a0B a0S a0p a0q a0r a0s a0x a0y a0la a0lb w ⟨hA, h0A.2⟩ h0p h0q ⟨hB, h0B.2⟩ h0r h0s)
  have HA := Lib.hid h0A.1
  have HB := Lib.hid h0B.1
  clear h0A h0p h0q h0B h0r h0s h0S h0x h0y hba hI
  go_enter Tryz.func10, Tryz.ntmps10
  go_wp2_with (fail)
  generalize hW0 : World.alloc w _ = W0 at *
  clear hW0
  refine (sanity6 _).mono ?_
  rintro e w1 ⟨rfl, hB1⟩
  have hT1 := below_then HBA.out hB1
  have hI1 := (hB1.block w.heap.size (Array.getElem?_eq_some_iff.1 HI.out).1).trans HI.out
  have k0 := heapT_cell hI1 (k := 0) rfl
  have k1 := heapT_cell hI1 (k := 1) rfl
  have k2 := heapT_cell hI1 (k := 2) rfl
  have k3 := heapT_cell hI1 (k := 3) rfl
  have k4 := heapT_cell hI1 (k := 4) rfl
  have k5 := heapT_cell hI1 (k := 5) rfl
  have k6 := heapT_cell hI1 (k := 6) rfl
  have k7 := heapT_cell hI1 (k := 7) rfl
  have k8 := heapT_cell hI1 (k := 8) rfl
  clear hI1
  go_wp2_with (fail)
  refine (KM.out w1 (HA.out.grow hT1) (HB.out.grow hT1)).mono ?_
  rintro e w2 ⟨ra, l, p, q, rb, m, r, s, rfl, txa, ⟨pa, na, ca, rfl, hca1, hca2⟩, ga, txb, ⟨pb, nb, cb, rfl, hcb1, hcb2⟩, gb, hB2⟩
  have hT2 := below_then hT1 hB2
  clear k0 k1 k2 k3 k4 k5 k6 k7 k8 hB1 hT1
  have CA : Hid (CapOk (.slice pa na ca)) := Lib.hid ⟨pa, na, ca, rfl, hca1, hca2⟩
  have CB : Hid (CapOk (.slice pb nb cb)) := Lib.hid ⟨pb, nb, cb, rfl, hcb1, hcb2⟩
  have GA := Lib.hid ga
  have GB := Lib.hid gb
  have XA := Lib.hid txa
  have XB := Lib.hid txb
  have HT := Lib.hid hT2
  clear hca1 hca2 hcb1 hcb2 ga gb txa txb hT2 hB2 HI HA HB HBA KM
  go_wp2_with (fail)
  have XA1 := Lib.hid ((XA.out.grow ((Below.refl w2.heap.size w2).alloc (Nat.le_refl _) (.cells #[.slice pa na ca, .int .i64 p, .int .i64 q] 26))).grow ((Below.refl _ _).alloc (Nat.le_refl _) (.cells #[.slice pb nb cb, .int .i64 r, .int .i64 s] 26)))
  have XB1 := Lib.hid ((XB.out.grow ((Below.refl w2.heap.size w2).alloc (Nat.le_refl _) (.cells #[.slice pa na ca, .int .i64 p, .int .i64 q] 26))).grow ((Below.refl _ _).alloc (Nat.le_refl _) (.cells #[.slice pb nb cb, .int .i64 r, .int .i64 s] 26)))
  have MA1 := Lib.hid ((MoC.new w2 (.slice pa na ca) p q).alloc (.cells #[.slice pb nb cb, .int .i64 r, .int .i64 s] 26))
  have MB1 := Lib.hid (by have e := MoC.new (w2.alloc (.cells #[.slice pa na ca, .int .i64 p, .int .i64 q] 26)) (.slice pb nb cb) r s; rw [World.size_alloc] at e; exact e)
  have HT1 := Lib.hid (((HT.out).alloc HT.out.size (.cells #[.slice pa na ca, .int .i64 p, .int .i64 q] 26)).alloc (by have := HT.out.size; simp; omega) (.cells #[.slice pb nb cb, .int .i64 r, .int .i64 s] 26))
  clear XA XB HT
  generalize hW1 : World.alloc (World.alloc w2 _) _ = W1 at *
  clear hW1
  have tna := Lib.hid (goodm_tn GA.out)
  have tnb := Lib.hid (goodm_tn GB.out)
  have lna : l.length ≤ 100 := goodm_len GA.out
  have lnb : m.length ≤ 100 := goodm_len GB.out
  have va := Lib.hid GA.out.2.2.1
  have vb := Lib.hid GB.out.2.2.1
  obtain ⟨hd1, hd2⟩ := sub_self_ok (a := (l, (p, q))) va.out
  have hdv := addM_vb (a := (l, (p, q))) (b := negM (l, (p, q))) va.out (neg_vb va.out)
  have KD := Lib.hid (fun w h => tsub_ok (.slice pa na ca) (.slice pa na ca) p q p q l l w h tna.out lna CA.out h tna.out lna CA.out va.out va.out)
  obtain ⟨⟨D, d0, d1⟩, hD⟩ : ∃ R, addM (l, (p, q)) (negM (l, (p, q))) = R := ⟨_, rfl⟩
  rw [hD] at KD hd1 hd2 hdv
  dsimp only at KD hd1
  subst hd1
  refine (KD.out _ XA1.out).mono ?_
  rintro e w3 ⟨rd, rfl, txd, ⟨pd, nd, cd, rfl, hcd1, hcd2⟩, hB3⟩
  obtain ⟨pd', cd', ed⟩ := txd.cut
  simp only [Value.slice.injEq, List.length_nil] at ed
  obtain ⟨rfl, rfl, rfl⟩ := ed
  have hg3 := (Below.refl w3.heap.size w3).alloc (Nat.le_refl _) (.cells #[.slice pd 0 cd, .int .i64 d0, .int .i64 d1] 26)
  have XA2 := Lib.hid ((XA1.out.grow hB3).grow hg3)
  have XB2 := Lib.hid ((XB1.out.grow hB3).grow hg3)
  have XD2 := Lib.hid (txd.grow hg3)
  have MA2 := Lib.hid ((MA1.out.grow hB3).grow hg3)
  have MB2 := Lib.hid ((MB1.out.grow hB3).grow hg3)
  have MD2 := Lib.hid (MoC.new w3 (.slice pd 0 cd) d0 d1)
  have HT2 := Lib.hid (below_then (below_then HT1.out hB3) hg3)
  have HI0 := Lib.hid hd2
  have HDV := Lib.hid hdv
  clear XA1 XB1 MA1 MB1 HT1 txd hcd1 hcd2 hB3 hg3 hd2 hdv KD hD
  go_wp2_with (fail)
  generalize hW2 : World.alloc w3 _ = W2 at *
  clear hW2
  obtain ⟨WZ, hWZ⟩ : ∃ W, W2.alloc (.cells #[.int .i8 0, .int .i8 0, .int .i8 0, .int .i8 0, .int .i8 0, .int .i8 0] 58) = W := ⟨_, rfl⟩
  have hgz : Below W2.heap.size W2 WZ := by rw [← hWZ]; exact (Below.refl _ _).alloc (Nat.le_refl _) _
  have XA3 := Lib.hid (XA2.out.grow hgz)
  have XB3 := Lib.hid (XB2.out.grow hgz)
  have XD3 := Lib.hid (XD2.out.grow hgz)
  have MA3 := Lib.hid (MA2.out.grow hgz)
  have MB3 := Lib.hid (MB2.out.grow hgz)
  have MD3 := Lib.hid (MD2.out.grow hgz)
  have HT3 := Lib.hid (below_then HT2.out hgz)
  clear XA2 XB2 XD2 MA2 MB2 MD2 HT2 hgz
  try rw [hWZ]
  clear hWZ
  have CADD := Lib.hid (addM_comm (a := (l, (p, q))) (b := (m, (r, s))) GA.out.1 GB.out.1)
  have TAB := Lib.hid (addM_tv (a := (l, (p, q))) (b := (m, (r, s))) tna.out tnb.out)
  have TAN := Lib.hid (addM_tv (a := (l, (p, q))) (b := negM (m, (r, s))) tna.out (neg_tn tnb.out))
  have KAB := Lib.hid (fun w h1 h2 => tadd_ok (.slice pa na ca) (.slice pb nb cb) p q r s l m w h1 tna.out lna CA.out h2 tnb.out lnb CB.out va.out vb.out)
  have KBA := Lib.hid (fun w h1 h2 => iso6 (tadd_ok (.slice pb nb cb) (.slice pa na ca) r s p q m l w h1 tnb.out lnb CB.out h2 tna.out lna CA.out vb.out va.out) CADD.out.symm)
  have KNA := Lib.hid (fun w h => tneg_ok (.slice pa na ca) p q l w h tna.out lna CA.out va.out)
  have KNN := Lib.hid (fun (u : Value) (w : World) h hc => tneg_ok u (-q) (-p) (negT l) w h (neg_tn tna.out) (by rw [neg_len]; exact lna) hc (neg_vb va.out))
  have nn : negT (negT l) = l := congrArg Prod.fst (negM_negM (l, (p, q)))
  rw [nn, Int.neg_neg, Int.neg_neg] at KNN
  have KSB := Lib.hid (fun w h1 h2 => tsub_ok (.slice pa na ca) (.slice pb nb cb) p q r s l m w h1 tna.out lna CA.out h2 tnb.out lnb CB.out va.out vb.out)
  have KNB := Lib.hid (fun w h => tneg_ok (.slice pb nb cb) r s m w h tnb.out lnb CB.out vb.out)
  have KAN := Lib.hid (fun (u : Value) (w : World) h1 h2 hc => tadd_ok (.slice pa na ca) u p q (-s) (-r) l (negT m) w h1 tna.out lna CA.out h2 (neg_tn tnb.out) (by rw [neg_len]; exact lnb) hc va.out (neg_vb vb.out))
  rw [show ((negT m, (-s, -r)) : Mo) = negM (m, (r, s)) from rfl] at KAN
  obtain ⟨⟨N, n0, n1⟩, hN⟩ : ∃ R, addM (l, (p, q)) (m, (r, s)) = R := ⟨_, rfl⟩
  rw [hN] at KAB KBA TAB
  obtain ⟨⟨S, s0, s1⟩, hS⟩ : ∃ R, addM (l, (p, q)) (negM (m, (r, s))) = R := ⟨_, rfl⟩
  rw [hS] at KSB KAN TAN
  dsimp only at KAB KBA KSB KAN TAB TAN
  have PC := Lib.hid (mulM_comm (l, (p, q)) (m, (r, s)) 4)
  have TP := Lib.hid (mulM_tv (a := (l, (p, q))) (b := (m, (r, s))) (deg := 4) tna.out tnb.out lna lnb)
  have TQ := Lib.hid (mulM_tv (a := (m, (r, s))) (b := (l, (p, q))) (deg := 4) tnb.out tna.out lnb lna)
  have KP := Lib.hid (fun w h1 h2 => tmul_ok (.slice pa na ca) (.slice pb nb cb) p q r s 4 l m w h1 tna.out lna h2 tnb.out lnb va.out vb.out)
  have KQ := Lib.hid (fun w h1 h2 => tmul_ok (.slice pb nb cb) (.slice pa na ca) r s p q 4 m l w h1 tnb.out lnb h2 tna.out lna vb.out va.out)
  obtain ⟨⟨P, x0, x1⟩, hP⟩ : ∃ R, mulM (l, (p, q)) (m, (r, s)) 4 = R := ⟨_, rfl⟩
  rw [hP] at KP TP PC
  obtain ⟨⟨Q, y0, y1⟩, hQ⟩ : ∃ R, mulM (m, (r, s)) (l, (p, q)) 4 = R := ⟨_, rfl⟩
  rw [hQ] at KQ TQ PC
  dsimp only at KP KQ TP TQ PC
  clear hN hS hP hQ nn CADD
  go_wp2_with (fail)
  have k0 := fun g : Grown WZ => (MA3.out.grow g.h).c0
  have k1 := fun g : Grown WZ => (MA3.out.grow g.h).c1
  have k2 := fun g : Grown WZ => (MA3.out.grow g.h).c2
  have j0 := fun g : Grown WZ => (MB3.out.grow g.h).c0
  have j1 := fun g : Grown WZ => (MB3.out.grow g.h).c1
  have j2 := fun g : Grown WZ => (MB3.out.grow g.h).c2
  dsimp only at k0 k1 k2 j0 j1 j2
  refine region_pred (lk [(20, fun z_ _ => z_ = .agg #[.slice pa na ca, .int .i64 p, .int .i64 q]), (21, fun z_ _ => z_ = .agg #[.slice pb nb cb, .int .i64 r, .int .i64 s]), (22, fun z_ w' => ∃ p_ n_ c_, z_ = .agg #[.slice p_ n_ c_, .int .i64 n0, .int .i64 n1] ∧ Tx w' (.slice p_ n_ c_) N ∧ CapOk (.slice p_ n_ c_)), (23, fun z_ _ => z_ = .agg #[.slice pb nb cb, .int .i64 r, .int .i64 s]), (24, fun z_ _ => z_ = .agg #[.slice pa na ca, .int .i64 p, .int .i64 q]), (25, fun z_ w' => ∃ p_ n_ c_, z_ = .agg #[.slice p_ n_ c_, .int .i64 n0, .int .i64 n1] ∧ Tx w' (.slice p_ n_ c_) N ∧ CapOk (.slice p_ n_ c_)), (26, fun z_ _ => z_ = .bool true), (27, fun z_ _ => z_ = .bool false), (28, fun z_ _ => z_ = .bool false), (29, fun z_ _ => z_ = .agg #[.slice pa na ca, .int .i64 p, .int .i64 q]), (30, fun z_ w' => ∃ p_ n_ c_, z_ = .agg #[.slice p_ n_ c_, .int .i64 (-q), .int .i64 (-p)] ∧ Tx w' (.slice p_ n_ c_) (negT l) ∧ CapOk (.slice p_ n_ c_)), (31, fun z_ w' => ∃ p_ n_ c_, z_ = .agg #[.slice p_ n_ c_, .int .i64 p, .int .i64 q] ∧ Tx w' (.slice p_ n_ c_) l ∧ CapOk (.slice p_ n_ c_)), (32, fun z_ _ => z_ = .agg #[.slice pa na ca, .int .i64 p, .int .i64 q]), (33, fun z_ _ => z_ = .bool true), (34, fun z_ _ => z_ = .bool false), (35, fun z_ _ => z_ = .bool false), (36, fun z_ _ => z_ = .bool false), (37, fun z_ _ => z_ = .agg #[.slice pa na ca, .int .i64 p, .int .i64 q]), (38, fun z_ _ => z_ = .agg #[.slice pb nb cb, .int .i64 r, .int .i64 s]), (39, fun z_ w' => ∃ p_ n_ c_, z_ = .agg #[.slice p_ n_ c_, .int .i64 s0, .int .i64 s1] ∧ Tx w' (.slice p_ n_ c_) S ∧ CapOk (.slice p_ n_ c_)), (40, fun z_ _ => z_ = .agg #[.slice pa na ca, .int .i64 p, .int .i64 q]), (41, fun z_ _ => z_ = .agg #[.slice pb nb cb, .int .i64 r, .int .i64 s]), (42, fun z_ w' => ∃ p_ n_ c_, z_ = .agg #[.slice p_ n_ c_, .int .i64 (-s), .int .i64 (-r)] ∧ Tx w' (.slice p_ n_ c_) (negT m) ∧ CapOk (.slice p_ n_ c_)), (43, fun z_ w' => ∃ p_ n_ c_, z_ = .agg #[.slice p_ n_ c_, .int .i64 s0, .int .i64 s1] ∧ Tx w' (.slice p_ n_ c_) S ∧ CapOk (.slice p_ n_ c_)), (44, fun z_ _ => z_ = .bool true), (45, fun z_ _ => z_ = .bool false), (46, fun z_ _ => z_ = .bool false)]) (by kernel_rfl) (by kernel_rfl) (lk_steady _ ⟨steady_eq _, steady_eq _, fun u w1 w2 hb ⟨p, n, c, e, h1, h2⟩ => ⟨p, n, c, e, h1.grow hb, h2⟩, steady_eq _, steady_eq _, fun u w1 w2 hb ⟨p, n, c, e, h1, h2⟩ => ⟨p, n, c, e, h1.grow hb, h2⟩, steady_eq _, steady_eq _, steady_eq _, steady_eq _, fun u w1 w2 hb ⟨p, n, c, e, h1, h2⟩ => ⟨p, n, c, e, h1.grow hb, h2⟩, fun u w1 w2 hb ⟨p, n, c, e, h1, h2⟩ => ⟨p, n, c, e, h1.grow hb, h2⟩, steady_eq _, steady_eq _, steady_eq _, steady_eq _, steady_eq _, steady_eq _, steady_eq _, fun u w1 w2 hb ⟨p, n, c, e, h1, h2⟩ => ⟨p, n, c, e, h1.grow hb, h2⟩, steady_eq _, steady_eq _, fun u w1 w2 hb ⟨p, n, c, e, h1, h2⟩ => ⟨p, n, c, e, h1.grow hb, h2⟩, fun u w1 w2 hb ⟨p, n, c, e, h1, h2⟩ => ⟨p, n, c, e, h1.grow hb, h2⟩, steady_eq _, steady_eq _, steady_eq _, trivial⟩) ?_ ?_
  · refine ⟨?_, ?_, ?_, ?_, ?_, ?_, ?_, ?_, ?_, ?_, ?_, ?_, ?_, ?_, ?_, ?_, ?_, ?_, ?_, ?_, ?_, ?_, ?_, ?_, ?_, ?_, ?_, trivial⟩
    · refine ob_plain [4] rfl rfl fun aa g h => ?_
      have yy0 := seen_out (v := .pointer (some ⟨w2.heap.size, 0, none⟩)) rfl rfl h.1
      have ee0 := getD_of yy0
      exact tupon_value (v := .agg #[.slice pa na ca, .int .i64 p, .int .i64 q]) (by simp [go_sem, ee0, yy0, k0 g, k1 g, k2 g]) (Below.refl _ _) rfl
    · refine ob_plain [5] rfl rfl fun aa g h => ?_
      have yy0 := seen_out (v := .pointer (some ⟨w2.heap.size + 1, 0, none⟩)) rfl rfl h.1
      have ee0 := getD_of yy0
      exact tupon_value (v := .agg #[.slice pb nb cb, .int .i64 r, .int .i64 s]) (by simp [go_sem, ee0, yy0, j0 g, j1 g, j2 g]) (Below.refl _ _) rfl
    · refine ob_plain [20, 21] rfl rfl fun aa g h => ?_
      obtain ⟨_, yy0, rfl⟩ := seen_in rfl h.1
      have ee0 := getD_of yy0
      obtain ⟨_, yy1, rfl⟩ := seen_in rfl h.2.1
      have ee1 := getD_of yy1
      refine tupon_enter (f := 17) (args := #[.agg #[.slice pa na ca, .int .i64 p, .int .i64 q], .agg #[.slice pb nb cb, .int .i64 r, .int .i64 s]]) (by simp [go_sem, ee0, yy0, ee1, yy1]) rfl ?_
      exact (KAB.out g.w (XA3.out.grow g.h) (XB3.out.grow g.h)).mono fun e w' ⟨r, he, hx, hc, hB⟩ => ⟨_, he, hB, (by obtain ⟨p, n, c, e1, e2⟩ := hc; subst e1; exact ⟨p, n, c, rfl, hx, ⟨p, n, c, rfl, e2⟩⟩)⟩
    · refine ob_plain [5] rfl rfl fun aa g h => ?_
      have yy0 := seen_out (v := .pointer (some ⟨w2.heap.size + 1, 0, none⟩)) rfl rfl h.1
      have ee0 := getD_of yy0
      exact tupon_value (v := .agg #[.slice pb nb cb, .int .i64 r, .int .i64 s]) (by simp [go_sem, ee0, yy0, j0 g, j1 g, j2 g]) (Below.refl _ _) rfl
    · refine ob_plain [4] rfl rfl fun aa g h => ?_
      have yy0 := seen_out (v := .pointer (some ⟨w2.heap.size, 0, none⟩)) rfl rfl h.1
      have ee0 := getD_of yy0
      exact tupon_value (v := .agg #[.slice pa na ca, .int .i64 p, .int .i64 q]) (by simp [go_sem, ee0, yy0, k0 g, k1 g, k2 g]) (Below.refl _ _) rfl
    · refine ob_plain [23, 24] rfl rfl fun aa g h => ?_
      obtain ⟨_, yy0, rfl⟩ := seen_in rfl h.1
      have ee0 := getD_of yy0
      obtain ⟨_, yy1, rfl⟩ := seen_in rfl h.2.1
      have ee1 := getD_of yy1
      refine tupon_enter (f := 17) (args := #[.agg #[.slice pb nb cb, .int .i64 r, .int .i64 s], .agg #[.slice pa na ca, .int .i64 p, .int .i64 q]]) (by simp [go_sem, ee0, yy0, ee1, yy1]) rfl ?_
      exact (KBA.out g.w (XB3.out.grow g.h) (XA3.out.grow g.h)).mono fun e w' ⟨r, he, hx, hc, hB⟩ => ⟨_, he, hB, (by obtain ⟨p, n, c, e1, e2⟩ := hc; subst e1; exact ⟨p, n, c, rfl, hx, ⟨p, n, c, rfl, e2⟩⟩)⟩
    · refine ob_plain [22, 25] rfl rfl fun aa g h => ?_
      obtain ⟨_, yy0, ⟨p22, n22, c22, rfl, tx22, cp22⟩⟩ := seen_in rfl h.1
      have ee0 := getD_of yy0
      obtain ⟨_, yy1, ⟨p25, n25, c25, rfl, tx25, cp25⟩⟩ := seen_in rfl h.2.1
      have ee1 := getD_of yy1
      refine tupon_enter (f := 16) (args := #[.agg #[.slice p22 n22 c22, .int .i64 n0, .int .i64 n1], .agg #[.slice p25 n25 c25, .int .i64 n0, .int .i64 n1]]) (by simp [go_sem, ee0, yy0, ee1, yy1]) rfl ?_
      exact (rsame_yes _ _ n0 n1 _ g.w tx22 tx25 TAB.out).mono fun e w' ⟨he, hB⟩ => ⟨_, he, hB, rfl⟩
    · refine ob_plain [26] rfl rfl fun aa g h => ?_
      obtain ⟨_, yy0, rfl⟩ := seen_in rfl h.1
      have ee0 := getD_of yy0
      exact tupon_value (v := .bool false) (by simp [go_sem, ee0, yy0]) (Below.refl _ _) rfl
    · refine ob_plain [27] rfl rfl fun aa g h => ?_
      obtain ⟨_, yy0, rfl⟩ := seen_in rfl h.1
      have ee0 := getD_of yy0
      exact tupon_value (v := .bool false) (by simp [go_sem, ee0, yy0]) (Below.refl _ _) rfl
    · refine ob_gtrue [4] _ false 28 rfl rfl rfl rfl (fun v w h => h) fun aa g h => ?_
      have yy0 := seen_out (v := .pointer (some ⟨w2.heap.size, 0, none⟩)) rfl rfl h.1
      have ee0 := getD_of yy0
      exact tupon_value (v := .agg #[.slice pa na ca, .int .i64 p, .int .i64 q]) (by simp [go_sem, ee0, yy0, k0 g, k1 g, k2 g]) (Below.refl _ _) rfl
    · refine ob_gtrue [29] _ false 28 rfl rfl rfl rfl (fun v w h => h) fun aa g h => ?_
      obtain ⟨_, yy0, rfl⟩ := seen_in rfl h.1
      have ee0 := getD_of yy0
      refine tupon_enter (f := 21) (args := #[.agg #[.slice pa na ca, .int .i64 p, .int .i64 q]]) (by simp [go_sem, ee0, yy0]) rfl ?_
      exact (KNA.out g.w (XA3.out.grow g.h)).mono fun e w' ⟨r, he, hx, hc, hB⟩ => ⟨_, he, hB, (by obtain ⟨p, n, c, e1, e2⟩ := hc; subst e1; exact ⟨p, n, c, rfl, hx, ⟨p, n, c, rfl, e2⟩⟩)⟩
    · refine ob_gtrue [30] _ false 28 rfl rfl rfl rfl (fun v w h => h) fun aa g h => ?_
      obtain ⟨_, yy0, ⟨p30, n30, c30, rfl, tx30, cp30⟩⟩ := seen_in rfl h.1
      have ee0 := getD_of yy0
      refine tupon_enter (f := 21) (args := #[.agg #[.slice p30 n30 c30, .int .i64 (-q), .int .i64 (-p)]]) (by simp [go_sem, ee0, yy0]) rfl ?_
      exact (KNN.out (.slice p30 n30 c30) g.w tx30 cp30).mono fun e w' ⟨r, he, hx, hc, hB⟩ => ⟨_, he, hB, (by obtain ⟨p, n, c, e1, e2⟩ := hc; subst e1; exact ⟨p, n, c, rfl, hx, ⟨p, n, c, rfl, e2⟩⟩)⟩
    · refine ob_gtrue [4] _ false 28 rfl rfl rfl rfl (fun v w h => h) fun aa g h => ?_
      have yy0 := seen_out (v := .pointer (some ⟨w2.heap.size, 0, none⟩)) rfl rfl h.1
      have ee0 := getD_of yy0
      exact tupon_value (v := .agg #[.slice pa na ca, .int .i64 p, .int .i64 q]) (by simp [go_sem, ee0, yy0, k0 g, k1 g, k2 g]) (Below.refl _ _) rfl
    · refine ob_gtrue [31, 32] _ false 28 rfl rfl rfl rfl (fun v w h => h) fun aa g h => ?_
      obtain ⟨_, yy0, ⟨p31, n31, c31, rfl, tx31, cp31⟩⟩ := seen_in rfl h.1
      have ee0 := getD_of yy0
      obtain ⟨_, yy1, rfl⟩ := seen_in rfl h.2.1
      have ee1 := getD_of yy1
      refine tupon_enter (f := 16) (args := #[.agg #[.slice p31 n31 c31, .int .i64 p, .int .i64 q], .agg #[.slice pa na ca, .int .i64 p, .int .i64 q]]) (by simp [go_sem, ee0, yy0, ee1, yy1]) rfl ?_
      exact (rsame_yes _ _ p q _ g.w tx31 (XA3.out.grow g.h) GA.out.2.1).mono fun e w' ⟨he, hB⟩ => ⟨_, he, hB, rfl⟩
    · refine ob_gtrue [33] _ false 28 rfl rfl rfl rfl (fun v w h => h) fun aa g h => ?_
      obtain ⟨_, yy0, rfl⟩ := seen_in rfl h.1
      have ee0 := getD_of yy0
      exact tupon_value (v := .bool false) (by simp [go_sem, ee0, yy0]) (Below.refl _ _) rfl
    · refine ob_plain [28, 34] rfl rfl fun aa g h => ?_
      obtain ⟨_, yy0, rfl⟩ := seen_in rfl h.1
      have ee0 := getD_of yy0
      obtain ⟨_, yy1, rfl⟩ := seen_in rfl h.2.1
      have ee1 := getD_of yy1
      exact tupon_value (v := .bool false) (by simp [go_sem, ee0, yy0, ee1, yy1]) (Below.refl _ _) rfl
    · refine ob_plain [35] rfl rfl fun aa g h => ?_
      obtain ⟨_, yy0, rfl⟩ := seen_in rfl h.1
      have ee0 := getD_of yy0
      exact tupon_value (v := .bool false) (by simp [go_sem, ee0, yy0]) (Below.refl _ _) rfl
    · refine ob_gtrue [4] _ false 36 rfl rfl rfl rfl (fun v w h => h) fun aa g h => ?_
      have yy0 := seen_out (v := .pointer (some ⟨w2.heap.size, 0, none⟩)) rfl rfl h.1
      have ee0 := getD_of yy0
      exact tupon_value (v := .agg #[.slice pa na ca, .int .i64 p, .int .i64 q]) (by simp [go_sem, ee0, yy0, k0 g, k1 g, k2 g]) (Below.refl _ _) rfl
    · refine ob_gtrue [5] _ false 36 rfl rfl rfl rfl (fun v w h => h) fun aa g h => ?_
      have yy0 := seen_out (v := .pointer (some ⟨w2.heap.size + 1, 0, none⟩)) rfl rfl h.1
      have ee0 := getD_of yy0
      exact tupon_value (v := .agg #[.slice pb nb cb, .int .i64 r, .int .i64 s]) (by simp [go_sem, ee0, yy0, j0 g, j1 g, j2 g]) (Below.refl _ _) rfl
    · refine ob_gtrue [37, 38] _ false 36 rfl rfl rfl rfl (fun v w h => h) fun aa g h => ?_
      obtain ⟨_, yy0, rfl⟩ := seen_in rfl h.1
      have ee0 := getD_of yy0
      obtain ⟨_, yy1, rfl⟩ := seen_in rfl h.2.1
      have ee1 := getD_of yy1
      refine tupon_enter (f := 19) (args := #[.agg #[.slice pa na ca, .int .i64 p, .int .i64 q], .agg #[.slice pb nb cb, .int .i64 r, .int .i64 s]]) (by simp [go_sem, ee0, yy0, ee1, yy1]) rfl ?_
      exact (KSB.out g.w (XA3.out.grow g.h) (XB3.out.grow g.h)).mono fun e w' ⟨r, he, hx, hc, hB⟩ => ⟨_, he, hB, (by obtain ⟨p, n, c, e1, e2⟩ := hc; subst e1; exact ⟨p, n, c, rfl, hx, ⟨p, n, c, rfl, e2⟩⟩)⟩
    · refine ob_gtrue [4] _ false 36 rfl rfl rfl rfl (fun v w h => h) fun aa g h => ?_
      have yy0 := seen_out (v := .pointer (some ⟨w2.heap.size, 0, none⟩)) rfl rfl h.1
      have ee0 := getD_of yy0
      exact tupon_value (v := .agg #[.slice pa na ca, .int .i64 p, .int .i64 q]) (by simp [go_sem, ee0, yy0, k0 g, k1 g, k2 g]) (Below.refl _ _) rfl
    · refine ob_gtrue [5] _ false 36 rfl rfl rfl rfl (fun v w h => h) fun aa g h => ?_
      have yy0 := seen_out (v := .pointer (some ⟨w2.heap.size + 1, 0, none⟩)) rfl rfl h.1
      have ee0 := getD_of yy0
      exact tupon_value (v := .agg #[.slice pb nb cb, .int .i64 r, .int .i64 s]) (by simp [go_sem, ee0, yy0, j0 g, j1 g, j2 g]) (Below.refl _ _) rfl
    · refine ob_gtrue [41] _ false 36 rfl rfl rfl rfl (fun v w h => h) fun aa g h => ?_
      obtain ⟨_, yy0, rfl⟩ := seen_in rfl h.1
      have ee0 := getD_of yy0
      refine tupon_enter (f := 21) (args := #[.agg #[.slice pb nb cb, .int .i64 r, .int .i64 s]]) (by simp [go_sem, ee0, yy0]) rfl ?_
      exact (KNB.out g.w (XB3.out.grow g.h)).mono fun e w' ⟨r, he, hx, hc, hB⟩ => ⟨_, he, hB, (by obtain ⟨p, n, c, e1, e2⟩ := hc; subst e1; exact ⟨p, n, c, rfl, hx, ⟨p, n, c, rfl, e2⟩⟩)⟩
    · refine ob_gtrue [40, 42] _ false 36 rfl rfl rfl rfl (fun v w h => h) fun aa g h => ?_
      obtain ⟨_, yy0, rfl⟩ := seen_in rfl h.1
      have ee0 := getD_of yy0
      obtain ⟨_, yy1, ⟨p42, n42, c42, rfl, tx42, cp42⟩⟩ := seen_in rfl h.2.1
      have ee1 := getD_of yy1
      refine tupon_enter (f := 17) (args := #[.agg #[.slice pa na ca, .int .i64 p, .int .i64 q], .agg #[.slice p42 n42 c42, .int .i64 (-s), .int .i64 (-r)]]) (by simp [go_sem, ee0, yy0, ee1, yy1]) rfl ?_
      exact (KAN.out (.slice p42 n42 c42) g.w (XA3.out.grow g.h) tx42 cp42).mono fun e w' ⟨r, he, hx, hc, hB⟩ => ⟨_, he, hB, (by obtain ⟨p, n, c, e1, e2⟩ := hc; subst e1; exact ⟨p, n, c, rfl, hx, ⟨p, n, c, rfl, e2⟩⟩)⟩
    · refine ob_gtrue [39, 43] _ false 36 rfl rfl rfl rfl (fun v w h => h) fun aa g h => ?_
      obtain ⟨_, yy0, ⟨p39, n39, c39, rfl, tx39, cp39⟩⟩ := seen_in rfl h.1
      have ee0 := getD_of yy0
      obtain ⟨_, yy1, ⟨p43, n43, c43, rfl, tx43, cp43⟩⟩ := seen_in rfl h.2.1
      have ee1 := getD_of yy1
      refine tupon_enter (f := 16) (args := #[.agg #[.slice p39 n39 c39, .int .i64 s0, .int .i64 s1], .agg #[.slice p43 n43 c43, .int .i64 s0, .int .i64 s1]]) (by simp [go_sem, ee0, yy0, ee1, yy1]) rfl ?_
      exact (rsame_yes _ _ s0 s1 _ g.w tx39 tx43 TAN.out).mono fun e w' ⟨he, hB⟩ => ⟨_, he, hB, rfl⟩
    · refine ob_gtrue [44] _ false 36 rfl rfl rfl rfl (fun v w h => h) fun aa g h => ?_
      obtain ⟨_, yy0, rfl⟩ := seen_in rfl h.1
      have ee0 := getD_of yy0
      exact tupon_value (v := .bool false) (by simp [go_sem, ee0, yy0]) (Below.refl _ _) rfl
    · refine ob_plain [36, 45] rfl rfl fun aa g h => ?_
      obtain ⟨_, yy0, rfl⟩ := seen_in rfl h.1
      have ee0 := getD_of yy0
      obtain ⟨_, yy1, rfl⟩ := seen_in rfl h.2.1
      have ee1 := getD_of yy1
      exact tupon_value (v := .bool false) (by simp [go_sem, ee0, yy0, ee1, yy1]) (Below.refl _ _) rfl
  rintro w4 hB4 _ rfl _ rfl _ ⟨p22, n22, c22, rfl, tx22, cp22⟩ _ rfl _ rfl _ ⟨p25, n25, c25, rfl, tx25, cp25⟩ _ rfl _ rfl _ rfl _ rfl _ ⟨p30, n30, c30, rfl, tx30, cp30⟩ _ ⟨p31, n31, c31, rfl, tx31, cp31⟩ _ rfl _ rfl _ rfl _ rfl _ rfl _ rfl _ rfl _ ⟨p39, n39, c39, rfl, tx39, cp39⟩ _ rfl _ rfl _ ⟨p42, n42, c42, rfl, tx42, cp42⟩ _ ⟨p43, n43, c43, rfl, tx43, cp43⟩ _ rfl _ rfl _ rfl
  simp only [Act.put, List.setIfInBounds_toArray, List.set_cons_succ, List.set_cons_zero, List.filterMap_nil, finP]
  clear k0 k1 k2 j0 j1 j2 tx22 cp22 tx25 cp25 tx30 cp30 tx31 cp31 tx39 cp39 tx42 cp42 tx43 cp43
  have XA4 := Lib.hid (XA3.out.grow hB4)
  have XB4 := Lib.hid (XB3.out.grow hB4)
  have XD4 := Lib.hid (XD3.out.grow hB4)
  have MA4 := Lib.hid (MA3.out.grow hB4)
  have MB4 := Lib.hid (MB3.out.grow hB4)
  have MD4 := Lib.hid (MD3.out.grow hB4)
  have HT4 := Lib.hid (below_then HT3.out hB4)
  clear XA3 XB3 XD3 MA3 MB3 MD3 HT3 hB4 KAB KBA KNA KNN KSB KNB KAN
  have k0 := MA4.out.c0
  have k1 := MA4.out.c1
  have k2 := MA4.out.c2
  have j0 := MB4.out.c0
  have j1 := MB4.out.c1
  have j2 := MB4.out.c2
  dsimp only at k0 k1 k2 j0 j1 j2
  go_wp2_with (fail)
  refine (KP.out _ XA4.out XB4.out).mono ?_
  rintro e w5 ⟨rp, rfl, txp, ⟨pp, np, cp, rfl, hp1, hp2⟩, hB5⟩
  have hg5 := (Below.refl w5.heap.size w5).alloc (Nat.le_refl _) (.cells #[.slice pp np cp, .int .i64 x0, .int .i64 x1] 26)
  have XA5 := Lib.hid ((XA4.out.grow hB5).grow hg5)
  have XB5 := Lib.hid ((XB4.out.grow hB5).grow hg5)
  have XD5 := Lib.hid ((XD4.out.grow hB5).grow hg5)
  have MA5 := Lib.hid ((MA4.out.grow hB5).grow hg5)
  have MB5 := Lib.hid ((MB4.out.grow hB5).grow hg5)
  have MD5 := Lib.hid ((MD4.out.grow hB5).grow hg5)
  have XP5 := Lib.hid (txp.grow hg5)
  have MP5 := Lib.hid (MoC.new w5 (.slice pp np cp) x0 x1)
  have HT5 := Lib.hid (below_then (below_then HT4.out hB5) hg5)
  clear k0 k1 k2 j0 j1 j2 XA4 XB4 XD4 MA4 MB4 MD4 HT4 hB5 hg5 txp hp1 hp2 KP
  have k0 := MA5.out.c0
  have k1 := MA5.out.c1
  have k2 := MA5.out.c2
  have j0 := MB5.out.c0
  have j1 := MB5.out.c1
  have j2 := MB5.out.c2
  dsimp only at k0 k1 k2 j0 j1 j2
  go_wp2_with (fail)
  refine (KQ.out _ XB5.out XA5.out).mono ?_
  rintro e w6 ⟨rq, rfl, txq, ⟨pq, nq, cq, rfl, hp1, hp2⟩, hB6⟩
  have hg6 := (Below.refl w6.heap.size w6).alloc (Nat.le_refl _) (.cells #[.slice pq nq cq, .int .i64 y0, .int .i64 y1] 26)
  have XD6 := Lib.hid ((XD5.out.grow hB6).grow hg6)
  have MD6 := Lib.hid ((MD5.out.grow hB6).grow hg6)
  have XP6 := Lib.hid ((XP5.out.grow hB6).grow hg6)
  have MP6 := Lib.hid ((MP5.out.grow hB6).grow hg6)
  have XQ6 := Lib.hid (txq.grow hg6)
  have MQ6 := Lib.hid (MoC.new w6 (.slice pq nq cq) y0 y1)
  have HT6 := Lib.hid (below_then (below_then HT5.out hB6) hg6)
  clear k0 k1 k2 j0 j1 j2 XA5 XB5 XD5 MA5 MB5 MD5 XP5 MP5 HT5 hB6 hg6 txq hp1 hp2 KQ
  obtain ⟨WE, hWE⟩ : ∃ W, w6.alloc (.cells #[.slice pq nq cq, .int .i64 y0, .int .i64 y1] 26) = W := ⟨_, rfl⟩
  rw [hWE] at XD6 MD6 XP6 MP6 XQ6 MQ6 HT6
  have k0 := MD6.out.c0
  have k1 := MD6.out.c1
  have k2 := MD6.out.c2
  dsimp only at k0 k1 k2
  have i0 := HI0.out
  unfold In0 at i0
  have db := vb_bdY HDV.out
  dsimp only at i0 db
  have KH := Lib.hid (fun (z : Value) (w : World) h => hv_nil (.slice pd 0 cd) z d0 d1 0 w h db (by omega))
  clear i0 db
  go_wp2_with (fail)
  try rw [hWE]
  clear hWE
  refine (KH.out _ _ XD6.out).mono ?_
  rintro e w7 ⟨rfl, hB7⟩
  have XP7 := XP6.out.grow hB7
  have MP7 := MP6.out.grow hB7
  have XQ7 := XQ6.out.grow hB7
  have MQ7 := MQ6.out.grow hB7
  have HT7 := Lib.hid (below_then HT6.out hB7)
  have l0 := MP7.c0
  have l1 := MP7.c1
  have l2 := MP7.c2
  have m0 := MQ7.c0
  have m1 := MQ7.c1
  have m2 := MQ7.c2
  dsimp only at l0 l1 l2 m0 m1 m2
  have KS := Lib.hid (rsame_ok (.slice pp np cp) (.slice pq nq cq) x0 x1 y0 y1 P Q w7 XP7 XQ7 TP.out TQ.out)
  have HMP := Lib.hid MP7
  have HMQ := Lib.hid MQ7
  clear k0 k1 k2 XP7 XQ7 MP7 MQ7 hB7 XP6 XQ6 MP6 MQ6 XD6 MD6 HT6
  go_wp2_with (fail)
  refine KS.out.mono ?_
  rintro e w8 ⟨rfl, hB8⟩
  clear l0 l1 l2 m0 m1 m2
  have l1 := (HMP.out.grow hB8).c1
  have l2 := (HMP.out.grow hB8).c2
  dsimp only at l1 l2
  cases hz : ((x0 == y0) && (x1 == y1)) && decide (P = Q) with
  | true =>
    clear hz
    go_wp2_with (fail)
    go_ret
    exact ⟨rfl, below_then HT7.out hB8⟩
  | false =>
    by_cases hE : Ent x0 x1
    · obtain ⟨rfl, rfl⟩ := hE
      clear hz
      go_wp2_with (fail)
      refine (iv_ent_yes _).mono ?_
      rintro e w9 ⟨rfl, hB9⟩
      clear l1 l2
      go_wp2_with (fail)
      go_ret
      exact ⟨rfl, below_then (below_then HT7.out hB8) hB9⟩
    · have hEq : Ent y0 y1 := by
        rcases PC.out with h | h | h
        · exfalso
          simp only [Prod.mk.injEq] at h
          rw [h.1, h.2.1, h.2.2] at hz
          simp at hz
        · exact absurd h hE
        · exact h
      have KE := Lib.hid (fun w => iv_ent_no x0 x1 w hE)
      obtain ⟨rfl, rfl⟩ := hEq
      clear hE hz
      go_wp2_with (fail)
      refine (KE.out _).mono ?_
      rintro e w9 ⟨rfl, hB9⟩
      have m1 := (HMQ.out.grow (hB8.trans (hB9.mono hB8.size))).c1
      have m2 := (HMQ.out.grow (hB8.trans (hB9.mono hB8.size))).c2
      dsimp only at m1 m2
      clear l1 l2
      go_wp2_with (fail)
      refine (iv_ent_yes _).mono ?_
      rintro e w10 ⟨rfl, hB10⟩
      clear m1 m2
      go_wp2_with (fail)
      go_ret
      exact ⟨rfl, below_then (below_then (below_then HT7.out hB8) hB9) hB10⟩
end Go.Proofs.YtbfhmbadgbackaaGreat
