/-
  The law TaylorTruncatePreservesValues.
-/
import Derived.Test.YtbfhmbadgbackaaGreatSan6
import Derived.Test.YtbfhmbadgbackaaGreatYi
namespace Go.Proofs.YtbfhmbadgbackaaGreat
open Go.ChangeShapes Go.WideShapes Go.ChangeAt Go.RowKit
set_option linter.unusedVariables false
set_option linter.unusedSimpArgs false
set_option maxRecDepth 100000

attribute [local irreducible] Calls

theorem rsame_yes7 (u v : Value) (a b : Int) (l : List Tm) (w : World) (hu : Tx w u l) (hv : Tx w v l) (hl : ∀ t ∈ l, TV t) :
    Calls Tryz.prog 16 #[.agg #[u, .int .i64 a, .int .i64 b], .agg #[v, .int .i64 a, .int .i64 b]] w fun e w' => e = .returned (.bool true) ∧ Below w.heap.size w w' := by
  have := rsame_ok u v a b a b l l w hu hv hl hl
  simpa using this
theorem iso7 {P : Program} {f : FuncId} {args : Array Value} {w : World} {m k : Mo} (h : Calls P f args w fun e w' => ∃ r, e = .returned (.agg #[r, .int .i64 m.2.1, .int .i64 m.2.2]) ∧ Tx w' r m.1 ∧ CapOk r ∧ Below w.heap.size w w') (e : m = k) : Calls P f args w fun e w' => ∃ r, e = .returned (.agg #[r, .int .i64 k.2.1, .int .i64 k.2.2]) ∧ Tx w' r k.1 ∧ CapOk r ∧ Below w.heap.size w w' := by
  subst e
  exact h
theorem steady_mo (x y : Int) (L : List Tm) : Steady (fun z w' => ∃ p n c, z = .agg #[.slice p n c, .int .i64 x, .int .i64 y] ∧ Tx w' (.slice p n c) L ∧ CapOk (.slice p n c)) := fun u w1 w2 hb ⟨p, n, c, e, h1, h2⟩ => ⟨p, n, c, e, h1.grow hb, h2⟩
theorem entM {a : Mo} (hE : Ent a.2.1 a.2.2) (hn : a.1 = []) (d : Int) : Ent (truncM a d).2.1 (truncM a d).2.2 := by
  obtain ⟨l, p, q⟩ := a
  obtain ⟨rfl, rfl⟩ := hE
  dsimp only at hn
  subst hn
  have : truncM ([], (-2147483648, 2147483648)) d = ([], (-2147483648, 2147483648)) := truncM_fix vp_nil (by simp) (.inl ⟨rfl, rfl⟩) (fun _ => rfl)
  rw [this]
  exact ⟨rfl, rfl⟩
set_option maxHeartbeats 64000000 in
theorem ttruncp (w : World) (a0A a0B a0S : Value) (a0p a0q a0r a0s a0x a0y : Int) (a0la a0lb : List Tm) (a0ls : List Int) (h0A : Tx w a0A a0la ∧ ∀ t ∈ a0la, TV t) (h0p : -9223372036854775808 ≤ a0p ∧ a0p ≤ 9223372036854775807) (h0q : -9223372036854775808 ≤ a0q ∧ a0q ≤ 9223372036854775807) (h0B : Tx w a0B a0lb ∧ ∀ t ∈ a0lb, TV t) (h0r : -9223372036854775808 ≤ a0r ∧ a0r ≤ 9223372036854775807) (h0s : -9223372036854775808 ≤ a0s ∧ a0s ≤ 9223372036854775807) (h0S : S8 w a0S a0ls ∧ ∀ x ∈ a0ls, -128 ≤ x ∧ x ≤ 127) (h0x : 0 ≤ a0x ∧ a0x ≤ 65535) (h0y : 0 ≤ a0y ∧ a0y ≤ 65535) (a1 : Int) (w1 : (Lit.int .u8 a1).wf = true) :
    Calls Tryz.prog 9 #[.agg #[a0A, .int .i64 a0p, .int .i64 a0q, a0B, .int .i64 a0r, .int .i64 a0s, a0S, .int .u16 a0x, .int .u16 a0y], .int .u8 a1] w fun e w' => e = .returned (.bool true) ∧ Below w.heap.size w w' := by
  have b1 := bounds_u8 w1
  have b10 : 0 ≤ a1 := b1.1
  have T7 : a1.tmod 7 = a1 % 7 := Int.tmod_eq_emod_of_nonneg b10
  obtain ⟨d, hd⟩ : ∃ d, a1 % 7 = d := ⟨_, rfl⟩
  have hd0 : 0 ≤ d := by omega
  have hd6 : d ≤ 6 := by omega
  rw [hd] at T7
  have Wd : IntKind.i64.wrap d = d := wrap_i64 _ (by omega) (by omega)
  have HX := Lib.hid h0x
  have HS0 := Lib.hid h0S
  clear b1 w1 hd b10
  have hba : Below w.heap.size w (w.alloc (.cells #[a0A, .int .i64 a0p, .int .i64 a0q, a0B, .int .i64 a0r, .int .i64 a0s, a0S, .int .u16 a0x, .int .u16 a0y] 30)) := (Below.refl _ _).alloc (Nat.le_refl _) _
  have hI : (w.alloc (.cells #[a0A, .int .i64 a0p, .int .i64 a0q, a0B, .int .i64 a0r, .int .i64 a0s, a0S, .int .u16 a0x, .int .u16 a0y] 30)).heap[w.heap.size]? = some (.cells #[a0A, .int .i64 a0p, .int .i64 a0q, a0B, .int .i64 a0r, .int .i64 a0s, a0S, .int .u16 a0x, .int .u16 a0y] 30 (0, 0)) := World.alloc_heap_new w _
  have HI := Lib.hid hI
  have HBA := Lib.hid hba
  have KM := Lib.hid (fun w hA hB => models_ok a0A a0B a0S a0p a0q a0r a0s a0x a0y a0la a0lb w ⟨hA, h0A.2⟩ h0p h0q ⟨hB, h0B.2⟩ h0r h0s)
  have HA := Lib.hid h0A.1
  have HB := Lib.hid h0B.1
  clear h0A h0p h0q h0B h0r h0s h0S h0x h0y hba hI
  go_enter Tryz.func9, Tryz.ntmps9
  go_wp2_with (fail)
  generalize hW0 : World.alloc w _ = W0 at *
  clear hW0
  refine (sanity6 _).mono ?_
  rintro e w1 ⟨rfl, hB1⟩
  have hT1 := below_then HBA.out hB1
  have hI1 := (hB1.block w.heap.size (Array.getElem?_eq_some_iff.1 HI.out).1).trans HI.out
  have k0 := heapT_cell hI1 (k := 0) rfl
  have k1 := heapT_cell hI1 (k := 1) rfl
  have k2 := heapT_cell hI1 (k := 2) rfl
  have k3 := heapT_cell hI1 (k := 3) rfl
  have k4 := heapT_cell hI1 (k := 4) rfl
  have k5 := heapT_cell hI1 (k := 5) rfl
  have k6 := heapT_cell hI1 (k := 6) rfl
  have k7 := heapT_cell hI1 (k := 7) rfl
  have k8 := heapT_cell hI1 (k := 8) rfl
  have hI1' := Lib.hid hI1
  clear hI1
  go_wp2_with (fail)
  refine (KM.out w1 (HA.out.grow hT1) (HB.out.grow hT1)).mono ?_
  rintro e w2 ⟨ra, l, p, q, rb, m, r, s, rfl, txa, ⟨pa, na, ca, rfl, hca1, hca2⟩, ga, txb, ⟨pb, nb, cb, rfl, hcb1, hcb2⟩, gb, hB2⟩
  have hT2 := below_then hT1 hB2
  clear k0 k1 k2 k3 k4 k5 k6 k7 k8 hB1 hT1
  have CA : Hid (CapOk (.slice pa na ca)) := Lib.hid ⟨pa, na, ca, rfl, hca1, hca2⟩
  have CB : Hid (CapOk (.slice pb nb cb)) := Lib.hid ⟨pb, nb, cb, rfl, hcb1, hcb2⟩
  have GA := Lib.hid ga
  have GB := Lib.hid gb
  have XA := Lib.hid txa
  have XB := Lib.hid txb
  have HT := Lib.hid hT2
  have HIN := Lib.hid ((hB2.block w.heap.size (Array.getElem?_eq_some_iff.1 hI1'.out).1).trans hI1'.out)
  have HSS := Lib.hid (HS0.out.1.grow hT2)
  clear hca1 hca2 hcb1 hcb2 ga gb txa txb hT2 hB2 HI HA HB HBA KM hI1'
  go_wp2_with (fail)
  have XA1 := Lib.hid ((XA.out.grow ((Below.refl w2.heap.size w2).alloc (Nat.le_refl _) (.cells #[.slice pa na ca, .int .i64 p, .int .i64 q] 26))).grow ((Below.refl _ _).alloc (Nat.le_refl _) (.cells #[.slice pb nb cb, .int .i64 r, .int .i64 s] 26)))
  have XB1 := Lib.hid ((XB.out.grow ((Below.refl w2.heap.size w2).alloc (Nat.le_refl _) (.cells #[.slice pa na ca, .int .i64 p, .int .i64 q] 26))).grow ((Below.refl _ _).alloc (Nat.le_refl _) (.cells #[.slice pb nb cb, .int .i64 r, .int .i64 s] 26)))
  have MA1 := Lib.hid ((MoC.new w2 (.slice pa na ca) p q).alloc (.cells #[.slice pb nb cb, .int .i64 r, .int .i64 s] 26))
  have MB1 := Lib.hid (by have e := MoC.new (w2.alloc (.cells #[.slice pa na ca, .int .i64 p, .int .i64 q] 26)) (.slice pb nb cb) r s; rw [World.size_alloc] at e; exact e)
  have HT1 := Lib.hid (((HT.out).alloc HT.out.size (.cells #[.slice pa na ca, .int .i64 p, .int .i64 q] 26)).alloc (by have := HT.out.size; simp; omega) (.cells #[.slice pb nb cb, .int .i64 r, .int .i64 s] 26))
  have hgI := (((Below.refl w2.heap.size w2).alloc (Nat.le_refl _) (.cells #[.slice pa na ca, .int .i64 p, .int .i64 q] 26)).alloc (by simp) (.cells #[.slice pb nb cb, .int .i64 r, .int .i64 s] 26))
  have HIN1 := Lib.hid ((hgI.block w.heap.size (Array.getElem?_eq_some_iff.1 HIN.out).1).trans HIN.out)
  have HSS1 := Lib.hid (HSS.out.grow hgI)
  clear XA XB HT hgI HIN HSS
  generalize hW1 : World.alloc (World.alloc w2 _) _ = W1 at *
  clear hW1
  have tna := Lib.hid (goodm_tn GA.out)
  have lna : l.length ≤ 100 := goodm_len GA.out
  have va := Lib.hid GA.out.2.2.1
  have KT := Lib.hid (fun w h => ttrunc_ok (.slice pa na ca) p q d l w h tna.out lna va.out)
  have TG := Lib.hid (truncM_good (a := (l, (p, q))) (d := d) GA.out.1 GA.out.2.1 va.out)
  have TE := Lib.hid (fun hE : Ent p q => entM (a := (l, (p, q))) hE (GA.out.2.2.2.2 hE) d)
  have TVV := Lib.hid (fun x hx => truncM_val a0ls (a := (l, (p, q))) (d := d) (x := x) (fun t ht => (GA.out.2.1 t ht).1) hx)
  have T6 := Lib.hid (truncM_fix (a := (l, (p, q))) (d := 6) GA.out.1 (fun t ht => ((vp_parts GA.out.1).2 t ht).2) va.out GA.out.2.2.2.2)
  obtain ⟨⟨T, t0, t1⟩, hT⟩ : ∃ R, truncM (l, (p, q)) d = R := ⟨_, rfl⟩
  rw [hT] at KT TG TE TVV
  dsimp only at KT TG TE TVV
  refine (KT.out _ XA1.out).mono ?_
  rintro e w3 ⟨rt, rfl, txt, ⟨pt, nt, ct, rfl, hct1, hct2⟩, hB3⟩
  have CT : Hid (CapOk (.slice pt nt ct)) := Lib.hid ⟨pt, nt, ct, rfl, hct1, hct2⟩
  have hg3 := (Below.refl w3.heap.size w3).alloc (Nat.le_refl _) (.cells #[.slice pt nt ct, .int .i64 t0, .int .i64 t1] 26)
  have XA2 := Lib.hid ((XA1.out.grow hB3).grow hg3)
  have XT2 := Lib.hid (txt.grow hg3)
  have MA2 := Lib.hid ((MA1.out.grow hB3).grow hg3)
  have MT2 := Lib.hid (MoC.new w3 (.slice pt nt ct) t0 t1)
  have HT2 := Lib.hid (below_then (below_then HT1.out hB3) hg3)
  have HIN2 := Lib.hid ((hg3.block w.heap.size (by have := (hB3.block w.heap.size (Array.getElem?_eq_some_iff.1 HIN1.out).1).trans HIN1.out; exact (Array.getElem?_eq_some_iff.1 this).1)).trans ((hB3.block w.heap.size (Array.getElem?_eq_some_iff.1 HIN1.out).1).trans HIN1.out))
  have HSS2 := Lib.hid ((HSS1.out.grow hB3).grow hg3)
  clear XA1 XB1 MA1 MB1 HT1 HIN1 HSS1 txt hct1 hct2 hB3 hg3 hT
  obtain ⟨W2, hW2⟩ : ∃ W, w3.alloc (.cells #[.slice pt nt ct, .int .i64 t0, .int .i64 t1] 26) = W := ⟨_, rfl⟩
  rw [hW2] at XA2 XT2 MA2 MT2 HT2 HIN2 HSS2
  have k0 := MA2.out.c0
  have k1 := MA2.out.c1
  have k2 := MA2.out.c2
  dsimp only at k0 k1 k2
  by_cases hE : Ent p q
  · have hte := TE.out hE
    obtain ⟨rfl, rfl⟩ := hE
    go_wp2_with (fail)
    try rw [hW2]
    clear hW2
    refine (r2ent_yes _).mono ?_
    rintro e w4 ⟨rfl, hB4⟩
    have l1 := (MT2.out.grow hB4).c1
    have l2 := (MT2.out.grow hB4).c2
    dsimp only at l1 l2
    obtain ⟨rfl, rfl⟩ := hte
    clear k0 k1 k2
    go_wp2_with (fail)
    refine (iv_ent_yes _).mono ?_
    rintro e w5 ⟨rfl, hB5⟩
    clear l1 l2
    go_wp2_with (fail)
    go_ret
    exact ⟨rfl, below_then (below_then HT2.out hB4) hB5⟩
  · have KE := Lib.hid (fun w => r2ent_no p q w hE)
    have vv := va.out
    unfold VB2 VI at vv
    have vn := vv.resolve_left hE
    have hpq := vn.2.2
    have n1 := vn.1
    have n2 := vn.2.1
    unfold Num at n1 n2
    dsimp only at n1 n2 hpq
    have hfr := frac_bd (d := q - p) (x := a0x) (by omega) HX.out
    have hdiv : 0 ≤ (q - p) * a0x / 65535 ∧ (q - p) * a0x / 65535 ≤ q - p := by omega
    have hcb := cvS_bd a0ls l fun t ht => (tna.out t ht).2
    have hln := GA.out.2.2.2.1
    dsimp only at hln
    have hval := TVV.out (p + (q - p) * a0x / 65535) (by omega)
    have hvm : valM a0ls (l, (p, q)) a0x = cvS a0ls l + (p + (q - p) * a0x / 65535) := by unfold valM; dsimp only; omega
    have SA6 := Lib.hid (ev_six GA.out.1 GA.out.2.1)
    have ST6 := Lib.hid (ev_six TG.out.1 TG.out.2.1)
    have KV := Lib.hid (fun w h1 h2 => valat_ok (.slice pa na ca) a0S l a0ls p q a0x w h1 h2 SA6.out HS0.out.2 lna hpq (by omega) (by omega) HX.out)
    rw [hvm] at KV
    obtain ⟨V, hV⟩ : ∃ V, cvS a0ls l + (p + (q - p) * a0x / 65535) = V := ⟨_, rfl⟩
    rw [hV] at KV hval
    have WV : IntKind.i64.wrap (V * 65536) = V * 65536 := wrap_i64 _ (by omega) (by omega)
    have lnt : T.length ≤ 100 := TG.out.1.2.1
    have tbd := vb_bdY TG.out.2.2.1
    dsimp only at tbd
    have KH := Lib.hid (fun w h1 h2 => hv_ok (.slice pt nt ct) a0S T a0ls t0 t1 (V * 65536) true w h1 h2 ST6.out HS0.out.2 lnt tbd ⟨fun _ => by
      rcases hval with h | h
      · exact .inl h
      · exact .inr (by omega), fun _ => rfl⟩)
    have KR := Lib.hid (fun w h => rvalid6_ok (.slice pt nt ct) t0 t1 T true w h TG.out.2.1 ⟨fun _ => ⟨TG.out.1, TG.out.2.2.1, by
      by_cases q : Ent t0 t1
      · exact .inl (TG.out.2.2.2.2 q)
      · exact .inr q⟩, fun _ => rfl⟩)
    have KD := Lib.hid (fun w h => rdegree_ok (.slice pt nt ct) T w h TG.out.2.1)
    have hdg := degP_le TG.out.2.2.2.1 (by omega)
    obtain ⟨G, hG⟩ : ∃ G, degP T = G := ⟨_, rfl⟩
    rw [hG] at KD hdg
    have KT2 := Lib.hid (fun w h => iso7 (ttrunc_ok (.slice pt nt ct) t0 t1 d T w h (fun t ht => ⟨TG.out.2.1 t ht, vp_num TG.out.1 t ht⟩) lnt TG.out.2.2.1) (truncM_fix (a := (T, (t0, t1))) TG.out.1 TG.out.2.2.2.1 TG.out.2.2.1 TG.out.2.2.2.2))
    have KA6 := Lib.hid (fun w h => iso7 (ttrunc_ok (.slice pa na ca) p q 6 l w h tna.out lna va.out) T6.out)
    dsimp only at KT2 KA6
    clear hE vv vn hfr hdiv hcb hval hvm hV tbd hG n1 n2
    go_wp2_with (fail)
    try rw [hW2]
    clear hW2
    refine (KE.out _).mono ?_
    rintro e w4 ⟨rfl, hB4⟩
    have XA3 := Lib.hid (XA2.out.grow hB4)
    have XT3 := Lib.hid (XT2.out.grow hB4)
    have MA3 := Lib.hid (MA2.out.grow hB4)
    have MT3 := Lib.hid (MT2.out.grow hB4)
    have HT3 := Lib.hid (below_then HT2.out hB4)
    have HIN3 := Lib.hid ((hB4.block w.heap.size (Array.getElem?_eq_some_iff.1 HIN2.out).1).trans HIN2.out)
    have HSS3 := Lib.hid (HSS2.out.grow hB4)
    clear k0 k1 k2 XA2 XT2 MA2 MT2 HT2 HIN2 HSS2 hB4 KE
    go_wp2_with (fail)
    have k0 := fun g : Grown w4 => (MA3.out.grow g.h).c0
    have k1 := fun g : Grown w4 => (MA3.out.grow g.h).c1
    have k2 := fun g : Grown w4 => (MA3.out.grow g.h).c2
    have j0 := fun g : Grown w4 => (MT3.out.grow g.h).c0
    have j1 := fun g : Grown w4 => (MT3.out.grow g.h).c1
    have j2 := fun g : Grown w4 => (MT3.out.grow g.h).c2
    have i6 := fun g : Grown w4 => heapT_cell ((g.h.block w.heap.size (Array.getElem?_eq_some_iff.1 HIN3.out).1).trans HIN3.out) (k := 6) rfl
    have i7 := fun g : Grown w4 => heapT_cell ((g.h.block w.heap.size (Array.getElem?_eq_some_iff.1 HIN3.out).1).trans HIN3.out) (k := 7) rfl
    dsimp only at k0 k1 k2 j0 j1 j2
    obtain ⟨zs, ds, hzs⟩ : ∃ p c, a0S = .slice p a0ls.length c := ⟨_, _, HS0.out.1.2.choose_spec.choose_spec.1⟩
    subst hzs
    refine region_pred (lk [(31, fun z_ _ => z_ = .bool true), (32, fun z_ _ => z_ = .bool true), (33, fun z_ _ => z_ = .agg #[.slice pt nt ct, .int .i64 t0, .int .i64 t1]), (34, fun z_ _ => z_ = .bool true), (35, fun z_ _ => z_ = .bool true), (36, fun z_ _ => z_ = .bool true), (37, fun z_ _ => z_ = .pointer (some ⟨w3.heap.size, 0, none⟩)), (38, fun z_ _ => z_ = .slice pt nt ct), (39, fun z_ _ => z_ = .int .i64 G), (40, fun z_ _ => z_ = .int .i64 d), (41, fun z_ _ => z_ = .bool true), (42, fun z_ _ => z_ = .bool true), (43, fun z_ _ => z_ = .bool true), (44, fun z_ _ => z_ = .agg #[.slice pt nt ct, .int .i64 t0, .int .i64 t1]), (45, fun z_ _ => z_ = .pointer (some ⟨w.heap.size, 6, none⟩)), (46, fun z_ _ => z_ = (.slice zs a0ls.length ds)), (47, fun z_ _ => z_ = .agg #[.slice pa na ca, .int .i64 p, .int .i64 q]), (48, fun z_ _ => z_ = .pointer (some ⟨w.heap.size, 6, none⟩)), (49, fun z_ _ => z_ = (.slice zs a0ls.length ds)), (50, fun z_ _ => z_ = .pointer (some ⟨w.heap.size, 7, none⟩)), (51, fun z_ _ => z_ = .int .u16 a0x), (52, fun z_ _ => z_ = .int .i64 V), (53, fun z_ _ => z_ = .int .i64 (V * 65536)), (54, fun z_ _ => z_ = .bool true), (55, fun z_ _ => z_ = .bool true), (56, fun z_ _ => z_ = .bool true), (57, fun z_ _ => z_ = .agg #[.slice pt nt ct, .int .i64 t0, .int .i64 t1]), (58, fun z_ _ => z_ = .int .i64 d), (59, fun z_ w' => ∃ p_ n_ c_, z_ = .agg #[.slice p_ n_ c_, .int .i64 t0, .int .i64 t1] ∧ Tx w' (.slice p_ n_ c_) T ∧ CapOk (.slice p_ n_ c_)), (60, fun z_ _ => z_ = .agg #[.slice pt nt ct, .int .i64 t0, .int .i64 t1]), (61, fun z_ _ => z_ = .bool true), (62, fun z_ _ => z_ = .bool true), (63, fun z_ _ => z_ = .bool true), (64, fun z_ _ => z_ = .agg #[.slice pa na ca, .int .i64 p, .int .i64 q]), (65, fun z_ w' => ∃ p_ n_ c_, z_ = .agg #[.slice p_ n_ c_, .int .i64 p, .int .i64 q] ∧ Tx w' (.slice p_ n_ c_) l ∧ CapOk (.slice p_ n_ c_)), (66, fun z_ _ => z_ = .agg #[.slice pa na ca, .int .i64 p, .int .i64 q]), (67, fun z_ _ => z_ = .bool true), (68, fun z_ _ => z_ = .bool true), (4, fun z_ _ => z_ = .bool true)]) (by kernel_rfl) (by kernel_rfl) (lk_steady _ ⟨steady_eq _, steady_eq _, steady_eq _, steady_eq _, steady_eq _, steady_eq _, steady_eq _, steady_eq _, steady_eq _, steady_eq _, steady_eq _, steady_eq _, steady_eq _, steady_eq _, steady_eq _, steady_eq _, steady_eq _, steady_eq _, steady_eq _, steady_eq _, steady_eq _, steady_eq _, steady_eq _, steady_eq _, steady_eq _, steady_eq _, steady_eq _, steady_eq _, steady_mo _ _ _, steady_eq _, steady_eq _, steady_eq _, steady_eq _, steady_eq _, steady_mo _ _ _, steady_eq _, steady_eq _, steady_eq _, steady_eq _, trivial⟩) ?_ ?_
    · refine ⟨?_, ?_, ?_, ?_, ?_, ?_, ?_, ?_, ?_, ?_, ?_, ?_, ?_, ?_, ?_, ?_, ?_, ?_, ?_, ?_, ?_, ?_, ?_, ?_, ?_, ?_, ?_, ?_, ?_, ?_, ?_, ?_, ?_, ?_, ?_, ?_, ?_, ?_, ?_, trivial⟩
      · refine ob_plain [5] rfl rfl fun aa g h => ?_
        have yy0 := seen_out (v := .bool true) rfl rfl h.1
        have ee0 := getD_of yy0
        exact tupon_value (v := .bool true) (by simp [go_sem, ee0, yy0]) (Below.refl _ _) rfl
      · refine ob_plain [31] rfl rfl fun aa g h => ?_
        obtain ⟨_, yy0, rfl⟩ := seen_in rfl h.1
        have ee0 := getD_of yy0
        exact tupon_value (v := .bool true) (by simp [go_sem, ee0, yy0]) (Below.refl _ _) rfl
      · refine ob_gtrue [9] _ true 32 rfl rfl rfl rfl (fun v w h => h) fun aa g h => ?_
        have yy0 := seen_out (v := .pointer (some ⟨w3.heap.size, 0, none⟩)) rfl rfl h.1
        have ee0 := getD_of yy0
        exact tupon_value (v := .agg #[.slice pt nt ct, .int .i64 t0, .int .i64 t1]) (by simp [go_sem, ee0, yy0, j0 g, j1 g, j2 g]) (Below.refl _ _) rfl
      · refine ob_gtrue [33] _ true 32 rfl rfl rfl rfl (fun v w h => h) fun aa g h => ?_
        obtain ⟨_, yy0, rfl⟩ := seen_in rfl h.1
        have ee0 := getD_of yy0
        refine tupon_enter (f := 15) (args := #[.agg #[.slice pt nt ct, .int .i64 t0, .int .i64 t1]]) (by simp [go_sem, ee0, yy0]) rfl ?_
        exact (KR.out g.w (XT3.out.grow g.h)).mono fun e w' ⟨he, hB⟩ => ⟨_, he, hB, rfl⟩
      · refine ob_plain [32, 34] rfl rfl fun aa g h => ?_
        obtain ⟨_, yy0, rfl⟩ := seen_in rfl h.1
        have ee0 := getD_of yy0
        obtain ⟨_, yy1, rfl⟩ := seen_in rfl h.2.1
        have ee1 := getD_of yy1
        exact tupon_value (v := .bool true) (by simp [go_sem, ee0, yy0, ee1, yy1]) (Below.refl _ _) rfl
      · refine ob_plain [35] rfl rfl fun aa g h => ?_
        obtain ⟨_, yy0, rfl⟩ := seen_in rfl h.1
        have ee0 := getD_of yy0
        exact tupon_value (v := .bool true) (by simp [go_sem, ee0, yy0]) (Below.refl _ _) rfl
      · refine ob_gtrue [9] _ true 36 rfl rfl rfl rfl (fun v w h => h) fun aa g h => ?_
        have yy0 := seen_out (v := .pointer (some ⟨w3.heap.size, 0, none⟩)) rfl rfl h.1
        have ee0 := getD_of yy0
        exact tupon_value (v := .pointer (some ⟨w3.heap.size, 0, none⟩)) (by simp [go_sem, ee0, yy0]) (Below.refl _ _) rfl
      · refine ob_gtrue [37] _ true 36 rfl rfl rfl rfl (fun v w h => h) fun aa g h => ?_
        obtain ⟨_, yy0, rfl⟩ := seen_in rfl h.1
        have ee0 := getD_of yy0
        exact tupon_value (v := .slice pt nt ct) (by simp [go_sem, ee0, yy0, j0 g]) (Below.refl _ _) rfl
      · refine ob_gtrue [38] _ true 36 rfl rfl rfl rfl (fun v w h => h) fun aa g h => ?_
        obtain ⟨_, yy0, rfl⟩ := seen_in rfl h.1
        have ee0 := getD_of yy0
        refine tupon_enter (f := 46) (args := #[.slice pt nt ct]) (by simp [go_sem, ee0, yy0]) rfl ?_
        exact (KD.out g.w (XT3.out.grow g.h)).mono fun e w' ⟨he, hB⟩ => ⟨_, he, hB, rfl⟩
      · refine ob_gtrue [8] _ true 36 rfl rfl rfl rfl (fun v w h => h) fun aa g h => ?_
        have yy0 := seen_out (v := .int .i64 d) rfl rfl h.1
        have ee0 := getD_of yy0
        exact tupon_value (v := .int .i64 d) (by simp [go_sem, ee0, yy0]) (Below.refl _ _) rfl
      · refine ob_gtrue [39, 40] _ true 36 rfl rfl rfl rfl (fun v w h => h) fun aa g h => ?_
        obtain ⟨_, yy0, rfl⟩ := seen_in rfl h.1
        have ee0 := getD_of yy0
        obtain ⟨_, yy1, rfl⟩ := seen_in rfl h.2.1
        have ee1 := getD_of yy1
        exact tupon_value (v := .bool true) (by simp [go_sem, ee0, yy0, ee1, yy1, hdg]) (Below.refl _ _) rfl
      · refine ob_plain [36, 41] rfl rfl fun aa g h => ?_
        obtain ⟨_, yy0, rfl⟩ := seen_in rfl h.1
        have ee0 := getD_of yy0
        obtain ⟨_, yy1, rfl⟩ := seen_in rfl h.2.1
        have ee1 := getD_of yy1
        exact tupon_value (v := .bool true) (by simp [go_sem, ee0, yy0, ee1, yy1]) (Below.refl _ _) rfl
      · refine ob_plain [42] rfl rfl fun aa g h => ?_
        obtain ⟨_, yy0, rfl⟩ := seen_in rfl h.1
        have ee0 := getD_of yy0
        exact tupon_value (v := .bool true) (by simp [go_sem, ee0, yy0]) (Below.refl _ _) rfl
      · refine ob_gtrue [9] _ true 43 rfl rfl rfl rfl (fun v w h => h) fun aa g h => ?_
        have yy0 := seen_out (v := .pointer (some ⟨w3.heap.size, 0, none⟩)) rfl rfl h.1
        have ee0 := getD_of yy0
        exact tupon_value (v := .agg #[.slice pt nt ct, .int .i64 t0, .int .i64 t1]) (by simp [go_sem, ee0, yy0, j0 g, j1 g, j2 g]) (Below.refl _ _) rfl
      · refine ob_gtrue [2] _ true 43 rfl rfl rfl rfl (fun v w h => h) fun aa g h => ?_
        have yy0 := seen_out (v := .pointer (some ⟨w.heap.size, 0, none⟩)) rfl rfl h.1
        have ee0 := getD_of yy0
        exact tupon_value (v := .pointer (some ⟨w.heap.size, 6, none⟩)) (by simp [go_sem, ee0, yy0]) (Below.refl _ _) rfl
      · refine ob_gtrue [45] _ true 43 rfl rfl rfl rfl (fun v w h => h) fun aa g h => ?_
        obtain ⟨_, yy0, rfl⟩ := seen_in rfl h.1
        have ee0 := getD_of yy0
        exact tupon_value (v := (.slice zs a0ls.length ds)) (by simp [go_sem, ee0, yy0, i6 g]) (Below.refl _ _) rfl
      · refine ob_gtrue [6] _ true 43 rfl rfl rfl rfl (fun v w h => h) fun aa g h => ?_
        have yy0 := seen_out (v := .pointer (some ⟨w2.heap.size, 0, none⟩)) rfl rfl h.1
        have ee0 := getD_of yy0
        exact tupon_value (v := .agg #[.slice pa na ca, .int .i64 p, .int .i64 q]) (by simp [go_sem, ee0, yy0, k0 g, k1 g, k2 g]) (Below.refl _ _) rfl
      · refine ob_gtrue [2] _ true 43 rfl rfl rfl rfl (fun v w h => h) fun aa g h => ?_
        have yy0 := seen_out (v := .pointer (some ⟨w.heap.size, 0, none⟩)) rfl rfl h.1
        have ee0 := getD_of yy0
        exact tupon_value (v := .pointer (some ⟨w.heap.size, 6, none⟩)) (by simp [go_sem, ee0, yy0]) (Below.refl _ _) rfl
      · refine ob_gtrue [48] _ true 43 rfl rfl rfl rfl (fun v w h => h) fun aa g h => ?_
        obtain ⟨_, yy0, rfl⟩ := seen_in rfl h.1
        have ee0 := getD_of yy0
        exact tupon_value (v := (.slice zs a0ls.length ds)) (by simp [go_sem, ee0, yy0, i6 g]) (Below.refl _ _) rfl
      · refine ob_gtrue [2] _ true 43 rfl rfl rfl rfl (fun v w h => h) fun aa g h => ?_
        have yy0 := seen_out (v := .pointer (some ⟨w.heap.size, 0, none⟩)) rfl rfl h.1
        have ee0 := getD_of yy0
        exact tupon_value (v := .pointer (some ⟨w.heap.size, 7, none⟩)) (by simp [go_sem, ee0, yy0]) (Below.refl _ _) rfl
      · refine ob_gtrue [50] _ true 43 rfl rfl rfl rfl (fun v w h => h) fun aa g h => ?_
        obtain ⟨_, yy0, rfl⟩ := seen_in rfl h.1
        have ee0 := getD_of yy0
        exact tupon_value (v := .int .u16 a0x) (by simp [go_sem, ee0, yy0, i7 g]) (Below.refl _ _) rfl
      · refine ob_gtrue [47, 49, 51] _ true 43 rfl rfl rfl rfl (fun v w h => h) fun aa g h => ?_
        obtain ⟨_, yy0, rfl⟩ := seen_in rfl h.1
        have ee0 := getD_of yy0
        obtain ⟨_, yy1, rfl⟩ := seen_in rfl h.2.1
        have ee1 := getD_of yy1
        obtain ⟨_, yy2, rfl⟩ := seen_in rfl h.2.2.1
        have ee2 := getD_of yy2
        refine tupon_enter (f := 40) (args := #[.agg #[.slice pa na ca, .int .i64 p, .int .i64 q], (.slice zs a0ls.length ds), .int .u16 a0x]) (by simp [go_sem, ee0, yy0, ee1, yy1, ee2, yy2]) rfl ?_
        exact (KV.out g.w (XA3.out.grow g.h) (HSS3.out.grow g.h)).mono fun e w' ⟨he, hB⟩ => ⟨_, he, hB, rfl⟩
      · refine ob_gtrue [52] _ true 43 rfl rfl rfl rfl (fun v w h => h) fun aa g h => ?_
        obtain ⟨_, yy0, rfl⟩ := seen_in rfl h.1
        have ee0 := getD_of yy0
        exact tupon_value (v := .int .i64 (V * 65536)) (by simp [go_sem, ee0, yy0, WV]) (Below.refl _ _) rfl
      · refine ob_gtrue [44, 46, 53] _ true 43 rfl rfl rfl rfl (fun v w h => h) fun aa g h => ?_
        obtain ⟨_, yy0, rfl⟩ := seen_in rfl h.1
        have ee0 := getD_of yy0
        obtain ⟨_, yy1, rfl⟩ := seen_in rfl h.2.1
        have ee1 := getD_of yy1
        obtain ⟨_, yy2, rfl⟩ := seen_in rfl h.2.2.1
        have ee2 := getD_of yy2
        refine tupon_enter (f := 42) (args := #[.agg #[.slice pt nt ct, .int .i64 t0, .int .i64 t1], (.slice zs a0ls.length ds), .int .i64 (V * 65536)]) (by simp [go_sem, ee0, yy0, ee1, yy1, ee2, yy2]) rfl ?_
        exact (KH.out g.w (XT3.out.grow g.h) (HSS3.out.grow g.h)).mono fun e w' ⟨he, hB⟩ => ⟨_, he, hB, rfl⟩
      · refine ob_plain [43, 54] rfl rfl fun aa g h => ?_
        obtain ⟨_, yy0, rfl⟩ := seen_in rfl h.1
        have ee0 := getD_of yy0
        obtain ⟨_, yy1, rfl⟩ := seen_in rfl h.2.1
        have ee1 := getD_of yy1
        exact tupon_value (v := .bool true) (by simp [go_sem, ee0, yy0, ee1, yy1]) (Below.refl _ _) rfl
      · refine ob_plain [55] rfl rfl fun aa g h => ?_
        obtain ⟨_, yy0, rfl⟩ := seen_in rfl h.1
        have ee0 := getD_of yy0
        exact tupon_value (v := .bool true) (by simp [go_sem, ee0, yy0]) (Below.refl _ _) rfl
      · refine ob_gtrue [9] _ true 56 rfl rfl rfl rfl (fun v w h => h) fun aa g h => ?_
        have yy0 := seen_out (v := .pointer (some ⟨w3.heap.size, 0, none⟩)) rfl rfl h.1
        have ee0 := getD_of yy0
        exact tupon_value (v := .agg #[.slice pt nt ct, .int .i64 t0, .int .i64 t1]) (by simp [go_sem, ee0, yy0, j0 g, j1 g, j2 g]) (Below.refl _ _) rfl
      · refine ob_gtrue [8] _ true 56 rfl rfl rfl rfl (fun v w h => h) fun aa g h => ?_
        have yy0 := seen_out (v := .int .i64 d) rfl rfl h.1
        have ee0 := getD_of yy0
        exact tupon_value (v := .int .i64 d) (by simp [go_sem, ee0, yy0]) (Below.refl _ _) rfl
      · refine ob_gtrue [57, 58] _ true 56 rfl rfl rfl rfl (fun v w h => h) fun aa g h => ?_
        obtain ⟨_, yy0, rfl⟩ := seen_in rfl h.1
        have ee0 := getD_of yy0
        obtain ⟨_, yy1, rfl⟩ := seen_in rfl h.2.1
        have ee1 := getD_of yy1
        refine tupon_enter (f := 27) (args := #[.agg #[.slice pt nt ct, .int .i64 t0, .int .i64 t1], .int .i64 d]) (by simp [go_sem, ee0, yy0, ee1, yy1]) rfl ?_
        exact (KT2.out g.w (XT3.out.grow g.h)).mono fun e w' ⟨r, he, hx, hc, hB⟩ => ⟨_, he, hB, (by obtain ⟨p, n, c, e1, e2⟩ := hc; subst e1; exact ⟨p, n, c, rfl, hx, ⟨p, n, c, rfl, e2⟩⟩)⟩
      · refine ob_gtrue [9] _ true 56 rfl rfl rfl rfl (fun v w h => h) fun aa g h => ?_
        have yy0 := seen_out (v := .pointer (some ⟨w3.heap.size, 0, none⟩)) rfl rfl h.1
        have ee0 := getD_of yy0
        exact tupon_value (v := .agg #[.slice pt nt ct, .int .i64 t0, .int .i64 t1]) (by simp [go_sem, ee0, yy0, j0 g, j1 g, j2 g]) (Below.refl _ _) rfl
      · refine ob_gtrue [59, 60] _ true 56 rfl rfl rfl rfl (fun v w h => h) fun aa g h => ?_
        obtain ⟨_, yy0, ⟨p59, n59, c59, rfl, tx59, cp59⟩⟩ := seen_in rfl h.1
        have ee0 := getD_of yy0
        obtain ⟨_, yy1, rfl⟩ := seen_in rfl h.2.1
        have ee1 := getD_of yy1
        refine tupon_enter (f := 16) (args := #[.agg #[.slice p59 n59 c59, .int .i64 t0, .int .i64 t1], .agg #[.slice pt nt ct, .int .i64 t0, .int .i64 t1]]) (by simp [go_sem, ee0, yy0, ee1, yy1]) rfl ?_
        exact (rsame_yes7 _ _ t0 t1 _ g.w tx59 (XT3.out.grow g.h) TG.out.2.1).mono fun e w' ⟨he, hB⟩ => ⟨_, he, hB, rfl⟩
      · refine ob_plain [56, 61] rfl rfl fun aa g h => ?_
        obtain ⟨_, yy0, rfl⟩ := seen_in rfl h.1
        have ee0 := getD_of yy0
        obtain ⟨_, yy1, rfl⟩ := seen_in rfl h.2.1
        have ee1 := getD_of yy1
        exact tupon_value (v := .bool true) (by simp [go_sem, ee0, yy0, ee1, yy1]) (Below.refl _ _) rfl
      · refine ob_plain [62] rfl rfl fun aa g h => ?_
        obtain ⟨_, yy0, rfl⟩ := seen_in rfl h.1
        have ee0 := getD_of yy0
        exact tupon_value (v := .bool true) (by simp [go_sem, ee0, yy0]) (Below.refl _ _) rfl
      · refine ob_gtrue [6] _ true 63 rfl rfl rfl rfl (fun v w h => h) fun aa g h => ?_
        have yy0 := seen_out (v := .pointer (some ⟨w2.heap.size, 0, none⟩)) rfl rfl h.1
        have ee0 := getD_of yy0
        exact tupon_value (v := .agg #[.slice pa na ca, .int .i64 p, .int .i64 q]) (by simp [go_sem, ee0, yy0, k0 g, k1 g, k2 g]) (Below.refl _ _) rfl
      · refine ob_gtrue [64] _ true 63 rfl rfl rfl rfl (fun v w h => h) fun aa g h => ?_
        obtain ⟨_, yy0, rfl⟩ := seen_in rfl h.1
        have ee0 := getD_of yy0
        refine tupon_enter (f := 27) (args := #[.agg #[.slice pa na ca, .int .i64 p, .int .i64 q], .int .i64 6]) (by simp [go_sem, ee0, yy0]) rfl ?_
        exact (KA6.out g.w (XA3.out.grow g.h)).mono fun e w' ⟨r, he, hx, hc, hB⟩ => ⟨_, he, hB, (by obtain ⟨p, n, c, e1, e2⟩ := hc; subst e1; exact ⟨p, n, c, rfl, hx, ⟨p, n, c, rfl, e2⟩⟩)⟩
      · refine ob_gtrue [6] _ true 63 rfl rfl rfl rfl (fun v w h => h) fun aa g h => ?_
        have yy0 := seen_out (v := .pointer (some ⟨w2.heap.size, 0, none⟩)) rfl rfl h.1
        have ee0 := getD_of yy0
        exact tupon_value (v := .agg #[.slice pa na ca, .int .i64 p, .int .i64 q]) (by simp [go_sem, ee0, yy0, k0 g, k1 g, k2 g]) (Below.refl _ _) rfl
      · refine ob_gtrue [65, 66] _ true 63 rfl rfl rfl rfl (fun v w h => h) fun aa g h => ?_
        obtain ⟨_, yy0, ⟨p65, n65, c65, rfl, tx65, cp65⟩⟩ := seen_in rfl h.1
        have ee0 := getD_of yy0
        obtain ⟨_, yy1, rfl⟩ := seen_in rfl h.2.1
        have ee1 := getD_of yy1
        refine tupon_enter (f := 16) (args := #[.agg #[.slice p65 n65 c65, .int .i64 p, .int .i64 q], .agg #[.slice pa na ca, .int .i64 p, .int .i64 q]]) (by simp [go_sem, ee0, yy0, ee1, yy1]) rfl ?_
        exact (rsame_yes7 _ _ p q _ g.w tx65 (XA3.out.grow g.h) GA.out.2.1).mono fun e w' ⟨he, hB⟩ => ⟨_, he, hB, rfl⟩
      · refine ob_plain [63, 67] rfl rfl fun aa g h => ?_
        obtain ⟨_, yy0, rfl⟩ := seen_in rfl h.1
        have ee0 := getD_of yy0
        obtain ⟨_, yy1, rfl⟩ := seen_in rfl h.2.1
        have ee1 := getD_of yy1
        exact tupon_value (v := .bool true) (by simp [go_sem, ee0, yy0, ee1, yy1]) (Below.refl _ _) rfl
      · refine ob_plain [68] rfl rfl fun aa g h => ?_
        obtain ⟨_, yy0, rfl⟩ := seen_in rfl h.1
        have ee0 := getD_of yy0
        exact tupon_value (v := .bool true) (by simp [go_sem, ee0, yy0]) (Below.refl _ _) rfl
    rintro w9 hB9 _ rfl _ rfl _ rfl _ rfl _ rfl _ rfl _ rfl _ rfl _ rfl _ rfl _ rfl _ rfl _ rfl _ rfl _ rfl _ rfl _ rfl _ rfl _ rfl _ rfl _ rfl _ rfl _ rfl _ rfl _ rfl _ rfl _ rfl _ rfl _ ⟨p59, n59, c59, rfl, tx59, cp59⟩ _ rfl _ rfl _ rfl _ rfl _ rfl _ ⟨p65, n65, c65, rfl, tx65, cp65⟩ _ rfl _ rfl _ rfl _ rfl
    simp only [Act.put, List.setIfInBounds_toArray, List.set_cons_succ, List.set_cons_zero, List.filterMap_nil, finP]
    clear k0 k1 k2 j0 j1 j2 i6 i7
    go_wp2_with (fail)
    go_ret
    exact ⟨rfl, below_then HT3.out hB9⟩
end Go.Proofs.YtbfhmbadgbackaaGreat
