/-
  The law PolyTruncatedProduct.
-/
import Derived.Test.YtcamjoddaeefdaaTpM
import Derived.Test.YtcamjoddaeefdaaSan5
namespace Go.Proofs.Ytcamjoddaeefdaa
open Go.ChangeShapes Go.WideShapes Go.ChangeAt Go.RowKit
set_option linter.unusedVariables false
set_option linter.unusedSimpArgs false
set_option maxRecDepth 100000

attribute [local irreducible] Calls
theorem ivc_new (W : World) (x y : Int) : IvC (W.alloc (.cells #[.int .i64 x, .int .i64 y] 33)) W.heap.size (x, y) := World.alloc_heap_new W _
theorem kept_tv {l : List Tm} {D : Int} (h : ∀ t ∈ l, TV t) : ∀ t ∈ keptP D l, TV t := fun t ht => h t (List.mem_filter.1 ht).1
theorem truncP_tv {l : List Tm} {D : Int} {m : Int × Int} (h : ∀ t ∈ l, TV t) : ∀ t ∈ (truncP l D m).1, TV t := by
  unfold truncP
  split
  · simp
  · split
    · simp
    · exact kept_tv h
theorem truncP_len (l : List Tm) (D : Int) (m : Int × Int) : (truncP l D m).1.length ≤ 100 := by
  unfold truncP
  split
  · simp
  · split
    · simp
    · rename_i h
      dsimp only
      omega
def Bd31 (x : Int) : Prop := -2147483648 ≤ x ∧ x ≤ 2147483648
theorem newR_bd (m : Int × Int) : Bd31 (newR m).1 ∧ Bd31 (newR m).2 := by
  unfold newR mkLo mkHi Bd31
  dsimp only
  by_cases h : Num m.1 ∧ Num m.2
  · rw [if_pos h, if_pos h]
    unfold Num at h
    omega
  · rw [if_neg h, if_neg h]
    decide
theorem truncP_bd (l : List Tm) (D : Int) (m : Int × Int) : Bd31 (truncP l D m).2.1 ∧ Bd31 (truncP l D m).2.2 := by
  unfold truncP
  split
  · unfold Bd31; decide
  · split
    · unfold Bd31; decide
    · exact newR_bd _
set_option maxHeartbeats 40000000 in
theorem truncp (w : World) (a0A a0B : Value) (a0k a0n : Int) (a0la a0lb : List Tm) (h0A : Tx w a0A a0la ∧ ∀ t ∈ a0la, TV t) (h0B : Tx w a0B a0lb ∧ ∀ t ∈ a0lb, TV t) (h0k : -9223372036854775808 ≤ a0k ∧ a0k ≤ 9223372036854775807) (h0n : -128 ≤ a0n ∧ a0n ≤ 127) (a1 : Int) (w1 : (Lit.int .u8 a1).wf = true) (a2 : Int) (w2 : (Lit.int .u8 a2).wf = true) :
    Calls Try.prog 9 #[.agg #[a0A, a0B, .int .i64 a0k, .int .i8 a0n], .int .u8 a1, .int .u8 a2] w fun e w' => e = .returned (.bool true) ∧ Below w.heap.size w w' := by
  have b1 := bounds_u8 w1
  have b2 := bounds_u8 w2
  have T1 : a1.tmod 8 = a1 % 8 := Int.tmod_eq_emod_of_nonneg b1.1
  have T2 : a2.tmod 8 = a2 % 8 := Int.tmod_eq_emod_of_nonneg b2.1
  have W1 : wrap64 a1 = a1 := by first | exact wrap_i64 a1 (by omega) (by omega) | (unfold wrap64; omega)
  have W2 : wrap64 a2 = a2 := by first | exact wrap_i64 a2 (by omega) (by omega) | (unfold wrap64; omega)
  obtain ⟨x, hx⟩ : ∃ x, a1 % 8 = x := ⟨_, rfl⟩
  obtain ⟨y, hy⟩ : ∃ y, a2 % 8 = y := ⟨_, rfl⟩
  have hx0 : 0 ≤ x := by omega
  have hy0 : 0 ≤ y := by omega
  rw [hx] at T1
  rw [hy] at T2
  have HA := Lib.hid h0A
  have HB := Lib.hid h0B
  clear h0A h0B h0k h0n b1 b2 hx hy w1 w2
  go_enter Try.func9, Try.ntmps9
  go_wp2_with (fail)
  generalize hW0 : World.alloc w _ = W0
  have hBW : Below w.heap.size w W0 := by subst hW0; exact ((Below.refl w.heap.size w).alloc (by go_size) _)
  have Y0 : w.heap.size < W0.heap.size := by subst hW0; simp <;> omega
  have F0_0 : ∀ g : Grown W0, g.w.cell? ⟨w.heap.size, 0, none⟩ = some a0A := fun g => (g.cell Y0).trans (by subst hW0; simp [go_sem])
  have F0_1 : ∀ g : Grown W0, g.w.cell? ⟨w.heap.size, 1, none⟩ = some a0B := fun g => (g.cell Y0).trans (by subst hW0; simp [go_sem])
  have F0_2 : ∀ g : Grown W0, g.w.cell? ⟨w.heap.size, 2, none⟩ = some (.int .i64 a0k) := fun g => (g.cell Y0).trans (by subst hW0; simp [go_sem])
  have F0_3 : ∀ g : Grown W0, g.w.cell? ⟨w.heap.size, 3, none⟩ = some (.int .i8 a0n) := fun g => (g.cell Y0).trans (by subst hW0; simp [go_sem])
  clear hW0
  refine (sanity5 _).mono ?_
  rintro e w1 ⟨rfl, hb1⟩
  have f0 := F0_0 ⟨w1, hb1⟩
  have f1 := F0_1 ⟨w1, hb1⟩
  have f2 := F0_2 ⟨w1, hb1⟩
  have f3 := F0_3 ⟨w1, hb1⟩
  dsimp only at f0 f1 f2 f3
  have hT1 := below_then hBW hb1
  clear F0_0 F0_1 F0_2 F0_3
  go_wp2_with (fail)
  refine (law5small a0A a0B a0la a0lb a0k a0n w1 (HA.out.1.grow hT1) (HB.out.1.grow hT1) HA.out.2 HB.out.2).mono ?_
  rintro e w2 ⟨u, v, rfl, ⟨l, hl1, hl2, hl3⟩, ⟨m, hm1, hm2, hm3⟩, hb2⟩
  have hT2 := below_then hT1 hb2
  have HL := Lib.hid hl1
  have HM := Lib.hid hm1
  have nl := Lib.hid (fun t ht => (⟨hl3.2.2 t ht, vp_num hl3.1 t ht⟩ : TV t ∧ Num t.1))
  have nm := Lib.hid (fun t ht => (⟨hm3.2.2 t ht, vp_num hm3.1 t ht⟩ : TV t ∧ Num t.1))
  have hlen : l.length * m.length ≤ 10000 := by
    have q1 := hl3.2.1
    have q2 := hm3.2.1
    have q3 : l.length ≤ 6 := by omega
    have q4 : m.length ≤ 6 := by omega
    exact Nat.le_trans (Nat.mul_le_mul q3 q4) (by decide)
  clear hl1 hm1 hl2 hm2 hl3 hm3 f0 f1 f2 f3 hb1 hb2 Y0 HA HB hT1 hBW
  have l0 : 0 ≤ min x y := by omega
  have l1 : min x y ≤ max x y := by omega
  have MH := Lib.hid (fun w (h1 : Tx w u l) (h2 : Tx w v m) => mul_ok u v l m (max x y) w h1 h2 nl.out nm.out hlen)
  have ML := Lib.hid (fun w (h1 : Tx w u l) (h2 : Tx w v m) => mul_ok u v l m (min x y) w h1 h2 nl.out nm.out hlen)
  have TW := Lib.hid (twice (l := l) (m := m) (L := (min x y)) (H := (max x y)) l0 l1)
  have hpv := mulP_tv nl.out nm.out hlen
  have VR := Lib.hid (truncP_tv (D := min (max x y) 6) (m := missM (pairsT l m)) hpv)
  have VS := Lib.hid (truncP_tv (D := min (min x y) 6) (m := missM (pairsT l m)) hpv)
  have LR := Lib.hid (truncP_len (mulP l m) (min (max x y) 6) (missM (pairsT l m)))
  have BR := Lib.hid (truncP_bd (mulP l m) (min (max x y) 6) (missM (pairsT l m)))
  obtain ⟨R, hR⟩ : ∃ R, mulR l m (max x y) = R := ⟨_, rfl⟩
  obtain ⟨S, hS⟩ : ∃ S, mulR l m (min x y) = S := ⟨_, rfl⟩
  have hR' : truncP (mulP l m) (min (max x y) 6) (missM (pairsT l m)) = R := hR
  have hS' : truncP (mulP l m) (min (min x y) 6) (missM (pairsT l m)) = S := hS
  rw [hR'] at VR LR BR
  rw [hS'] at VS
  rw [hR] at MH TW
  rw [hS] at ML TW
  have TK := Lib.hid (fun w r (h1 : Tx w r R.1) => truncate_ok r R.1 (min x y) w h1 VR.out (Nat.le_trans LR.out (by decide)))
  have VT := Lib.hid (truncP_tv (D := (min x y)) (m := ((0 : Int), (0 : Int))) VR.out)
  have BT := Lib.hid (truncP_bd R.1 (min x y) (0, 0))
  obtain ⟨T, hT⟩ : ∃ T, truncP R.1 (min x y) (0, 0) = T := ⟨_, rfl⟩
  rw [hT] at TK TW VT BT
  obtain ⟨Rl, ra, rb⟩ := R
  obtain ⟨Sl, sa, sb⟩ := S
  obtain ⟨Tl, ta, tb⟩ := T
  dsimp only at TK TW VT VS VR MH ML BT BR
  clear hT hR hS hR' hS' hpv LR
  go_wp2_with (fail)
  refine (MH.out _ HL.out HM.out).mono ?_
  rintro e w3 ⟨r, rfl, hr1, hr2, hb3⟩
  have c3 := ivc_new w3 ra rb
  have hB3 : Below w2.heap.size w2 (w3.alloc (.cells #[.int .i64 ra, .int .i64 rb] 33)) := hb3.alloc hb3.size _
  have HR := Lib.hid (hr1.grow ((Below.refl _ _).alloc (Nat.le_refl _) (.cells #[.int .i64 ra, .int .i64 rb] 33)))
  have HT3 := Lib.hid (below_then hT2 hB3)
  have HL3 := Lib.hid (HL.out.grow hB3)
  have HM3 := Lib.hid (HM.out.grow hB3)
  clear hr1 hr2 hb3 hB3
  go_wp2_with (fail)
  generalize hW3 : World.alloc w3 _ = W3 at *
  refine (ML.out _ HL3.out HM3.out).mono ?_
  rintro e w4 ⟨s, rfl, hs1, hs2, hb4⟩
  have c4 := ivc_new w4 sa sb
  have hB4 : Below W3.heap.size W3 (w4.alloc (.cells #[.int .i64 sa, .int .i64 sb] 33)) := hb4.alloc hb4.size _
  have HS := Lib.hid (hs1.grow ((Below.refl _ _).alloc (Nat.le_refl _) (.cells #[.int .i64 sa, .int .i64 sb] 33)))
  have HT4 := Lib.hid (below_then HT3.out hB4)
  have HR4 := Lib.hid (HR.out.grow hB4)
  have d4 := c3.grow hB4
  clear hs1 hs2 hb4 hB4 c3 hW3 HL3 HM3 HL HM HR HT3
  go_wp2_with (fail)
  generalize hW4 : World.alloc w4 _ = W4 at *
  refine (TK.out _ _ HR4.out).mono ?_
  rintro e w5 ⟨t, rfl, ht1, ht2, hb5⟩
  have c5 := ivc_new w5 ta tb
  have hB5 : Below W4.heap.size W4 (w5.alloc (.cells #[.int .i64 ta, .int .i64 tb] 33)) := hb5.alloc hb5.size _
  have HTx := Lib.hid (ht1.grow ((Below.refl _ _).alloc (Nat.le_refl _) (.cells #[.int .i64 ta, .int .i64 tb] 33)))
  have HT5 := Lib.hid (below_then HT4.out hB5)
  have HS5 := Lib.hid (HS.out.grow hB5)
  have d5 := d4.grow hB5
  have e5 := c4.grow hB5
  clear ht1 ht2 hb5 hB5 d4 c4 hW4 HS HT4 HR4
  have x0 := d5.c0
  have x1 := d5.c1
  have y0 := e5.c0
  have y1 := e5.c1
  dsimp only at x0 x1 y0 y1
  by_cases hr : Ent ra rb
  · obtain ⟨rfl, rfl⟩ := hr
    have q0 := HT5.out
    go_wp2_with (fail)
    refine (r2ent_yes _).mono ?_
    rintro e w6 ⟨rfl, hb6⟩
    have hT6 := below_then q0 hb6
    clear q0 hb6
    go_wp2_with (fail)
    go_ret
    exact ⟨rfl, hT6⟩
  · have HR0 := Lib.hid hr
    clear hr
    go_wp2_with (fail)
    generalize hW5 : World.alloc w5 _ = W5 at *
    refine (r2ent_no ra rb _ HR0.out).mono ?_
    rintro e w6 ⟨rfl, hb6⟩
    have z0 := (e5.grow hb6).c0
    have z1 := (e5.grow hb6).c1
    dsimp only at z0 z1
    by_cases hs : Ent sa sb
    · obtain ⟨rfl, rfl⟩ := hs
      have hT6 := below_then HT5.out hb6
      clear hb6
      go_wp2_with (fail)
      refine (r2ent_yes _).mono ?_
      rintro e w7 ⟨rfl, hb7⟩
      have hT7 := below_then hT6 hb7
      go_wp2_with (fail)
      go_ret
      exact ⟨rfl, hT7⟩
    · have HS0 := Lib.hid hs
      clear hs
      go_wp2_with (fail)
      refine (r2ent_no sa sb _ HS0.out).mono ?_
      rintro e w7 ⟨rfl, hb7⟩
      have tw := TW.out HR0.out HS0.out
      obtain ⟨t1, t2, t3⟩ := tw
      have hb57 := hb6.trans (hb7.mono hb6.size)
      have hT7 := Lib.hid (below_then HT5.out hb57)
      have D7 := Lib.hid (d5.grow hb57)
      have E7 := Lib.hid (e5.grow hb57)
      have C7 := Lib.hid (c5.grow hb57)
      have HS7 := Lib.hid (HS5.out.grow hb57)
      have HT7 := Lib.hid (HTx.out.grow hb57)
      clear z0 z1 x0 x1 y0 y1 hb6 hb7 hb57 d5 e5 c5
      obtain ⟨g0, hg0⟩ : ∃ g : Grown w7, w7 = g.w := ⟨⟨w7, Below.refl _ _⟩, rfl⟩
      have x0 := fun g : Grown w7 => (D7.out.grow g.h).c0
      have x1 := fun g : Grown w7 => (D7.out.grow g.h).c1
      have y0 := fun g : Grown w7 => (E7.out.grow g.h).c0
      have y1 := fun g : Grown w7 => (E7.out.grow g.h).c1
      have z0 := fun g : Grown w7 => (C7.out.grow g.h).c0
      have z1 := fun g : Grown w7 => (C7.out.grow g.h).c1
      dsimp only at x0 x1 y0 y1 z0 z1
      have K1 := Lib.hid (fun g : Grown w7 => r5same s t Sl Tl g.w (HS7.out.grow g.h) (HT7.out.grow g.h) VS.out VT.out)
      rw [show decide (Sl = Tl) = true by rw [t1]; simp] at K1
      have br := BR.out
      have bt := BT.out
      unfold Bd31 at br bt
      have K2 := Lib.hid (fun g : Grown w7 => r2add ra rb ta tb g.w br.1.1 br.1.2 br.2.1 br.2.2 bt.1.1 bt.1.2 bt.2.1 bt.2.2)
      rw [← t2, ← t3] at K2
      have K3 := Lib.hid (fun g : Grown w7 => r2same_0 sa sb sa sb g.w (by simp) (by simp))
      clear br bt t1 t2 t3
      rw [hg0]
      go_wp2_with (fail)
      refine region_quiet' g0 (by kernel_rfl) (by kernel_rfl) ?_
      repeat (go_big_quiet_step (first | exact qc (K1.out _) | exact qc (K2.out _) | exact qc (K3.out _)))
      refine wpQuiet_nil ?_
      rintro _ ⟨g5, rfl⟩
      go_wp2_with (fail)
      go_ret
      exact ⟨rfl, below_then hT7.out g5.h⟩
end Go.Proofs.Ytcamjoddaeefdaa
