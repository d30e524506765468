/-
  The law PolySumExact.
-/
import Derived.Test.YtcamjoddaeefdaaTpM
import Derived.Test.YtcamjoddaeefdaaLTp
namespace Go.Proofs.Ytcamjoddaeefdaa
open Go.ChangeShapes Go.WideShapes Go.ChangeAt Go.RowKit
set_option linter.unusedVariables false
set_option linter.unusedSimpArgs false
set_option maxRecDepth 100000

attribute [local irreducible] Calls
theorem has8 {x : Int} (h : IntKind.has .i8 x) : -128 ≤ x ∧ x ≤ 127 := by
  unfold IntKind.has at h
  rw [show IntKind.i8.min = -128 by decide, show IntKind.i8.max = 127 by decide] at h
  exact h
theorem tmod3 (x : Int) : -2 ≤ x.tmod 3 ∧ x.tmod 3 ≤ 2 := by
  have h3 := Int.tmod_lt_of_pos x (b := 3) (by decide)
  have h4 := Int.tmod_lt_of_pos (-x) (b := 3) (by decide)
  rw [Int.neg_tmod] at h4
  omega
theorem valAt_bd {p : List Int} (hp : ∀ k, -2 ≤ p.getD k 0 ∧ p.getD k 0 ≤ 2) {t : Tm} (h : TV t ∧ Num t.1 ∧ degE t.2 ≤ 6) : -8796093022208 ≤ valAt p t ∧ valAt p t ≤ 8796093022208 := by
  unfold valAt
  have h1 := pm_bd (e := t.2) hp 6
  have h2 : (sm t.2 6 : Int) = degE t.2 := sm_six h.1.1
  have h3 := two_pos (12 - (degE t.2).toNat)
  have h4 := mul_bd h1 (b := 2 ^ (12 - (degE t.2).toNat)) (Q := 2 ^ (12 - (degE t.2).toNat)) ⟨by omega, Int.le_refl _⟩ (two_pos _) h3
  rw [← Int.pow_add] at h4
  have h5 := h.2.1
  unfold Num at h5
  have := big_bd (c := t.1) (by omega) h4 (by omega)
  rw [← Int.mul_assoc] at this
  exact this
theorem valS_bd {p : List Int} (hp : ∀ k, -2 ≤ p.getD k 0 ∧ p.getD k 0 ≤ 2) : ∀ {l : List Tm}, (∀ t ∈ l, TV t ∧ Num t.1 ∧ degE t.2 ≤ 6) → -(8796093022208 * (l.length : Int)) ≤ valS p l ∧ valS p l ≤ 8796093022208 * l.length
  | [], _ => by simp [valS]
  | t :: l, h => by
    have h1 := valAt_bd hp (h t (by simp))
    have h2 := valS_bd hp (l := l) fun t ht => h t (by simp [ht])
    rw [valS_cons, List.length_cons]
    push_cast
    omega
theorem neg_tv {l : List Tm} (h : ∀ t ∈ l, TV t ∧ Num t.1) : ∀ t ∈ negT l, TV t ∧ Small62 t := fun t ht => by
  obtain ⟨s, hs, rfl⟩ := List.mem_map.1 ht
  have a := h s hs
  have b := a.2
  unfold Num at b
  exact ⟨⟨a.1.1, by dsimp only; omega, by dsimp only; omega⟩, by unfold Small62; dsimp only; omega⟩
theorem neg_next {l : List Tm} {k : Nat} {x : Tm} (hx : l[k]? = some x) : ct (negT (l.take (k + 1))) = ct (negT (l.take k)) ++ encT (-x.1, x.2) := by
  unfold negT
  rw [List.take_add_one, hx, List.map_append, ct_append]
  simp [ct]
theorem sm62 {l : List Tm} (h : ∀ t ∈ l, TV t ∧ Num t.1) : ∀ t ∈ l, TV t ∧ Small62 t := fun t ht => ⟨(h t ht).1, by
  have := (h t ht).2
  unfold Num at this
  unfold Small62
  omega⟩
set_option maxHeartbeats 40000000 in
theorem sumexact (w : World) (a0A a0B : Value) (a0k a0n : Int) (a0la a0lb : List Tm) (h0A : Tx w a0A a0la ∧ ∀ t ∈ a0la, TV t) (h0B : Tx w a0B a0lb ∧ ∀ t ∈ a0lb, TV t) (h0k : -9223372036854775808 ≤ a0k ∧ a0k ≤ 9223372036854775807) (h0n : -128 ≤ a0n ∧ a0n ≤ 127) (x0 x1 x2 x3 x4 x5 : Int) (w1 : ∀ x ∈ [x0, x1, x2, x3, x4, x5], IntKind.has .i8 x) :
    Calls Try.prog 3 #[.agg #[a0A, a0B, .int .i64 a0k, .int .i8 a0n], .agg #[.int .i8 x0, .int .i8 x1, .int .i8 x2, .int .i8 x3, .int .i8 x4, .int .i8 x5]] w fun e w' => e = .returned (.bool true) ∧ Below w.heap.size w w' := by
  have HA := Lib.hid h0A
  have HB := Lib.hid h0B
  have HX := Lib.hid (fun x hx => has8 (w1 x hx))
  clear h0A h0B h0k h0n w1
  go_enter Try.func3, Try.ntmps3
  go_wp2_with (fail)
  generalize hW0 : World.alloc (World.alloc w _) _ = W0
  have hBW : Below w.heap.size w W0 := by subst hW0; exact (((Below.refl w.heap.size w).alloc (by go_size) _).alloc (by go_size) _)
  have Y0 : w.heap.size < W0.heap.size := by subst hW0; simp <;> omega
  have Y1 : w.heap.size + 1 < W0.heap.size := by subst hW0; simp <;> omega
  have F0_0 : ∀ g : Grown W0, g.w.cell? ⟨w.heap.size, 0, none⟩ = some a0A := fun g => (g.cell Y0).trans (by subst hW0; simp [go_sem])
  have F0_1 : ∀ g : Grown W0, g.w.cell? ⟨w.heap.size, 1, none⟩ = some a0B := fun g => (g.cell Y0).trans (by subst hW0; simp [go_sem])
  have F0_2 : ∀ g : Grown W0, g.w.cell? ⟨w.heap.size, 2, none⟩ = some (.int .i64 a0k) := fun g => (g.cell Y0).trans (by subst hW0; simp [go_sem])
  have F0_3 : ∀ g : Grown W0, g.w.cell? ⟨w.heap.size, 3, none⟩ = some (.int .i8 a0n) := fun g => (g.cell Y0).trans (by subst hW0; simp [go_sem])
  have F1_0 : ∀ g : Grown W0, g.w.cell? ⟨w.heap.size + 1, 0, none⟩ = some (.int .i8 x0) := fun g => (g.cell Y1).trans (by subst hW0; simp [go_sem])
  have F1_1 : ∀ g : Grown W0, g.w.cell? ⟨w.heap.size + 1, 1, none⟩ = some (.int .i8 x1) := fun g => (g.cell Y1).trans (by subst hW0; simp [go_sem])
  have F1_2 : ∀ g : Grown W0, g.w.cell? ⟨w.heap.size + 1, 2, none⟩ = some (.int .i8 x2) := fun g => (g.cell Y1).trans (by subst hW0; simp [go_sem])
  have F1_3 : ∀ g : Grown W0, g.w.cell? ⟨w.heap.size + 1, 3, none⟩ = some (.int .i8 x3) := fun g => (g.cell Y1).trans (by subst hW0; simp [go_sem])
  have F1_4 : ∀ g : Grown W0, g.w.cell? ⟨w.heap.size + 1, 4, none⟩ = some (.int .i8 x4) := fun g => (g.cell Y1).trans (by subst hW0; simp [go_sem])
  have F1_5 : ∀ g : Grown W0, g.w.cell? ⟨w.heap.size + 1, 5, none⟩ = some (.int .i8 x5) := fun g => (g.cell Y1).trans (by subst hW0; simp [go_sem])
  clear hW0
  refine (sanity5 _).mono ?_
  rintro e w1 ⟨rfl, hb1⟩
  have f0 := F0_0 ⟨w1, hb1⟩
  have f1 := F0_1 ⟨w1, hb1⟩
  have f2 := F0_2 ⟨w1, hb1⟩
  have f3 := F0_3 ⟨w1, hb1⟩
  dsimp only at f0 f1 f2 f3
  have hT1 := below_then hBW hb1
  clear F0_0 F0_1 F0_2 F0_3
  go_wp2_with (fail)
  refine (law5valid a0A a0B a0la a0lb a0k a0n w1 (HA.out.1.grow hT1) (HB.out.1.grow hT1) HA.out.2 HB.out.2).mono ?_
  rintro e w2 ⟨u, v, rfl, ⟨l, hl1, hl2, hl3⟩, ⟨m, hm1, hm2, hm3⟩, hb2⟩
  have hb12 := hb1.trans (hb2.mono hb1.size)
  have hT2 := below_then hT1 hb2
  have c0 := F1_0 ⟨w2, hb12⟩
  have c1 := F1_1 ⟨w2, hb12⟩
  have c2 := F1_2 ⟨w2, hb12⟩
  have c3 := F1_3 ⟨w2, hb12⟩
  have c4 := F1_4 ⟨w2, hb12⟩
  have c5 := F1_5 ⟨w2, hb12⟩
  dsimp only at c0 c1 c2 c3 c4 c5
  have HL := Lib.hid hl1
  have HM := Lib.hid hm1
  have CU := Lib.hid hl2.cap
  have CV := Lib.hid hm2.cap
  have VL := Lib.hid hl3.1
  have VM := Lib.hid hm3.1
  have nl := Lib.hid (fun t ht => (⟨hl3.2.2 t ht, vp_num hl3.1 t ht⟩ : TV t ∧ Num t.1))
  have nm := Lib.hid (fun t ht => (⟨hm3.2.2 t ht, vp_num hm3.1 t ht⟩ : TV t ∧ Num t.1))
  have q3 : l.length ≤ 9 := by have := hl3.2.1; omega
  have q4 : m.length ≤ 9 := by have := hm3.2.1; omega
  obtain ⟨pu, cu, rfl⟩ := hl1.cut
  clear hl1 hm1 hl2 hm2 hl3 hm3 f0 f1 f2 f3 hb1 hb2 Y0 Y1 HA HB hT1 hBW hb12 F1_0 F1_1 F1_2 F1_3 F1_4 F1_5
  have HH := Lib.hid (fun w => halves_ok x0 x1 x2 x3 x4 x5 w HX.out)
  go_wp2_with (fail)
  refine (HH.out _).mono ?_
  rintro e w3 ⟨rfl, hb3⟩
  clear c0 c1 c2 c3 c4 c5
  obtain ⟨at', hat⟩ : ∃ a, [x0.tmod 3, x1.tmod 3, x2.tmod 3, x3.tmod 3, x4.tmod 3, x5.tmod 3] = a := ⟨_, rfl⟩
  have hp : ∀ x ∈ at', -2 ≤ x ∧ x ≤ 2 := by
    intro x hx
    rw [← hat] at hx
    simp only [List.mem_cons, List.not_mem_nil, or_false] at hx
    rcases hx with rfl | rfl | rfl | rfl | rfl | rfl <;> exact tmod3 _
  have HAT := Lib.hid hat
  have HP := Lib.hid hp
  obtain ⟨p0, e0⟩ : ∃ p, x0.tmod 3 = p := ⟨_, rfl⟩
  obtain ⟨p1, e1⟩ : ∃ p, x1.tmod 3 = p := ⟨_, rfl⟩
  obtain ⟨p2, e2⟩ : ∃ p, x2.tmod 3 = p := ⟨_, rfl⟩
  obtain ⟨p3, e3⟩ : ∃ p, x3.tmod 3 = p := ⟨_, rfl⟩
  obtain ⟨p4, e4⟩ : ∃ p, x4.tmod 3 = p := ⟨_, rfl⟩
  obtain ⟨p5, e5⟩ : ∃ p, x5.tmod 3 = p := ⟨_, rfl⟩
  rw [e0, e1, e2, e3, e4, e5] at HAT ⊢
  have hN : ByN (w3.alloc (.cells #[.int .i64 p0, .int .i64 p1, .int .i64 p2, .int .i64 p3, .int .i64 p4, .int .i64 p5] 30)) w3.heap.size [p0, p1, p2, p3, p4, p5] := World.alloc_heap_new w3 _
  have hB3 : Below w2.heap.size w2 (w3.alloc (.cells #[.int .i64 p0, .int .i64 p1, .int .i64 p2, .int .i64 p3, .int .i64 p4, .int .i64 p5] 30)) := hb3.alloc hb3.size _
  have HL3 := Lib.hid (HL.out.grow hB3)
  have HM3 := Lib.hid (HM.out.grow hB3)
  have HT3 := Lib.hid (below_then hT2 hB3)
  have MT := Lib.hid (merge_tv nl.out nm.out)
  have AK := Lib.hid (fun w (h1 : Tx w (.slice pu l.length cu) l) (h2 : Tx w v m) => add_ok (.slice pu l.length cu) v l m w h1 h2 CU.out CV.out (sm62 nl.out) (sm62 nm.out) MT.out (by have := merge_len l m; omega) (by omega))
  have SE := Lib.hid (fun h => sum_some (l := l) (m := m) VL.out VM.out h)
  have SN := Lib.hid (fun h => trunc_none (l := mergeP l m) (D := 6) (m := ((0 : Int), (0 : Int))) h)
  obtain ⟨Z, hZ⟩ : ∃ Z, truncP (mergeP l m) 6 (0, 0) = Z := ⟨_, rfl⟩
  rw [hZ] at AK SE SN
  obtain ⟨Zl, za, zb⟩ := Z
  dsimp only at AK SE SN
  clear hat hp e0 e1 e2 e3 e4 e5 hb3 hB3 hT2 hZ HL HM HX HH
  go_wp2_with (fail)
  generalize hW3 : World.alloc w3 _ = W3 at *
  refine (AK.out _ HL3.out HM3.out).mono ?_
  rintro e w4 ⟨r, rfl, hr1, hr2, hb4⟩
  have c4 := ivc_new w4 za zb
  have hB4 : Below W3.heap.size W3 (w4.alloc (.cells #[.int .i64 za, .int .i64 zb] 33)) := hb4.alloc hb4.size _
  have HR := Lib.hid (hr1.grow ((Below.refl _ _).alloc (Nat.le_refl _) (.cells #[.int .i64 za, .int .i64 zb] 33)))
  have HL4 := Lib.hid (HL3.out.grow hB4)
  have HM4 := Lib.hid (HM3.out.grow hB4)
  have HT4 := Lib.hid (below_then HT3.out hB4)
  have HN4 := Lib.hid (hN.grow hB4)
  obtain ⟨pr, cr, rfl⟩ := hr1.cut
  clear hr1 hr2 hb4 hB4 hN HL3 HM3 HT3 AK hW3
  have y0 := c4.c0
  have y1 := c4.c1
  dsimp only at y0 y1
  by_cases hent : Ent za zb
  · have hz := SN.out hent
    obtain ⟨rfl, rfl⟩ := hent
    subst hz
    simp only [List.length_nil]
    go_wp2_with (fail)
    refine (r2ent_yes _).mono ?_
    rintro e w6 ⟨rfl, hb6⟩
    have hT6 := below_then HT4.out hb6
    clear hb6
    go_wp2_with (fail)
    go_ret
    exact ⟨rfl, hT6⟩
  · have HE0 := Lib.hid hent
    obtain ⟨hz1, hz2⟩ := SE.out hent
    simp only [Prod.mk.injEq] at hz1
    obtain ⟨rfl, rfl, rfl⟩ := hz1
    have VZ := Lib.hid hz2
    clear hent hz2 SN SE
    go_wp2_with (fail)
    generalize hW4 : World.alloc w4 _ = W4 at *
    refine (r2ent_no 0 0 _ HE0.out).mono ?_
    rintro e wb ⟨rfl, hb5⟩
    have HL5 := Lib.hid (HL4.out.grow hb5)
    have HR5 := Lib.hid (HR.out.grow hb5)
    have HM5 := Lib.hid (HM4.out.grow hb5)
    have HN5 := Lib.hid (HN4.out.grow hb5)
    have HC5 := Lib.hid (c4.grow hb5)
    have HT5 := Lib.hid (below_then HT4.out hb5)
    clear y0 y1 c4 hb5 HL4 HM4 HN4 HT4 HR hW4
    have hown0 := own_empty wb
    have hB0 : Below wb.heap.size wb (wb.alloc (.cells #[] 39)) := (Below.refl _ _).alloc (Nat.le_refl _) _
    obtain ⟨i0, hi, hz0, hz1, hz2⟩ := info_parts info_t
    have lm : l.length ≤ maxLen := by unfold maxLen; omega
    go_wp2_with (fail)
    go_loopw [11, 12] (fun u i wr => ∃ k : Nat, i = .int .i64 k ∧ k ≤ l.length ∧ Hid (wr.ownsRow wb.heap.size 39 7 u k (ct (negT (l.take k)))) ∧ Below wb.heap.size wb wr) (fun _ i _ => l.length - (intOf i).toNat)
    case atStart => exact ⟨0, rfl, Nat.zero_le _, Lib.hid (by simpa [negT, ct] using hown0), hB0⟩
    case round =>
      obtain ⟨k, rfl, hk, HO, hB⟩ := hrel
      by_cases hlt : k < l.length
      · have i1 : (k : Int) < l.length := by omega
        obtain ⟨x, hx⟩ : ∃ x, l[k]? = some x := ⟨_, List.getElem?_eq_getElem hlt⟩
        have tx := nl.out x (List.mem_of_getElem? hx)
        have hnext := neg_next hx
        obtain ⟨ka, a0, a1, a2, a3, a4, a5, rfl⟩ := six_at tx.1
        obtain ⟨b', o', hp, hb, rda⟩ := HL5.out.rd7 hx
        subst hp
        obtain ⟨fa0, fa1, fa2, fa3, fa4, fa5, fa6⟩ := rda ⟨wr, hB⟩
        dsimp only at fa0 fa1 fa2 fa3 fa4 fa5 fa6
        have hkn := tx.2
        unfold Num at hkn
        have W1 : IntKind.i64.wrap (-ka) = -ka := wrap_i64 (-ka) (by omega) (by omega)
        have hrow := HO.out
        have hsz := hB.size
        have HNX := Lib.hid hnext
        clear hx tx rda hnext hkn
        go_wp2_with (fail)
        go_region_law (refine step_append_own rfl (.tmp 44) (.tmp 57) 22 rfl wb.heap.size 39 i0 (.agg #[.int .i64 0, .int .u8 0, .int .u8 0, .int .u8 0, .int .u8 0, .int .u8 0, .int .u8 0]) 7 16 Try.underlying22 hi hz0 hz1 hz2 rfl (by decide) _ k _ (by simp [Act.eval, Act.put]) (own_keptT (hrow.alloc _) ((Below.refl _ _).drew)) ⟨wr.heap.size, 0, none⟩ 1 1 [.int .i64 (-ka), .int .u8 a0, .int .u8 a1, .int .u8 a2, .int .u8 a3, .int .u8 a4, .int .u8 a5] (by simp [Act.eval, Act.put]) rfl (new_t _ _ _ _ _ _ _ _) (one_t _ _ _ _ _ _ _) (by unfold maxLen; omega) (by omega) (by first | omega | (simp; omega)) ?_; intro v' w6 hown' hgrow)
        all_goals
          have hBn : Below wb.heap.size wb w6 := Below.grown ((hB.alloc (by omega) _).drew) hgrow (by first | omega | (simp; omega)) (fun k hk => (hrow.lt k hk).1)
          have hrn := Lib.hid hown'
          rw [show ct (negT (l.take k)) ++ [.int .i64 (-ka), .int .u8 a0, .int .u8 a1, .int .u8 a2, .int .u8 a3, .int .u8 a4, .int .u8 a5] = ct (negT (l.take (k + 1))) from HNX.out.symm] at hrn
          clear hown' hgrow hrow
          go_wp2_with (fail)
          go_roundw
          case rel => first | exact ⟨k + 1, by go_num, by omega, hrn, hBn⟩ | exact ⟨⟨k + 1, by go_num, by omega, hrn, hBn⟩, rfl⟩ | ((repeat apply Exists.intro); exact ⟨⟨k + 1, rfl, by omega, hrn, hBn⟩, rfl⟩)
          case measure => first | (show l.length - (k + 1) < l.length - k; omega) | (simp [intOf]; omega)
      · obtain rfl : k = l.length := by omega
        have i1 : ¬ (l.length : Int) < l.length := by omega
        have hro := HO.out
        rw [List.take_length] at hro
        have hnl : (negT l).length = l.length := by simp [negT]
        have hntv := neg_tv nl.out
        have h6 : ∀ t ∈ negT l, t.2.length = 6 := fun t ht => (hntv t ht).1.1.1
        have htx := Tx.own (show wr.ownsRow wb.heap.size 39 7 u11 (negT l).length (ct (negT l)) by rw [hnl]; exact hro) (by rw [hnl]; exact lm) h6
        have hcap := capok_own hro
        have HX9 := Lib.hid htx
        have HC9 := Lib.hid hcap
        have HL9 := Lib.hid (HL5.out.grow hB)
        have HM9 := Lib.hid (HM5.out.grow hB)
        have HR9 := Lib.hid (HR5.out.grow hB)
        have HN9 := Lib.hid (HN5.out.grow hB)
        have HI9 := Lib.hid (HC5.out.grow hB)
        have HT9 := Lib.hid (below_then HT5.out hB)
        have AN := Lib.hid (fun w h1 h2 => add_ok (.slice pu l.length cu) u11 l (negT l) w h1 h2 CU.out hcap (sm62 nl.out) hntv (by rw [merge_neg]; simp) (by rw [merge_neg]; simp) (by rw [hnl]; omega))
        rw [sum_neg] at AN
        clear hro hnl hntv h6 htx hcap HO hB HL5 HM5 HR5 HN5 HC5 HT5 lm hown0 hB0
        go_wp2_with (fail)
        refine (AN.out _ HL9.out HX9.out).mono ?_
        rintro e w5 ⟨s, rfl, hs1, hs2, hb6⟩
        obtain ⟨ps, cs, rfl⟩ := hs1.cut
        have c5 := ivc_new w5 0 0
        have hB6 : Below wr.heap.size wr (w5.alloc (.cells #[.int .i64 0, .int .i64 0] 33)) := hb6.alloc hb6.size _
        have HLa := Lib.hid (HL9.out.grow hB6)
        have HMa := Lib.hid (HM9.out.grow hB6)
        have HRa := Lib.hid (HR9.out.grow hB6)
        have HNa := Lib.hid (HN9.out.grow hB6)
        have HIa := Lib.hid (HI9.out.grow hB6)
        have HTa := Lib.hid (below_then HT9.out hB6)
        have HJa := Lib.hid c5
        clear hs1 hs2 hb6 hB6 c5 HL9 HM9 HR9 HN9 HI9 HT9 HX9 HC9
        go_wp2_with (fail)
        generalize hW5 : World.alloc w5 _ = W5 at *
        obtain ⟨g0, hg0⟩ : ∃ g : Grown W5, W5 = g.w := ⟨⟨W5, Below.refl _ _⟩, rfl⟩
        have d0 := fun g : Grown W5 => (HIa.out.grow g.h).c0
        have d1 := fun g : Grown W5 => (HIa.out.grow g.h).c1
        have d2 := fun g : Grown W5 => (HJa.out.grow g.h).c0
        have d3 := fun g : Grown W5 => (HJa.out.grow g.h).c1
        dsimp only at d0 d1 d2 d3
        have n0 := fun g : Grown W5 => (HNa.out.grow g.h).cell (k := 0) rfl
        have n1 := fun g : Grown W5 => (HNa.out.grow g.h).cell (k := 1) rfl
        have n2 := fun g : Grown W5 => (HNa.out.grow g.h).cell (k := 2) rfl
        have n3 := fun g : Grown W5 => (HNa.out.grow g.h).cell (k := 3) rfl
        have n4 := fun g : Grown W5 => (HNa.out.grow g.h).cell (k := 4) rfl
        have n5 := fun g : Grown W5 => (HNa.out.grow g.h).cell (k := 5) rfl
        have ql : ∀ t ∈ l, TV t ∧ Num t.1 ∧ degE t.2 ≤ 6 := fun t ht => ⟨(nl.out t ht).1, (nl.out t ht).2, ((vp_parts VL.out).2 t ht).2⟩
        have qm : ∀ t ∈ m, TV t ∧ Num t.1 ∧ degE t.2 ≤ 6 := fun t ht => ⟨(nm.out t ht).1, (nm.out t ht).2, ((vp_parts VM.out).2 t ht).2⟩
        have qz : ∀ t ∈ mergeP l m, TV t ∧ Num t.1 ∧ degE t.2 ≤ 6 := fun t ht => ⟨MT.out t ht, vp_num VZ.out t ht, ((vp_parts VZ.out).2 t ht).2⟩
        have bl := valS_bd (getD_bd HP.out) ql
        have bm := valS_bd (getD_bd HP.out) qm
        have K1 := Lib.hid (fun g : Grown W5 => equals_ok 0 0 0 0 g.w)
        have K2 := Lib.hid (fun g : Grown W5 => value_ok (.slice pr (mergeP l m).length cr) (mergeP l m) p0 p1 p2 p3 p4 p5 g.w (HRa.out.grow g.h) qz at' HAT.out HP.out (by have := VZ.out.2.1; omega))
        have K3 := Lib.hid (fun g : Grown W5 => value_ok (.slice pu l.length cu) l p0 p1 p2 p3 p4 p5 g.w (HLa.out.grow g.h) ql at' HAT.out HP.out (by omega))
        have K4 := Lib.hid (fun g : Grown W5 => value_ok v m p0 p1 p2 p3 p4 p5 g.w (HMa.out.grow g.h) qm at' HAT.out HP.out (by omega))
        have K5 := Lib.hid (fun g : Grown W5 => pvalid_ok (.slice pr (mergeP l m).length cr) (mergeP l m) true g.w (HRa.out.grow g.h) MT.out ⟨fun _ => VZ.out, fun _ => rfl⟩)
        rw [merge_val] at K2
        rw [show ((0 : Int) == 0 && (0 : Int) == 0) = true by decide] at K1
        obtain ⟨VA, hVA⟩ : ∃ x, valS at' l = x := ⟨_, rfl⟩
        obtain ⟨VB, hVB⟩ : ∃ x, valS at' m = x := ⟨_, rfl⟩
        rw [hVA, hVB] at K2
        rw [hVA] at K3 bl
        rw [hVB] at K4 bm
        have Wv : IntKind.i64.wrap (VA + VB) = VA + VB := wrap_i64 _ (by omega) (by omega)
        clear hVA hVB bl bm ql qm qz hW5
        rw [hg0]
        go_wp2_with (fail)
        refine region_quiet' g0 (by kernel_rfl) (by kernel_rfl) ?_
        repeat (go_big_quiet_step (first | exact qc (K1.out _) | exact qc (K2.out _) | exact qc (K3.out _) | exact qc (K4.out _) | exact qc (K5.out _)))
        refine wpQuiet_nil ?_
        rintro _ ⟨g5, rfl⟩
        go_wp2_with (fail)
        go_ret
        exact ⟨rfl, below_then HTa.out g5.h⟩
end Go.Proofs.Ytcamjoddaeefdaa
