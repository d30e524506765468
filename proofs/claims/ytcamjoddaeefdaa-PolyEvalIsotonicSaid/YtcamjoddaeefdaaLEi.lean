/-
  The law PolyEvalIsotonic.
-/
import Derived.Test.YtcamjoddaeefdaaEvM
import Derived.Test.YtcamjoddaeefdaaSan5
import Derived.Test.YtcamjoddaeefdaaR1
import Derived.Maps.AppendAt
namespace Go.Proofs.Ytcamjoddaeefdaa
open Go.ChangeShapes Go.WideShapes Go.ChangeAt Go.RowKit
set_option linter.unusedVariables false
set_option linter.unusedSimpArgs false
set_option maxRecDepth 100000
attribute [local go_sem] Oper.semAt_some

/-- The cells of a slice of intervals. -/
def cz : List (Int × Int) → List Value
  | [] => []
  | p :: l => .int .i64 p.1 :: .int .i64 p.2 :: cz l
theorem cz_app : ∀ (l m : List (Int × Int)), cz (l ++ m) = cz l ++ cz m
  | [], _ => rfl
  | p :: l, m => by simp [cz, cz_app l m]
theorem cz_len : ∀ (l : List (Int × Int)), (cz l).length = l.length * 2
  | [] => rfl
  | p :: l => by simp [cz, cz_len l]; omega
theorem cz_get : ∀ (l : List (Int × Int)) (k : Nat) (x : Int × Int), l[k]? = some x → (cz l)[k * 2]? = some (.int .i64 x.1) ∧ (cz l)[k * 2 + 1]? = some (.int .i64 x.2)
  | [], k, x, h => by simp at h
  | p :: l, 0, x, h => by simp at h; subst h; simp [cz]
  | p :: l, k + 1, x, h => by
    have := cz_get l k x (by simpa using h)
    rw [show (k + 1) * 2 = k * 2 + 1 + 1 by omega]
    simpa [cz] using this
/-- A row of its own that holds intervals is a box. -/
theorem Bx.own {W : World} {B : Nat} {v : Value} {l : List (Int × Int)} (h : W.ownsRow B 33 2 v l.length (cz l)) (hl : l.length ≤ maxLen) : Bx W v l := by
  rcases h.2 with ⟨rfl, h0⟩ | ⟨g, cap, cur, rfl, hb, hg, hrest⟩
  · have : l = [] := List.length_eq_zero_iff.1 h0
    subst this
    exact Bx.nil
  · refine ⟨hl, _, cap, rfl, fun k x hx => ⟨g, 0, rfl, (Array.getElem?_eq_some_iff.1 hg).1, ?_, ?_⟩⟩
    · have hk := (List.getElem?_eq_some_iff.1 hx).1
      rw [Nat.zero_add, h.cellAt (k * 2) (by omega)]
      exact (cz_get l k x hx).1
    · have hk := (List.getElem?_eq_some_iff.1 hx).1
      rw [Nat.zero_add, h.cellAt (k * 2 + 1) (by omega)]
      exact (cz_get l k x hx).2
theorem info_iv : (Try.prog.info? 33).map (fun i => (i.zero, i.size, i.bytes)) = some (some (.agg #[.int .i64 0, .int .i64 0]), 2, 16) := by kernel_rfl
theorem two_new (w : World) (x y : Value) (t : TypeId) : ∀ j u, [x, y][j]? = some u → (w.alloc (.cells #[x, y] t)).cell? ((⟨w.heap.size, 0, none⟩ : Addr).add j) = some u := by
  intro j u hj
  match j, hj with
  | 0, hj => simp at hj; subst hj; simp [Addr.add]
  | 1, hj => simp at hj; subst hj; simp [Addr.add]
theorem two_one (x y : Int) : ∀ u ∈ [Value.int .i64 x, Value.int .i64 y], u.oneCell' = true := by
  intro u hu
  simp at hu
  rcases hu with rfl | rfl <;> rfl
theorem own_emptyI {B : Nat} (W : World) (h : B ≤ W.heap.size) : (W.alloc (.cells #[] 33)).ownsRow B 33 2 (.slice (some ⟨W.heap.size, 0, none⟩) 0 0) 0 [] :=
  ⟨rfl, .inr ⟨W.heap.size, 0, #[], rfl, h, World.alloc_heap_new W _, Nat.le_refl _, Nat.zero_le _, rfl, rfl⟩⟩
theorem sm_bd (x y : Int) : -16777216 < min (x.tmod 16777216) (y.tmod 16777216) ∧ min (x.tmod 16777216) (y.tmod 16777216) ≤ max (x.tmod 16777216) (y.tmod 16777216) ∧ max (x.tmod 16777216) (y.tmod 16777216) < 16777216 := by
  have b : ∀ z : Int, -16777216 < z.tmod 16777216 ∧ z.tmod 16777216 < 16777216 := fun z => by
    have h3 := Int.tmod_lt_of_pos z (b := 16777216) (by decide)
    have h4 := Int.tmod_lt_of_pos (-z) (b := 16777216) (by decide)
    rw [Int.neg_tmod] at h4
    omega
  have := b x
  have := b y
  omega
theorem mk_out {x y q r : Int} (h1 : -2147483648 < x) (h2 : y < 2147483648) (h3 : x ≤ q) (h4 : r ≤ y) : mkLo x y ≤ q ∧ r ≤ mkHi x y := by
  unfold mkLo mkHi
  by_cases h : Num x ∧ Num y
  · rw [if_pos h, if_pos h]; omega
  · rw [if_neg h, if_neg h]
    unfold Num at h
    omega
theorem sbl3 {p0 p1 p2 u0 u1 u2 : Int × Int} (h0 : Sb2 p0 u0) (h1 : Sb2 p1 u1) (h2 : Sb2 p2 u2) : SbL [p0, p1, p2] [u0, u1, u2] := fun i => by
  match i with
  | 0 => exact h0
  | 1 => exact h1
  | 2 => exact h2
  | i + 3 => exact ⟨Int.le_refl _, Int.le_refl _⟩
set_option maxHeartbeats 40000000 in
theorem evaliso (w : World) (a0A a0B : Value) (a0k a0n : Int) (a0la a0lb : List Tm) (h0A : Tx w a0A a0la ∧ ∀ t ∈ a0la, TV t) (h0B : Tx w a0B a0lb ∧ ∀ t ∈ a0lb, TV t) (h0k : -9223372036854775808 ≤ a0k ∧ a0k ≤ 9223372036854775807) (h0n : -128 ≤ a0n ∧ a0n ≤ 127) (x0 x1 x2 x3 x4 x5 : Int) (w1 : ∀ x ∈ [x0, x1, x2, x3, x4, x5], IntKind.has .i64 x) (a2 : Int) (w2 : (Lit.int .u16 a2).wf = true) :
    Calls Try.prog 7 #[.agg #[a0A, a0B, .int .i64 a0k, .int .i8 a0n], .agg #[.int .i64 x0, .int .i64 x1, .int .i64 x2, .int .i64 x3, .int .i64 x4, .int .i64 x5], .int .u16 a2] w fun e w' => e = .returned (.bool true) ∧ Below w.heap.size w w' := by
  have hx : ∀ x ∈ [x0, x1, x2, x3, x4, x5], -9223372036854775808 ≤ x ∧ x ≤ 9223372036854775807 := fun x hx => by
    have := w1 x hx
    unfold IntKind.has at this
    rw [show IntKind.i64.min = -9223372036854775808 by decide, show IntKind.i64.max = 9223372036854775807 by decide] at this
    exact this
  have b2 := bounds_u16 w2
  have b20 : 0 ≤ a2 := b2.1
  have b21 : a2 ≤ 65535 := by have := b2.2; omega
  have T2 : a2.tdiv 2 = a2 / 2 := Int.tdiv_eq_ediv_of_nonneg b20
  have W2 : wrap64 a2 = a2 := by first | exact wrap_i64 a2 (by omega) (by omega) | (unfold wrap64; omega)
  obtain ⟨h2, hh2⟩ : ∃ h, a2 / 2 = h := ⟨_, rfl⟩
  have hh0 : 0 ≤ h2 := by omega
  have hh1 : h2 ≤ 65535 := by omega
  rw [hh2] at T2
  clear hh2 w1 w2 b2
  obtain ⟨q0, r0, S0, hq0⟩ : ∃ q r, (∀ w, Calls Try.prog 28 #[.agg #[.int .i64 x0, .int .i64 x1]] w fun e w' => e = .returned (.agg #[.int .i64 q, .int .i64 r]) ∧ Below w.heap.size w w') ∧ -16777216 < q ∧ q ≤ r ∧ r < 16777216 := ⟨_, _, fun w => r2small x0 x1 w (hx x0 (by simp)).1 (hx x0 (by simp)).2 (hx x1 (by simp)).1 (hx x1 (by simp)).2, sm_bd x0 x1⟩
  obtain ⟨s0, t0, N0, hn0⟩ : ∃ s t, (∀ w, Calls Try.prog 29 #[.int .i64 (q0 - a2), .int .i64 (r0 + h2)] w fun e w' => e = .returned (.agg #[.int .i64 s, .int .i64 t]) ∧ Below w.heap.size w w') ∧ VI s t ∧ s ≤ q0 ∧ r0 ≤ t := ⟨_, _, fun w => r2new (q0 - a2) (r0 + h2) w, mk_vi (by omega), mk_out (by omega) (by omega) (by omega) (by omega)⟩
  have HS0 := Lib.hid S0
  have HN0 := Lib.hid N0
  have WA0 : IntKind.i64.wrap (q0 - a2) = q0 - a2 := wrap_i64 _ (by omega) (by omega)
  have WB0 : IntKind.i64.wrap (r0 + h2) = r0 + h2 := wrap_i64 _ (by omega) (by omega)
  obtain ⟨q1, r1, S1, hq1⟩ : ∃ q r, (∀ w, Calls Try.prog 28 #[.agg #[.int .i64 x2, .int .i64 x3]] w fun e w' => e = .returned (.agg #[.int .i64 q, .int .i64 r]) ∧ Below w.heap.size w w') ∧ -16777216 < q ∧ q ≤ r ∧ r < 16777216 := ⟨_, _, fun w => r2small x2 x3 w (hx x2 (by simp)).1 (hx x2 (by simp)).2 (hx x3 (by simp)).1 (hx x3 (by simp)).2, sm_bd x2 x3⟩
  obtain ⟨s1, t1, N1, hn1⟩ : ∃ s t, (∀ w, Calls Try.prog 29 #[.int .i64 (q1 - a2), .int .i64 (r1 + h2)] w fun e w' => e = .returned (.agg #[.int .i64 s, .int .i64 t]) ∧ Below w.heap.size w w') ∧ VI s t ∧ s ≤ q1 ∧ r1 ≤ t := ⟨_, _, fun w => r2new (q1 - a2) (r1 + h2) w, mk_vi (by omega), mk_out (by omega) (by omega) (by omega) (by omega)⟩
  have HS1 := Lib.hid S1
  have HN1 := Lib.hid N1
  have WA1 : IntKind.i64.wrap (q1 - a2) = q1 - a2 := wrap_i64 _ (by omega) (by omega)
  have WB1 : IntKind.i64.wrap (r1 + h2) = r1 + h2 := wrap_i64 _ (by omega) (by omega)
  obtain ⟨q2, r2, S2, hq2⟩ : ∃ q r, (∀ w, Calls Try.prog 28 #[.agg #[.int .i64 x4, .int .i64 x5]] w fun e w' => e = .returned (.agg #[.int .i64 q, .int .i64 r]) ∧ Below w.heap.size w w') ∧ -16777216 < q ∧ q ≤ r ∧ r < 16777216 := ⟨_, _, fun w => r2small x4 x5 w (hx x4 (by simp)).1 (hx x4 (by simp)).2 (hx x5 (by simp)).1 (hx x5 (by simp)).2, sm_bd x4 x5⟩
  obtain ⟨s2, t2, N2, hn2⟩ : ∃ s t, (∀ w, Calls Try.prog 29 #[.int .i64 (q2 - a2), .int .i64 (r2 + h2)] w fun e w' => e = .returned (.agg #[.int .i64 s, .int .i64 t]) ∧ Below w.heap.size w w') ∧ VI s t ∧ s ≤ q2 ∧ r2 ≤ t := ⟨_, _, fun w => r2new (q2 - a2) (r2 + h2) w, mk_vi (by omega), mk_out (by omega) (by omega) (by omega) (by omega)⟩
  have HS2 := Lib.hid S2
  have HN2 := Lib.hid N2
  have WA2 : IntKind.i64.wrap (q2 - a2) = q2 - a2 := wrap_i64 _ (by omega) (by omega)
  have WB2 : IntKind.i64.wrap (r2 + h2) = r2 + h2 := wrap_i64 _ (by omega) (by omega)
  have VA := Lib.hid (evalP_iso (l := [(q0, r0), (q1, r1), (q2, r2)]) (m := [(s0, t0), (s1, t1), (s2, t2)]) (by
    intro p hp
    simp only [List.mem_cons, List.not_mem_nil, or_false] at hp
    rcases hp with rfl | rfl | rfl
    · exact .inr ⟨by unfold Num; dsimp only; omega, by unfold Num; dsimp only; omega, hq0.2.1⟩
    · exact .inr ⟨by unfold Num; dsimp only; omega, by unfold Num; dsimp only; omega, hq1.2.1⟩
    · exact .inr ⟨by unfold Num; dsimp only; omega, by unfold Num; dsimp only; omega, hq2.2.1⟩) (by
    intro p hp
    simp only [List.mem_cons, List.not_mem_nil, or_false] at hp
    rcases hp with rfl | rfl | rfl
    · exact hn0.1
    · exact hn1.1
    · exact hn2.1) (sbl3 hn0.2 hn1.2 hn2.2))
  have VL : Hid (∀ p ∈ [(q0, r0), (q1, r1), (q2, r2)], VB2 p) := Lib.hid (by
    intro p hp
    simp only [List.mem_cons, List.not_mem_nil, or_false] at hp
    rcases hp with rfl | rfl | rfl
    · exact .inr ⟨by unfold Num; dsimp only; omega, by unfold Num; dsimp only; omega, hq0.2.1⟩
    · exact .inr ⟨by unfold Num; dsimp only; omega, by unfold Num; dsimp only; omega, hq1.2.1⟩
    · exact .inr ⟨by unfold Num; dsimp only; omega, by unfold Num; dsimp only; omega, hq2.2.1⟩)
  have VM : Hid (∀ p ∈ [(s0, t0), (s1, t1), (s2, t2)], VB2 p) := Lib.hid (by
    intro p hp
    simp only [List.mem_cons, List.not_mem_nil, or_false] at hp
    rcases hp with rfl | rfl | rfl
    · exact hn0.1
    · exact hn1.1
    · exact hn2.1)
  have HA := Lib.hid h0A
  have HB := Lib.hid h0B
  clear h0A h0B h0k h0n hx S0 S1 S2 N0 N1 N2 hq0 hq1 hq2 hn0 hn1 hn2
  go_enter Try.func7, Try.ntmps7
  go_wp2_with (fail)
  generalize hW0 : World.alloc (World.alloc w _) _ = W0
  have hBW : Below w.heap.size w W0 := by subst hW0; exact (((Below.refl w.heap.size w).alloc (by go_size) _).alloc (by go_size) _)
  have Y0 : w.heap.size < W0.heap.size := by subst hW0; simp <;> omega
  have Y1 : w.heap.size + 1 < W0.heap.size := by subst hW0; simp <;> omega
  have F0_0 : ∀ g : Grown W0, g.w.cell? ⟨w.heap.size, 0, none⟩ = some a0A := fun g => (g.cell Y0).trans (by subst hW0; simp [go_sem])
  have F0_1 : ∀ g : Grown W0, g.w.cell? ⟨w.heap.size, 1, none⟩ = some a0B := fun g => (g.cell Y0).trans (by subst hW0; simp [go_sem])
  have F0_2 : ∀ g : Grown W0, g.w.cell? ⟨w.heap.size, 2, none⟩ = some (.int .i64 a0k) := fun g => (g.cell Y0).trans (by subst hW0; simp [go_sem])
  have F0_3 : ∀ g : Grown W0, g.w.cell? ⟨w.heap.size, 3, none⟩ = some (.int .i8 a0n) := fun g => (g.cell Y0).trans (by subst hW0; simp [go_sem])
  have F1_0 : ∀ g : Grown W0, g.w.cell? ⟨w.heap.size + 1, 0, none⟩ = some (.int .i64 x0) := fun g => (g.cell Y1).trans (by subst hW0; simp [go_sem])
  have F1_1 : ∀ g : Grown W0, g.w.cell? ⟨w.heap.size + 1, 1, none⟩ = some (.int .i64 x1) := fun g => (g.cell Y1).trans (by subst hW0; simp [go_sem])
  have F1_2 : ∀ g : Grown W0, g.w.cell? ⟨w.heap.size + 1, 2, none⟩ = some (.int .i64 x2) := fun g => (g.cell Y1).trans (by subst hW0; simp [go_sem])
  have F1_3 : ∀ g : Grown W0, g.w.cell? ⟨w.heap.size + 1, 3, none⟩ = some (.int .i64 x3) := fun g => (g.cell Y1).trans (by subst hW0; simp [go_sem])
  have F1_4 : ∀ g : Grown W0, g.w.cell? ⟨w.heap.size + 1, 4, none⟩ = some (.int .i64 x4) := fun g => (g.cell Y1).trans (by subst hW0; simp [go_sem])
  have F1_5 : ∀ g : Grown W0, g.w.cell? ⟨w.heap.size + 1, 5, none⟩ = some (.int .i64 x5) := fun g => (g.cell Y1).trans (by subst hW0; simp [go_sem])
  clear hW0
  refine (sanity5 _).mono ?_
  rintro e w1 ⟨rfl, hb1⟩
  have f0 := F0_0 ⟨w1, hb1⟩
  have f1 := F0_1 ⟨w1, hb1⟩
  have f2 := F0_2 ⟨w1, hb1⟩
  have f3 := F0_3 ⟨w1, hb1⟩
  dsimp only at f0 f1 f2 f3
  have hT1 := below_then hBW hb1
  clear F0_0 F0_1 F0_2 F0_3
  go_wp2_with (fail)
  refine (law5small a0A a0B a0la a0lb a0k a0n w1 (HA.out.1.grow hT1) (HB.out.1.grow hT1) HA.out.2 HB.out.2).mono ?_
  rintro e wb ⟨u, v, rfl, ⟨l, hl1, hl2, hl3⟩, ⟨m, hm1, hm2, hm3⟩, hb2⟩
  have hb12 := hb1.trans (hb2.mono hb1.size)
  have hT2 := below_then hT1 hb2
  have HL := Lib.hid hl1
  have nl := Lib.hid (fun t ht => (⟨hl3.2.2 t ht, vp_num hl3.1 t ht⟩ : TV t ∧ Num t.1))
  have q3 : l.length ≤ 6 := by have := hl3.2.1; omega
  have RI := Lib.hid (range_in nl.out)
  have HT := Lib.hid hT2
  have EV1 := VA.out l
  have HEV := Lib.hid EV1
  clear hl1 hm1 hl2 hm2 hl3 hm3 f0 f1 f2 f3 hb1 hb2 Y0 HA HB hT1 hBW hT2 VA EV1
  obtain ⟨i0, hi, hz0, hz1, hz2⟩ := info_parts info_iv
  have hB0 : Below wb.heap.size wb ((wb.alloc (.cells #[] 33)).alloc (.cells #[] 33)) := ((Below.refl _ _).alloc (Nat.le_refl _) _).alloc (by simp) _
  have o1 := (own_emptyI wb (Nat.le_refl _)).alloc (.cells #[] 33)
  have o2 := own_emptyI (B := wb.heap.size) (wb.alloc (.cells #[] 33)) (by simp)
  rw [World.size_alloc] at o2
  have HO1 := Lib.hid o1
  have HO2 := Lib.hid o2
  clear o1 o2
  go_wp2_with (fail)
  go_loopw [10, 11, 12] (fun u v i wr => ∃ (k g1 c1 g2 c2 : Nat), i = .int .i64 k ∧ k ≤ 3 ∧ u = .slice (some ⟨g1, 0, none⟩) k c1 ∧ v = .slice (some ⟨g2, 0, none⟩) k c2 ∧ g1 ≠ g2 ∧ Hid (wr.ownsRow wb.heap.size 33 2 (.slice (some ⟨g1, 0, none⟩) k c1) k (cz ([(q0, r0), (q1, r1), (q2, r2)].take k))) ∧ Hid (wr.ownsRow wb.heap.size 33 2 (.slice (some ⟨g2, 0, none⟩) k c2) k (cz ([(s0, t0), (s1, t1), (s2, t2)].take k))) ∧ Below wb.heap.size wb wr) (fun _ _ i _ => 3 - (intOf i).toNat)
  case atStart => exact ⟨0, wb.heap.size, 0, wb.heap.size + 1, 0, rfl, by decide, rfl, rfl, by omega, HO1, HO2, hB0⟩
  case round =>
    obtain ⟨k, g1, c1, g2, c2, rfl, hk, rfl, rfl, hne, HR1, HR2, hB⟩ := hrel
    have hsz := hB.size
    have hG1 := (HR1.out.lt g1 rfl).2
    have hG2 := (HR2.out.lt g2 rfl).2
    rcases (show k = 0 ∨ k = 1 ∨ k = 2 ∨ k = 3 by omega) with rfl | rfl | rfl | rfl
    · have x0' := F1_0 ⟨wr, hb12.trans (hB.mono hb12.size)⟩
      have x1' := F1_1 ⟨wr, hb12.trans (hB.mono hb12.size)⟩
      dsimp only at x0' x1'
      go_wp2_with (fail)
      refine (HS0.out _).mono ?_
      rintro e w5 ⟨rfl, hB5⟩
      have hs5 := hB5.size
      have hI : IvC (w5.alloc (.cells #[.int .i64 q0, .int .i64 r0] 33)) w5.heap.size (q0, r0) := World.alloc_heap_new w5 _
      have i0' := hI.c0
      have i1' := hI.c1
      dsimp only at i0' i1'
      have hrow := (((own_keptT HR1.out hB5).alloc (.cells #[.int .i64 q0, .int .i64 r0] 33)).alloc (.cells #[.int .i64 q0, .int .i64 r0] 33))
      have hrow2 := (((own_keptT HR2.out hB5).alloc (.cells #[.int .i64 q0, .int .i64 r0] 33)).alloc (.cells #[.int .i64 q0, .int .i64 r0] 33))
      have hB6 : Below wb.heap.size wb ((w5.alloc (.cells #[.int .i64 q0, .int .i64 r0] 33)).alloc (.cells #[.int .i64 q0, .int .i64 r0] 33)) := ((hB.trans (hB5.mono hsz)).alloc (by omega) _).alloc (by simp; omega) _
      clear x0' x1'
      go_wp2_with (at_builtin; refine wpList_append_own_at _ rfl (.tmp 30) (.tmp 32) 51 rfl wb.heap.size 33 i0 (.agg #[.int .i64 0, .int .i64 0]) 2 16 Try.underlying51 hi hz0 hz1 hz2 rfl (by decide) (.slice (some ⟨g1, 0, none⟩) 0 c1) 0 _ rfl hrow ⟨w5.heap.size + 1, 0, none⟩ 1 1 [.int .i64 q0, .int .i64 r0] rfl rfl (by have := two_new (w5.alloc (.cells #[.int .i64 q0, .int .i64 r0] 33)) (.int .i64 q0) (.int .i64 r0) 33; simpa using this) (two_one _ _) (by unfold maxLen; omega) (by omega) (by simp; omega) ?_)
      intro v6 w6 hown6 hg6 _ hat6
      obtain ⟨g1', c1', rfl⟩ := ownsRow_succ hown6
      have hB7 : Below wb.heap.size wb w6 := Below.grown hB6 hg6 (by simp; omega) (fun j hj => (hrow.lt j hj).1)
      have hrow3 := hrow2.kept hg6 (.inr (by simp [Value.ownBlock]; omega))
      have hI2 : IvC w6 w5.heap.size (q0, r0) := heap_grownT (b := g1) hg6 (show w5.heap.size ≠ g1 by omega) (hI.alloc _)
      have hne' : g1' ≠ g2 := by
        simp [Value.ownBlock] at hat6
        omega
      have hs6 : w5.heap.size + 2 ≤ w6.heap.size := by have := hg6.size; simp at this; omega
      have j0' := hI2.c0
      have j1' := hI2.c1
      dsimp only at j0' j1'
      have HO6 : Hid (w6.ownsRow wb.heap.size 33 2 (.slice (some ⟨g1', 0, none⟩) 1 c1') 1 (cz ([(q0, r0), (q1, r1), (q2, r2)].take 1))) := Lib.hid hown6
      have HR6 := Lib.hid hrow3
      clear hown6 hg6 hat6 hrow hrow2 hrow3 hI2 hI i0' i1' hB6 hB5 HR1 HR2
      go_wp2_with (fail)
      refine (HN0.out _).mono ?_
      rintro e w8 ⟨rfl, hB8⟩
      have hs8 := hB8.size
      have hG3 := (HR6.out.lt g2 rfl).2
      have hG4 := (HO6.out.lt g1' rfl).2
      have hrowA := ((own_keptT HO6.out hB8).alloc (.cells #[.int .i64 s0, .int .i64 t0] 33))
      have hrowB := ((own_keptT HR6.out hB8).alloc (.cells #[.int .i64 s0, .int .i64 t0] 33))
      have hs7 := hB7.size
      have hB9 : Below wb.heap.size wb (w8.alloc (.cells #[.int .i64 s0, .int .i64 t0] 33)) := (hB7.trans (hB8.mono hs7)).alloc (by omega) _
      clear j0' j1'
      go_wp2_with (at_builtin; refine wpList_append_own_at _ rfl (.tmp 34) (.tmp 47) 51 rfl wb.heap.size 33 i0 (.agg #[.int .i64 0, .int .i64 0]) 2 16 Try.underlying51 hi hz0 hz1 hz2 rfl (by decide) (.slice (some ⟨g2, 0, none⟩) 0 c2) 0 _ rfl hrowB ⟨w8.heap.size, 0, none⟩ 1 1 [.int .i64 s0, .int .i64 t0] rfl rfl (two_new w8 (.int .i64 s0) (.int .i64 t0) 33) (two_one _ _) (by unfold maxLen; omega) (by omega) (by simp; omega) ?_)
      intro v9 w9 hown9 hg9 _ hat9
      obtain ⟨g2', c2', rfl⟩ := ownsRow_succ hown9
      have hBA : Below wb.heap.size wb w9 := Below.grown hB9 hg9 (by simp; omega) (fun j hj => (hrowB.lt j hj).1)
      have hrowC := hrowA.kept hg9 (.inr (by simp [Value.ownBlock]; omega))
      have hne2 : g1' ≠ g2' := by
        simp [Value.ownBlock] at hat9
        omega
      have HO9 : Hid (w9.ownsRow wb.heap.size 33 2 (.slice (some ⟨g2', 0, none⟩) 1 c2') 1 (cz ([(s0, t0), (s1, t1), (s2, t2)].take 1))) := Lib.hid hown9
      have HC9 := Lib.hid hrowC
      clear hown9 hg9 hat9 hrowA hrowB hrowC hB9 hB8 hB7
      go_wp2_with (fail)
      exact ⟨⟨1, g1', c1', g2', c2', rfl, by decide, rfl, rfl, hne2, HC9, HO9, hBA⟩, by simp [intOf]⟩
    · have x0' := F1_2 ⟨wr, hb12.trans (hB.mono hb12.size)⟩
      have x1' := F1_3 ⟨wr, hb12.trans (hB.mono hb12.size)⟩
      dsimp only at x0' x1'
      go_wp2_with (fail)
      refine (HS1.out _).mono ?_
      rintro e w5 ⟨rfl, hB5⟩
      have hs5 := hB5.size
      have hI : IvC (w5.alloc (.cells #[.int .i64 q1, .int .i64 r1] 33)) w5.heap.size (q1, r1) := World.alloc_heap_new w5 _
      have i0' := hI.c0
      have i1' := hI.c1
      dsimp only at i0' i1'
      have hrow := (((own_keptT HR1.out hB5).alloc (.cells #[.int .i64 q1, .int .i64 r1] 33)).alloc (.cells #[.int .i64 q1, .int .i64 r1] 33))
      have hrow2 := (((own_keptT HR2.out hB5).alloc (.cells #[.int .i64 q1, .int .i64 r1] 33)).alloc (.cells #[.int .i64 q1, .int .i64 r1] 33))
      have hB6 : Below wb.heap.size wb ((w5.alloc (.cells #[.int .i64 q1, .int .i64 r1] 33)).alloc (.cells #[.int .i64 q1, .int .i64 r1] 33)) := ((hB.trans (hB5.mono hsz)).alloc (by omega) _).alloc (by simp; omega) _
      clear x0' x1'
      go_wp2_with (at_builtin; refine wpList_append_own_at _ rfl (.tmp 30) (.tmp 32) 51 rfl wb.heap.size 33 i0 (.agg #[.int .i64 0, .int .i64 0]) 2 16 Try.underlying51 hi hz0 hz1 hz2 rfl (by decide) (.slice (some ⟨g1, 0, none⟩) 1 c1) 1 _ rfl hrow ⟨w5.heap.size + 1, 0, none⟩ 1 1 [.int .i64 q1, .int .i64 r1] rfl rfl (by have := two_new (w5.alloc (.cells #[.int .i64 q1, .int .i64 r1] 33)) (.int .i64 q1) (.int .i64 r1) 33; simpa using this) (two_one _ _) (by unfold maxLen; omega) (by omega) (by simp; omega) ?_)
      intro v6 w6 hown6 hg6 _ hat6
      obtain ⟨g1', c1', rfl⟩ := ownsRow_succ hown6
      have hB7 : Below wb.heap.size wb w6 := Below.grown hB6 hg6 (by simp; omega) (fun j hj => (hrow.lt j hj).1)
      have hrow3 := hrow2.kept hg6 (.inr (by simp [Value.ownBlock]; omega))
      have hI2 : IvC w6 w5.heap.size (q1, r1) := heap_grownT (b := g1) hg6 (show w5.heap.size ≠ g1 by omega) (hI.alloc _)
      have hne' : g1' ≠ g2 := by
        simp [Value.ownBlock] at hat6
        omega
      have hs6 : w5.heap.size + 2 ≤ w6.heap.size := by have := hg6.size; simp at this; omega
      have j0' := hI2.c0
      have j1' := hI2.c1
      dsimp only at j0' j1'
      have HO6 : Hid (w6.ownsRow wb.heap.size 33 2 (.slice (some ⟨g1', 0, none⟩) 2 c1') 2 (cz ([(q0, r0), (q1, r1), (q2, r2)].take 2))) := Lib.hid hown6
      have HR6 := Lib.hid hrow3
      clear hown6 hg6 hat6 hrow hrow2 hrow3 hI2 hI i0' i1' hB6 hB5 HR1 HR2
      go_wp2_with (fail)
      refine (HN1.out _).mono ?_
      rintro e w8 ⟨rfl, hB8⟩
      have hs8 := hB8.size
      have hG3 := (HR6.out.lt g2 rfl).2
      have hG4 := (HO6.out.lt g1' rfl).2
      have hrowA := ((own_keptT HO6.out hB8).alloc (.cells #[.int .i64 s1, .int .i64 t1] 33))
      have hrowB := ((own_keptT HR6.out hB8).alloc (.cells #[.int .i64 s1, .int .i64 t1] 33))
      have hs7 := hB7.size
      have hB9 : Below wb.heap.size wb (w8.alloc (.cells #[.int .i64 s1, .int .i64 t1] 33)) := (hB7.trans (hB8.mono hs7)).alloc (by omega) _
      clear j0' j1'
      go_wp2_with (at_builtin; refine wpList_append_own_at _ rfl (.tmp 34) (.tmp 47) 51 rfl wb.heap.size 33 i0 (.agg #[.int .i64 0, .int .i64 0]) 2 16 Try.underlying51 hi hz0 hz1 hz2 rfl (by decide) (.slice (some ⟨g2, 0, none⟩) 1 c2) 1 _ rfl hrowB ⟨w8.heap.size, 0, none⟩ 1 1 [.int .i64 s1, .int .i64 t1] rfl rfl (two_new w8 (.int .i64 s1) (.int .i64 t1) 33) (two_one _ _) (by unfold maxLen; omega) (by omega) (by simp; omega) ?_)
      intro v9 w9 hown9 hg9 _ hat9
      obtain ⟨g2', c2', rfl⟩ := ownsRow_succ hown9
      have hBA : Below wb.heap.size wb w9 := Below.grown hB9 hg9 (by simp; omega) (fun j hj => (hrowB.lt j hj).1)
      have hrowC := hrowA.kept hg9 (.inr (by simp [Value.ownBlock]; omega))
      have hne2 : g1' ≠ g2' := by
        simp [Value.ownBlock] at hat9
        omega
      have HO9 : Hid (w9.ownsRow wb.heap.size 33 2 (.slice (some ⟨g2', 0, none⟩) 2 c2') 2 (cz ([(s0, t0), (s1, t1), (s2, t2)].take 2))) := Lib.hid hown9
      have HC9 := Lib.hid hrowC
      clear hown9 hg9 hat9 hrowA hrowB hrowC hB9 hB8 hB7
      go_wp2_with (fail)
      exact ⟨⟨2, g1', c1', g2', c2', rfl, by decide, rfl, rfl, hne2, HC9, HO9, hBA⟩, by simp [intOf]⟩
    · have x0' := F1_4 ⟨wr, hb12.trans (hB.mono hb12.size)⟩
      have x1' := F1_5 ⟨wr, hb12.trans (hB.mono hb12.size)⟩
      dsimp only at x0' x1'
      go_wp2_with (fail)
      refine (HS2.out _).mono ?_
      rintro e w5 ⟨rfl, hB5⟩
      have hs5 := hB5.size
      have hI : IvC (w5.alloc (.cells #[.int .i64 q2, .int .i64 r2] 33)) w5.heap.size (q2, r2) := World.alloc_heap_new w5 _
      have i0' := hI.c0
      have i1' := hI.c1
      dsimp only at i0' i1'
      have hrow := (((own_keptT HR1.out hB5).alloc (.cells #[.int .i64 q2, .int .i64 r2] 33)).alloc (.cells #[.int .i64 q2, .int .i64 r2] 33))
      have hrow2 := (((own_keptT HR2.out hB5).alloc (.cells #[.int .i64 q2, .int .i64 r2] 33)).alloc (.cells #[.int .i64 q2, .int .i64 r2] 33))
      have hB6 : Below wb.heap.size wb ((w5.alloc (.cells #[.int .i64 q2, .int .i64 r2] 33)).alloc (.cells #[.int .i64 q2, .int .i64 r2] 33)) := ((hB.trans (hB5.mono hsz)).alloc (by omega) _).alloc (by simp; omega) _
      clear x0' x1'
      go_wp2_with (at_builtin; refine wpList_append_own_at _ rfl (.tmp 30) (.tmp 32) 51 rfl wb.heap.size 33 i0 (.agg #[.int .i64 0, .int .i64 0]) 2 16 Try.underlying51 hi hz0 hz1 hz2 rfl (by decide) (.slice (some ⟨g1, 0, none⟩) 2 c1) 2 _ rfl hrow ⟨w5.heap.size + 1, 0, none⟩ 1 1 [.int .i64 q2, .int .i64 r2] rfl rfl (by have := two_new (w5.alloc (.cells #[.int .i64 q2, .int .i64 r2] 33)) (.int .i64 q2) (.int .i64 r2) 33; simpa using this) (two_one _ _) (by unfold maxLen; omega) (by omega) (by simp; omega) ?_)
      intro v6 w6 hown6 hg6 _ hat6
      obtain ⟨g1', c1', rfl⟩ := ownsRow_succ hown6
      have hB7 : Below wb.heap.size wb w6 := Below.grown hB6 hg6 (by simp; omega) (fun j hj => (hrow.lt j hj).1)
      have hrow3 := hrow2.kept hg6 (.inr (by simp [Value.ownBlock]; omega))
      have hI2 : IvC w6 w5.heap.size (q2, r2) := heap_grownT (b := g1) hg6 (show w5.heap.size ≠ g1 by omega) (hI.alloc _)
      have hne' : g1' ≠ g2 := by
        simp [Value.ownBlock] at hat6
        omega
      have hs6 : w5.heap.size + 2 ≤ w6.heap.size := by have := hg6.size; simp at this; omega
      have j0' := hI2.c0
      have j1' := hI2.c1
      dsimp only at j0' j1'
      have HO6 : Hid (w6.ownsRow wb.heap.size 33 2 (.slice (some ⟨g1', 0, none⟩) 3 c1') 3 (cz ([(q0, r0), (q1, r1), (q2, r2)].take 3))) := Lib.hid hown6
      have HR6 := Lib.hid hrow3
      clear hown6 hg6 hat6 hrow hrow2 hrow3 hI2 hI i0' i1' hB6 hB5 HR1 HR2
      go_wp2_with (fail)
      refine (HN2.out _).mono ?_
      rintro e w8 ⟨rfl, hB8⟩
      have hs8 := hB8.size
      have hG3 := (HR6.out.lt g2 rfl).2
      have hG4 := (HO6.out.lt g1' rfl).2
      have hrowA := ((own_keptT HO6.out hB8).alloc (.cells #[.int .i64 s2, .int .i64 t2] 33))
      have hrowB := ((own_keptT HR6.out hB8).alloc (.cells #[.int .i64 s2, .int .i64 t2] 33))
      have hs7 := hB7.size
      have hB9 : Below wb.heap.size wb (w8.alloc (.cells #[.int .i64 s2, .int .i64 t2] 33)) := (hB7.trans (hB8.mono hs7)).alloc (by omega) _
      clear j0' j1'
      go_wp2_with (at_builtin; refine wpList_append_own_at _ rfl (.tmp 34) (.tmp 47) 51 rfl wb.heap.size 33 i0 (.agg #[.int .i64 0, .int .i64 0]) 2 16 Try.underlying51 hi hz0 hz1 hz2 rfl (by decide) (.slice (some ⟨g2, 0, none⟩) 2 c2) 2 _ rfl hrowB ⟨w8.heap.size, 0, none⟩ 1 1 [.int .i64 s2, .int .i64 t2] rfl rfl (two_new w8 (.int .i64 s2) (.int .i64 t2) 33) (two_one _ _) (by unfold maxLen; omega) (by omega) (by simp; omega) ?_)
      intro v9 w9 hown9 hg9 _ hat9
      obtain ⟨g2', c2', rfl⟩ := ownsRow_succ hown9
      have hBA : Below wb.heap.size wb w9 := Below.grown hB9 hg9 (by simp; omega) (fun j hj => (hrowB.lt j hj).1)
      have hrowC := hrowA.kept hg9 (.inr (by simp [Value.ownBlock]; omega))
      have hne2 : g1' ≠ g2' := by
        simp [Value.ownBlock] at hat9
        omega
      have HO9 : Hid (w9.ownsRow wb.heap.size 33 2 (.slice (some ⟨g2', 0, none⟩) 3 c2') 3 (cz ([(s0, t0), (s1, t1), (s2, t2)].take 3))) := Lib.hid hown9
      have HC9 := Lib.hid hrowC
      clear hown9 hg9 hat9 hrowA hrowB hrowC hB9 hB8 hB7
      go_wp2_with (fail)
      exact ⟨⟨3, g1', c1', g2', c2', rfl, by decide, rfl, rfl, hne2, HC9, HO9, hBA⟩, by simp [intOf]⟩
    · have bx1 : Hid (Bx wr (.slice (some ⟨g1, 0, none⟩) 3 c1) [(q0, r0), (q1, r1), (q2, r2)]) := Lib.hid (Bx.own HR1.out (by simp [maxLen]))
      have bx2 : Hid (Bx wr (.slice (some ⟨g2, 0, none⟩) 3 c2) [(s0, t0), (s1, t1), (s2, t2)]) := Lib.hid (Bx.own HR2.out (by simp [maxLen]))
      have HLr := Lib.hid (HL.out.grow hB)
      have hT := below_then HT.out hB
      have tl := Lib.hid (fun t ht => (nl.out t ht).1)
      have E1 := Lib.hid (fun w h1 h2 => eval_ok u (.slice (some ⟨g1, 0, none⟩) 3 c1) l [(q0, r0), (q1, r1), (q2, r2)] w h1 h2 tl.out VL.out (by omega))
      have E2 := Lib.hid (fun w h1 h2 => eval_ok u (.slice (some ⟨g2, 0, none⟩) 3 c2) l [(s0, t0), (s1, t1), (s2, t2)] w h1 h2 tl.out VM.out (by omega))
      have E3 := Lib.hid (fun w h1 => eval_ok u (.slice none 0 0) l [] w h1 Bx.nil tl.out (by simp) (by omega))
      have R1 := Lib.hid (fun w h1 => range_ok u l w h1 nl.out (by omega))
      have hev := HEV.out
      have hri := RI.out
      unfold Sb2 Sb at hev hri
      obtain ⟨⟨e0, e1⟩, he⟩ : ∃ x, evalP [(q0, r0), (q1, r1), (q2, r2)] l = x := ⟨_, rfl⟩
      obtain ⟨⟨d0, d1⟩, hd⟩ : ∃ x, evalP [(s0, t0), (s1, t1), (s2, t2)] l = x := ⟨_, rfl⟩
      obtain ⟨⟨n0, n1⟩, hn⟩ : ∃ x, evalP [] l = x := ⟨_, rfl⟩
      obtain ⟨⟨m0, m1⟩, hm⟩ : ∃ x, newR (sumR l) = x := ⟨_, rfl⟩
      rw [he, hd] at hev
      rw [hm, hn] at hri
      rw [he] at E1
      rw [hd] at E2
      rw [hn] at E3
      rw [hm] at R1
      dsimp only at hev hri E1 E2 E3 R1
      have Z1 := Lib.hid (fun w => r2subset_0 e0 e1 d0 d1 w hev.1 (by simpa using hev.2))
      have Z2 := Lib.hid (fun w => r2subset_0 m0 m1 n0 n1 w hri.1 (by simpa using hri.2))
      clear hev hri he hd hn hm HR1 HR2 F1_0 F1_1 F1_2 F1_3 F1_4 F1_5 HEV RI
      rw [show ((3 : Nat) : Int) = 3 from rfl]
      go_wp2_with (fail)
      refine (E1.out _ HLr.out bx1.out).mono ?_
      rintro e y1 ⟨rfl, k1⟩
      go_wp2_with (fail)
      refine (E2.out _ (HLr.out.grow k1) (bx2.out.grow k1)).mono ?_
      rintro e y2 ⟨rfl, k2⟩
      have k12 := k1.trans (k2.mono k1.size)
      clear k1 k2
      go_wp2_with (fail)
      refine (Z1.out _).mono ?_
      rintro e y3 ⟨rfl, k3⟩
      have k13 := k12.trans (k3.mono k12.size)
      clear k12 k3
      go_wp2_with (fail)
      refine (R1.out _ (HLr.out.grow k13)).mono ?_
      rintro e y4 ⟨rfl, k4⟩
      have k14 := k13.trans (k4.mono k13.size)
      clear k13 k4
      go_wp2_with (fail)
      refine (E3.out _ (HLr.out.grow k14)).mono ?_
      rintro e y5 ⟨rfl, k5⟩
      have k15 := k14.trans (k5.mono k14.size)
      clear k14 k5
      go_wp2_with (fail)
      refine (Z2.out _).mono ?_
      rintro e y6 ⟨rfl, k6⟩
      have k16 := k15.trans (k6.mono k15.size)
      clear k15 k6
      go_wp2_with (fail)
      go_ret
      exact ⟨rfl, below_then hT k16⟩
end Go.Proofs.Ytcamjoddaeefdaa
