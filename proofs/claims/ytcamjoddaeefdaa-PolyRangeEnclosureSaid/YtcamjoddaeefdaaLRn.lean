/-
  The law PolyRangeEnclosure.
-/
import Derived.Test.YtcamjoddaeefdaaRnM
import Derived.Test.YtcamjoddaeefdaaSan5
import Derived.Maps.AppendAt
namespace Go.Proofs.Ytcamjoddaeefdaa
open Go.ChangeShapes Go.WideShapes Go.ChangeAt Go.RowKit
set_option linter.unusedVariables false
set_option linter.unusedSimpArgs false
set_option maxRecDepth 100000
attribute [local go_sem] Oper.semAt_some

/-- The cells of a slice of intervals. -/
def cz : List (Int × Int) → List Value
  | [] => []
  | p :: l => .int .i64 p.1 :: .int .i64 p.2 :: cz l
theorem cz_app : ∀ (l m : List (Int × Int)), cz (l ++ m) = cz l ++ cz m
  | [], _ => rfl
  | p :: l, m => by simp [cz, cz_app l m]
theorem cz_len : ∀ (l : List (Int × Int)), (cz l).length = l.length * 2
  | [] => rfl
  | p :: l => by simp [cz, cz_len l]; omega
theorem cz_get : ∀ (l : List (Int × Int)) (k : Nat) (x : Int × Int), l[k]? = some x → (cz l)[k * 2]? = some (.int .i64 x.1) ∧ (cz l)[k * 2 + 1]? = some (.int .i64 x.2)
  | [], k, x, h => by simp at h
  | p :: l, 0, x, h => by simp at h; subst h; simp [cz]
  | p :: l, k + 1, x, h => by
    have := cz_get l k x (by simpa using h)
    rw [show (k + 1) * 2 = k * 2 + 1 + 1 by omega]
    simpa [cz] using this
/-- A row of its own that holds intervals is a box. -/
theorem Bx.own {W : World} {B : Nat} {v : Value} {l : List (Int × Int)} (h : W.ownsRow B 33 2 v l.length (cz l)) (hl : l.length ≤ maxLen) : Bx W v l := by
  rcases h.2 with ⟨rfl, h0⟩ | ⟨g, cap, cur, rfl, hb, hg, hrest⟩
  · have : l = [] := List.length_eq_zero_iff.1 h0
    subst this
    exact Bx.nil
  · refine ⟨hl, _, cap, rfl, fun k x hx => ⟨g, 0, rfl, (Array.getElem?_eq_some_iff.1 hg).1, ?_, ?_⟩⟩
    · have hk := (List.getElem?_eq_some_iff.1 hx).1
      rw [Nat.zero_add, h.cellAt (k * 2) (by omega)]
      exact (cz_get l k x hx).1
    · have hk := (List.getElem?_eq_some_iff.1 hx).1
      rw [Nat.zero_add, h.cellAt (k * 2 + 1) (by omega)]
      exact (cz_get l k x hx).2
theorem info_iv : (Try.prog.info? 33).map (fun i => (i.zero, i.size, i.bytes)) = some (some (.agg #[.int .i64 0, .int .i64 0]), 2, 16) := by kernel_rfl
theorem two_new (w : World) (x y : Value) (t : TypeId) : ∀ j u, [x, y][j]? = some u → (w.alloc (.cells #[x, y] t)).cell? ((⟨w.heap.size, 0, none⟩ : Addr).add j) = some u := by
  intro j u hj
  match j, hj with
  | 0, hj => simp at hj; subst hj; simp [Addr.add]
  | 1, hj => simp at hj; subst hj; simp [Addr.add]
theorem two_one (x y : Int) : ∀ u ∈ [Value.int .i64 x, Value.int .i64 y], u.oneCell' = true := by
  intro u hu
  simp at hu
  rcases hu with rfl | rfl <;> rfl
theorem own_emptyI {B : Nat} (W : World) (h : B ≤ W.heap.size) : (W.alloc (.cells #[] 33)).ownsRow B 33 2 (.slice (some ⟨W.heap.size, 0, none⟩) 0 0) 0 [] :=
  ⟨rfl, .inr ⟨W.heap.size, 0, #[], rfl, h, World.alloc_heap_new W _, Nat.le_refl _, Nat.zero_le _, rfl, rfl⟩⟩
theorem has8R {x : Int} (h : IntKind.has .i8 x) : -128 ≤ x ∧ x ≤ 127 := by
  unfold IntKind.has at h
  rw [show IntKind.i8.min = -128 by decide, show IntKind.i8.max = 127 by decide] at h
  exact h
theorem tmod3R (x : Int) : -2 ≤ x.tmod 3 ∧ x.tmod 3 ≤ 2 := by
  have h3 := Int.tmod_lt_of_pos x (b := 3) (by decide)
  have h4 := Int.tmod_lt_of_pos (-x) (b := 3) (by decide)
  rw [Int.neg_tmod] at h4
  omega
set_option maxHeartbeats 40000000 in
theorem rangeencl (w : World) (a0A a0B : Value) (a0k a0n : Int) (a0la a0lb : List Tm) (h0A : Tx w a0A a0la ∧ ∀ t ∈ a0la, TV t) (h0B : Tx w a0B a0lb ∧ ∀ t ∈ a0lb, TV t) (h0k : -9223372036854775808 ≤ a0k ∧ a0k ≤ 9223372036854775807) (h0n : -128 ≤ a0n ∧ a0n ≤ 127) (x0 x1 x2 x3 x4 x5 : Int) (w1 : ∀ x ∈ [x0, x1, x2, x3, x4, x5], IntKind.has .i8 x) (a2 : Int) (w2 : (Lit.int .u16 a2).wf = true) :
    Calls Try.prog 6 #[.agg #[a0A, a0B, .int .i64 a0k, .int .i8 a0n], .agg #[.int .i8 x0, .int .i8 x1, .int .i8 x2, .int .i8 x3, .int .i8 x4, .int .i8 x5], .int .u16 a2] w fun e w' => e = .returned (.bool true) ∧ Below w.heap.size w w' := by
  have b2 := bounds_u16 w2
  have b20 : 0 ≤ a2 := b2.1
  have b21 : a2 ≤ 65535 := by have := b2.2; omega
  have T1 : a2.tmod 4096 = a2 % 4096 := Int.tmod_eq_emod_of_nonneg b20
  have T3 : a2.tdiv 3 = a2 / 3 := Int.tdiv_eq_ediv_of_nonneg b20
  have W2 : wrap64 a2 = a2 := by first | exact wrap_i64 a2 (by omega) (by omega) | (unfold wrap64; omega)
  obtain ⟨d2, hd2⟩ : ∃ h, a2 % 4096 = h := ⟨_, rfl⟩
  obtain ⟨h2, hh2⟩ : ∃ h, a2 / 3 = h := ⟨_, rfl⟩
  have hd0 : 0 ≤ d2 ∧ d2 < 4096 := by omega
  have hh0 : 0 ≤ h2 ∧ h2 ≤ 65535 := by omega
  rw [hd2] at T1
  rw [hh2] at T3
  clear hh2 hd2 w2 b2
  have HA := Lib.hid h0A
  have HB := Lib.hid h0B
  have HX := Lib.hid (fun x hx => has8R (w1 x hx))
  clear h0A h0B h0k h0n w1
  go_enter Try.func6, Try.ntmps6
  go_wp2_with (fail)
  generalize hW0 : World.alloc (World.alloc w _) _ = W0
  have hBW : Below w.heap.size w W0 := by subst hW0; exact (((Below.refl w.heap.size w).alloc (by go_size) _).alloc (by go_size) _)
  have Y0 : w.heap.size < W0.heap.size := by subst hW0; simp <;> omega
  have Y1 : w.heap.size + 1 < W0.heap.size := by subst hW0; simp <;> omega
  have F0_0 : ∀ g : Grown W0, g.w.cell? ⟨w.heap.size, 0, none⟩ = some a0A := fun g => (g.cell Y0).trans (by subst hW0; simp [go_sem])
  have F0_1 : ∀ g : Grown W0, g.w.cell? ⟨w.heap.size, 1, none⟩ = some a0B := fun g => (g.cell Y0).trans (by subst hW0; simp [go_sem])
  have F0_2 : ∀ g : Grown W0, g.w.cell? ⟨w.heap.size, 2, none⟩ = some (.int .i64 a0k) := fun g => (g.cell Y0).trans (by subst hW0; simp [go_sem])
  have F0_3 : ∀ g : Grown W0, g.w.cell? ⟨w.heap.size, 3, none⟩ = some (.int .i8 a0n) := fun g => (g.cell Y0).trans (by subst hW0; simp [go_sem])
  have F1_0 : ∀ g : Grown W0, g.w.cell? ⟨w.heap.size + 1, 0, none⟩ = some (.int .i8 x0) := fun g => (g.cell Y1).trans (by subst hW0; simp [go_sem])
  have F1_1 : ∀ g : Grown W0, g.w.cell? ⟨w.heap.size + 1, 1, none⟩ = some (.int .i8 x1) := fun g => (g.cell Y1).trans (by subst hW0; simp [go_sem])
  have F1_2 : ∀ g : Grown W0, g.w.cell? ⟨w.heap.size + 1, 2, none⟩ = some (.int .i8 x2) := fun g => (g.cell Y1).trans (by subst hW0; simp [go_sem])
  have F1_3 : ∀ g : Grown W0, g.w.cell? ⟨w.heap.size + 1, 3, none⟩ = some (.int .i8 x3) := fun g => (g.cell Y1).trans (by subst hW0; simp [go_sem])
  have F1_4 : ∀ g : Grown W0, g.w.cell? ⟨w.heap.size + 1, 4, none⟩ = some (.int .i8 x4) := fun g => (g.cell Y1).trans (by subst hW0; simp [go_sem])
  have F1_5 : ∀ g : Grown W0, g.w.cell? ⟨w.heap.size + 1, 5, none⟩ = some (.int .i8 x5) := fun g => (g.cell Y1).trans (by subst hW0; simp [go_sem])
  clear hW0
  refine (sanity5 _).mono ?_
  rintro e w1 ⟨rfl, hb1⟩
  have f0 := F0_0 ⟨w1, hb1⟩
  have f1 := F0_1 ⟨w1, hb1⟩
  have f2 := F0_2 ⟨w1, hb1⟩
  have f3 := F0_3 ⟨w1, hb1⟩
  dsimp only at f0 f1 f2 f3
  have hT1 := below_then hBW hb1
  clear F0_0 F0_1 F0_2 F0_3
  go_wp2_with (fail)
  refine (law5small a0A a0B a0la a0lb a0k a0n w1 (HA.out.1.grow hT1) (HB.out.1.grow hT1) HA.out.2 HB.out.2).mono ?_
  rintro e w2 ⟨u, v, rfl, ⟨l, hl1, hl2, hl3⟩, ⟨m, hm1, hm2, hm3⟩, hb2⟩
  have hb12 := hb1.trans (hb2.mono hb1.size)
  have hT2 := below_then hT1 hb2
  have c0 := F1_0 ⟨w2, hb12⟩
  have c1 := F1_1 ⟨w2, hb12⟩
  have c2 := F1_2 ⟨w2, hb12⟩
  have c3 := F1_3 ⟨w2, hb12⟩
  have c4 := F1_4 ⟨w2, hb12⟩
  have c5 := F1_5 ⟨w2, hb12⟩
  dsimp only at c0 c1 c2 c3 c4 c5
  have HL := Lib.hid hl1
  have nl := Lib.hid (fun t ht => (⟨hl3.2.2 t ht, vp_num hl3.1 t ht⟩ : TV t ∧ Num t.1))
  have ql := Lib.hid (fun t ht => (⟨hl3.2.2 t ht, vp_num hl3.1 t ht, ((vp_parts hl3.1).2 t ht).2⟩ : TV t ∧ Num t.1 ∧ degE t.2 ≤ 6))
  have q3 : l.length ≤ 6 := by have := hl3.2.1; omega
  obtain ⟨pu, cu, rfl⟩ := hl1.cut
  clear hl1 hm1 hl2 hm2 hl3 hm3 f0 f1 f2 f3 hb1 hb2 Y0 Y1 HA HB hT1 hBW hb12 F1_0 F1_1 F1_2 F1_3 F1_4 F1_5
  have HH := Lib.hid (fun w => halves_ok x0 x1 x2 x3 x4 x5 w HX.out)
  go_wp2_with (fail)
  refine (HH.out _).mono ?_
  rintro e w3 ⟨rfl, hbh⟩
  clear c0 c1 c2 c3 c4 c5 HH HX
  obtain ⟨p0, e0⟩ : ∃ p, x0.tmod 3 = p := ⟨_, rfl⟩
  obtain ⟨p1, e1⟩ : ∃ p, x1.tmod 3 = p := ⟨_, rfl⟩
  obtain ⟨p2, e2⟩ : ∃ p, x2.tmod 3 = p := ⟨_, rfl⟩
  obtain ⟨p3, e3⟩ : ∃ p, x3.tmod 3 = p := ⟨_, rfl⟩
  obtain ⟨p4, e4⟩ : ∃ p, x4.tmod 3 = p := ⟨_, rfl⟩
  obtain ⟨p5, e5⟩ : ∃ p, x5.tmod 3 = p := ⟨_, rfl⟩
  have hp0 : -2 ≤ p0 ∧ p0 ≤ 2 := by rw [← e0]; exact tmod3R x0
  have hp1 : -2 ≤ p1 ∧ p1 ≤ 2 := by rw [← e1]; exact tmod3R x1
  have hp2 : -2 ≤ p2 ∧ p2 ≤ 2 := by rw [← e2]; exact tmod3R x2
  have hp3 : -2 ≤ p3 ∧ p3 ≤ 2 := by rw [← e3]; exact tmod3R x3
  have hp4 : -2 ≤ p4 ∧ p4 ≤ 2 := by rw [← e4]; exact tmod3R x4
  have hp5 : -2 ≤ p5 ∧ p5 ≤ 2 := by rw [← e5]; exact tmod3R x5
  rw [e0, e1, e2, e3, e4, e5]
  obtain ⟨y0, hy0⟩ : ∃ y, 32768 * p0 = y := ⟨_, rfl⟩
  obtain ⟨b0, hb0⟩ : ∃ y, y0 - d2 = y := ⟨_, rfl⟩
  obtain ⟨t0, ht0⟩ : ∃ y, y0 + h2 = y := ⟨_, rfl⟩
  have WM0 : IntKind.i64.wrap (p0 * 32768) = y0 := (wrap_i64 _ (by omega) (by omega)).trans (by omega)
  have WA0 : IntKind.i64.wrap (y0 - d2) = b0 := (wrap_i64 _ (by omega) (by omega)).trans hb0
  have WB0 : IntKind.i64.wrap (y0 + h2) = t0 := (wrap_i64 _ (by omega) (by omega)).trans ht0
  obtain ⟨y1, hy1⟩ : ∃ y, 32768 * p1 = y := ⟨_, rfl⟩
  obtain ⟨b1, hb1⟩ : ∃ y, y1 - d2 = y := ⟨_, rfl⟩
  obtain ⟨t1, ht1⟩ : ∃ y, y1 + h2 = y := ⟨_, rfl⟩
  have WM1 : IntKind.i64.wrap (p1 * 32768) = y1 := (wrap_i64 _ (by omega) (by omega)).trans (by omega)
  have WA1 : IntKind.i64.wrap (y1 - d2) = b1 := (wrap_i64 _ (by omega) (by omega)).trans hb1
  have WB1 : IntKind.i64.wrap (y1 + h2) = t1 := (wrap_i64 _ (by omega) (by omega)).trans ht1
  obtain ⟨y2, hy2⟩ : ∃ y, 32768 * p2 = y := ⟨_, rfl⟩
  obtain ⟨b2, hb2⟩ : ∃ y, y2 - d2 = y := ⟨_, rfl⟩
  obtain ⟨t2, ht2⟩ : ∃ y, y2 + h2 = y := ⟨_, rfl⟩
  have WM2 : IntKind.i64.wrap (p2 * 32768) = y2 := (wrap_i64 _ (by omega) (by omega)).trans (by omega)
  have WA2 : IntKind.i64.wrap (y2 - d2) = b2 := (wrap_i64 _ (by omega) (by omega)).trans hb2
  have WB2 : IntKind.i64.wrap (y2 + h2) = t2 := (wrap_i64 _ (by omega) (by omega)).trans ht2
  obtain ⟨y3, hy3⟩ : ∃ y, 32768 * p3 = y := ⟨_, rfl⟩
  obtain ⟨b3, hb3⟩ : ∃ y, y3 - d2 = y := ⟨_, rfl⟩
  obtain ⟨t3, ht3⟩ : ∃ y, y3 + h2 = y := ⟨_, rfl⟩
  have WM3 : IntKind.i64.wrap (p3 * 32768) = y3 := (wrap_i64 _ (by omega) (by omega)).trans (by omega)
  have WA3 : IntKind.i64.wrap (y3 - d2) = b3 := (wrap_i64 _ (by omega) (by omega)).trans hb3
  have WB3 : IntKind.i64.wrap (y3 + h2) = t3 := (wrap_i64 _ (by omega) (by omega)).trans ht3
  obtain ⟨y4, hy4⟩ : ∃ y, 32768 * p4 = y := ⟨_, rfl⟩
  obtain ⟨b4, hb4⟩ : ∃ y, y4 - d2 = y := ⟨_, rfl⟩
  obtain ⟨t4, ht4⟩ : ∃ y, y4 + h2 = y := ⟨_, rfl⟩
  have WM4 : IntKind.i64.wrap (p4 * 32768) = y4 := (wrap_i64 _ (by omega) (by omega)).trans (by omega)
  have WA4 : IntKind.i64.wrap (y4 - d2) = b4 := (wrap_i64 _ (by omega) (by omega)).trans hb4
  have WB4 : IntKind.i64.wrap (y4 + h2) = t4 := (wrap_i64 _ (by omega) (by omega)).trans ht4
  obtain ⟨y5, hy5⟩ : ∃ y, 32768 * p5 = y := ⟨_, rfl⟩
  obtain ⟨b5, hb5⟩ : ∃ y, y5 - d2 = y := ⟨_, rfl⟩
  obtain ⟨t5, ht5⟩ : ∃ y, y5 + h2 = y := ⟨_, rfl⟩
  have WM5 : IntKind.i64.wrap (p5 * 32768) = y5 := (wrap_i64 _ (by omega) (by omega)).trans (by omega)
  have WA5 : IntKind.i64.wrap (y5 - d2) = b5 := (wrap_i64 _ (by omega) (by omega)).trans hb5
  have WB5 : IntKind.i64.wrap (y5 + h2) = t5 := (wrap_i64 _ (by omega) (by omega)).trans ht5
  obtain ⟨box, hbox⟩ : ∃ B, [(b0, t0), (b1, t1), (b2, t2), (b3, t3), (b4, t4), (b5, t5)] = B := ⟨_, rfl⟩
  obtain ⟨at', hat⟩ : ∃ B, [p0, p1, p2, p3, p4, p5] = B := ⟨_, rfl⟩
  have hbl : box.length = 6 := by rw [← hbox]; rfl
  have hal : at'.length = 6 := by rw [← hat]; rfl
  have HVB : Hid (∀ q ∈ box, VB2 q) := Lib.hid (by
    intro q hq
    rw [← hbox] at hq
    simp only [List.mem_cons, List.not_mem_nil, or_false] at hq
    rcases hq with rfl | rfl | rfl | rfl | rfl | rfl
    · exact .inr ⟨by unfold Num; dsimp only; omega, by unfold Num; dsimp only; omega, by dsimp only; omega⟩
    · exact .inr ⟨by unfold Num; dsimp only; omega, by unfold Num; dsimp only; omega, by dsimp only; omega⟩
    · exact .inr ⟨by unfold Num; dsimp only; omega, by unfold Num; dsimp only; omega, by dsimp only; omega⟩
    · exact .inr ⟨by unfold Num; dsimp only; omega, by unfold Num; dsimp only; omega, by dsimp only; omega⟩
    · exact .inr ⟨by unfold Num; dsimp only; omega, by unfold Num; dsimp only; omega, by dsimp only; omega⟩
    · exact .inr ⟨by unfold Num; dsimp only; omega, by unfold Num; dsimp only; omega, by dsimp only; omega⟩)
  have HSB : Hid (SbL (ptB at') box) := Lib.hid (by
    rw [← hbox, ← hat]
    intro i
    match i with
    | 0 => exact ⟨show b0 ≤ 32768 * p0 by omega, show 32768 * p0 ≤ t0 by omega⟩
    | 1 => exact ⟨show b1 ≤ 32768 * p1 by omega, show 32768 * p1 ≤ t1 by omega⟩
    | 2 => exact ⟨show b2 ≤ 32768 * p2 by omega, show 32768 * p2 ≤ t2 by omega⟩
    | 3 => exact ⟨show b3 ≤ 32768 * p3 by omega, show 32768 * p3 ≤ t3 by omega⟩
    | 4 => exact ⟨show b4 ≤ 32768 * p4 by omega, show 32768 * p4 ≤ t4 by omega⟩
    | 5 => exact ⟨show b5 ≤ 32768 * p5 by omega, show 32768 * p5 ≤ t5 by omega⟩
    | i + 6 => exact ⟨Int.le_refl _, Int.le_refl _⟩)
  have hpp : ∀ k, -2 ≤ at'.getD k 0 ∧ at'.getD k 0 ≤ 2 := by
    rw [← hat]
    intro k
    match k with
    | 0 => exact hp0
    | 1 => exact hp1
    | 2 => exact hp2
    | 3 => exact hp3
    | 4 => exact hp4
    | 5 => exact hp5
    | k + 6 => exact ⟨by show (-2 : Int) ≤ 0; decide, by show (0 : Int) ≤ 2; decide⟩
  have hpm : ∀ x ∈ at', -2 ≤ x ∧ x ≤ 2 := by
    intro x hx
    rw [← hat] at hx
    simp only [List.mem_cons, List.not_mem_nil, or_false] at hx
    rcases hx with rfl | rfl | rfl | rfl | rfl | rfl
    · exact hp0
    · exact hp1
    · exact hp2
    · exact hp3
    · exact hp4
    · exact hp5
  have RE := Lib.hid (range_encl hpp ql.out)
  have EE := Lib.hid (eval_encl hal hpp HVB.out HSB.out ql.out)
  have HBOX := Lib.hid hbox
  have HAT := Lib.hid hat
  have HPM := Lib.hid hpm
  have HT3 := Lib.hid (below_then hT2 hbh)
  have HL3 := Lib.hid (HL.out.grow hbh)
  obtain ⟨i0, hi, hz0, hz1, hz2⟩ := info_parts info_iv
  have hB0 : Below w3.heap.size w3 ((w3.alloc (.cells #[] 33)).alloc (.cells #[.int .i64 p0, .int .i64 p1, .int .i64 p2, .int .i64 p3, .int .i64 p4, .int .i64 p5] 30)) := ((Below.refl _ _).alloc (Nat.le_refl _) _).alloc (by simp) _
  have HO1 := Lib.hid ((own_emptyI w3 (Nat.le_refl _)).alloc (.cells #[.int .i64 p0, .int .i64 p1, .int .i64 p2, .int .i64 p3, .int .i64 p4, .int .i64 p5] 30))
  have hN : ByN ((w3.alloc (.cells #[] 33)).alloc (.cells #[.int .i64 p0, .int .i64 p1, .int .i64 p2, .int .i64 p3, .int .i64 p4, .int .i64 p5] 30)) (w3.heap.size + 1) [p0, p1, p2, p3, p4, p5] := by
    have := World.alloc_heap_new (w3.alloc (.cells #[] 33)) (.cells #[.int .i64 p0, .int .i64 p1, .int .i64 p2, .int .i64 p3, .int .i64 p4, .int .i64 p5] 30)
    rw [World.size_alloc] at this
    exact this
  have HN := Lib.hid hN
  clear hp0 e0 hy0 hb0 ht0 hp1 e1 hy1 hb1 ht1 hp2 e2 hy2 hb2 ht2 hp3 e3 hy3 hb3 ht3 hp4 e4 hy4 hb4 ht4 hp5 e5 hy5 hb5 ht5 hbox hat hal hpp hpm hN hbh hT2 HL HSB
  go_wp2_with (fail)
  go_loopw [11, 12] (fun u i wr => ∃ (k g c : Nat), i = .int .i64 k ∧ k ≤ 6 ∧ u = .slice (some ⟨g, 0, none⟩) k c ∧ g ≠ w3.heap.size + 1 ∧ Hid (wr.ownsRow w3.heap.size 33 2 (.slice (some ⟨g, 0, none⟩) k c) k (cz (([(b0, t0), (b1, t1), (b2, t2), (b3, t3), (b4, t4), (b5, t5)] : List (Int × Int)).take k))) ∧ Hid (ByN wr (w3.heap.size + 1) [p0, p1, p2, p3, p4, p5]) ∧ Below w3.heap.size w3 wr) (fun _ i _ => 6 - (intOf i).toNat)
  case atStart => exact ⟨0, w3.heap.size, 0, rfl, by decide, rfl, by omega, HO1, HN, hB0⟩
  case round =>
    obtain ⟨k, g, c, rfl, hk, rfl, hne, HR, HQ, hB⟩ := hrel
    have hsz := hB.size
    have hG := (HR.out.lt g rfl).2
    have hQl := HQ.out.lt
    rcases (show k = 0 ∨ k = 1 ∨ k = 2 ∨ k = 3 ∨ k = 4 ∨ k = 5 ∨ k = 6 by omega) with rfl | rfl | rfl | rfl | rfl | rfl | rfl
    · have x0' : wr.cell? ⟨w3.heap.size + 1, 0, none⟩ = some (.int .i64 p0) := HQ.out.cell rfl
      have hrow := HR.out.alloc (.cells #[.int .i64 b0, .int .i64 t0] 33)
      have hB6 : Below w3.heap.size w3 (wr.alloc (.cells #[.int .i64 b0, .int .i64 t0] 33)) := hB.alloc hsz _
      go_wp2_with (at_builtin; refine wpList_append_own_at _ rfl (.tmp 34) (.tmp 46) 51 rfl w3.heap.size 33 i0 (.agg #[.int .i64 0, .int .i64 0]) 2 16 Try.underlying51 hi hz0 hz1 hz2 rfl (by decide) (.slice (some ⟨g, 0, none⟩) 0 c) 0 _ rfl hrow ⟨wr.heap.size, 0, none⟩ 1 1 [.int .i64 b0, .int .i64 t0] rfl rfl (two_new wr (.int .i64 b0) (.int .i64 t0) 33) (two_one _ _) (by unfold maxLen; omega) (by omega) (by simp; omega) ?_)
      intro v6 w6 hown6 hg6 _ hat6
      obtain ⟨g', c', rfl⟩ := ownsRow_succ hown6
      have hB7 : Below w3.heap.size w3 w6 := Below.grown hB6 hg6 (by simp; omega) (fun j hj => (hrow.lt j hj).1)
      have hQ2 : ByN w6 (w3.heap.size + 1) [p0, p1, p2, p3, p4, p5] := heap_grownT (b := g) hg6 (fun q => hne q.symm) ((Below.heap_alloc _ _ _ hQl).trans HQ.out)
      have hne' : g' ≠ w3.heap.size + 1 := by
        simp [Value.ownBlock] at hat6
        omega
      have HO6 : Hid (w6.ownsRow w3.heap.size 33 2 (.slice (some ⟨g', 0, none⟩) 1 c') 1 (cz (([(b0, t0), (b1, t1), (b2, t2), (b3, t3), (b4, t4), (b5, t5)] : List (Int × Int)).take 1))) := Lib.hid hown6
      have HQ6 := Lib.hid hQ2
      clear hown6 hg6 hat6 hrow hQ2 x0' hB6 HR HQ
      go_wp2_with (fail)
      exact ⟨⟨1, g', c', rfl, by decide, rfl, hne', HO6, HQ6, hB7⟩, by simp [intOf]⟩
    · have x0' : wr.cell? ⟨w3.heap.size + 1, 1, none⟩ = some (.int .i64 p1) := HQ.out.cell rfl
      have hrow := HR.out.alloc (.cells #[.int .i64 b1, .int .i64 t1] 33)
      have hB6 : Below w3.heap.size w3 (wr.alloc (.cells #[.int .i64 b1, .int .i64 t1] 33)) := hB.alloc hsz _
      go_wp2_with (at_builtin; refine wpList_append_own_at _ rfl (.tmp 34) (.tmp 46) 51 rfl w3.heap.size 33 i0 (.agg #[.int .i64 0, .int .i64 0]) 2 16 Try.underlying51 hi hz0 hz1 hz2 rfl (by decide) (.slice (some ⟨g, 0, none⟩) 1 c) 1 _ rfl hrow ⟨wr.heap.size, 0, none⟩ 1 1 [.int .i64 b1, .int .i64 t1] rfl rfl (two_new wr (.int .i64 b1) (.int .i64 t1) 33) (two_one _ _) (by unfold maxLen; omega) (by omega) (by simp; omega) ?_)
      intro v6 w6 hown6 hg6 _ hat6
      obtain ⟨g', c', rfl⟩ := ownsRow_succ hown6
      have hB7 : Below w3.heap.size w3 w6 := Below.grown hB6 hg6 (by simp; omega) (fun j hj => (hrow.lt j hj).1)
      have hQ2 : ByN w6 (w3.heap.size + 1) [p0, p1, p2, p3, p4, p5] := heap_grownT (b := g) hg6 (fun q => hne q.symm) ((Below.heap_alloc _ _ _ hQl).trans HQ.out)
      have hne' : g' ≠ w3.heap.size + 1 := by
        simp [Value.ownBlock] at hat6
        omega
      have HO6 : Hid (w6.ownsRow w3.heap.size 33 2 (.slice (some ⟨g', 0, none⟩) 2 c') 2 (cz (([(b0, t0), (b1, t1), (b2, t2), (b3, t3), (b4, t4), (b5, t5)] : List (Int × Int)).take 2))) := Lib.hid hown6
      have HQ6 := Lib.hid hQ2
      clear hown6 hg6 hat6 hrow hQ2 x0' hB6 HR HQ
      go_wp2_with (fail)
      exact ⟨⟨2, g', c', rfl, by decide, rfl, hne', HO6, HQ6, hB7⟩, by simp [intOf]⟩
    · have x0' : wr.cell? ⟨w3.heap.size + 1, 2, none⟩ = some (.int .i64 p2) := HQ.out.cell rfl
      have hrow := HR.out.alloc (.cells #[.int .i64 b2, .int .i64 t2] 33)
      have hB6 : Below w3.heap.size w3 (wr.alloc (.cells #[.int .i64 b2, .int .i64 t2] 33)) := hB.alloc hsz _
      go_wp2_with (at_builtin; refine wpList_append_own_at _ rfl (.tmp 34) (.tmp 46) 51 rfl w3.heap.size 33 i0 (.agg #[.int .i64 0, .int .i64 0]) 2 16 Try.underlying51 hi hz0 hz1 hz2 rfl (by decide) (.slice (some ⟨g, 0, none⟩) 2 c) 2 _ rfl hrow ⟨wr.heap.size, 0, none⟩ 1 1 [.int .i64 b2, .int .i64 t2] rfl rfl (two_new wr (.int .i64 b2) (.int .i64 t2) 33) (two_one _ _) (by unfold maxLen; omega) (by omega) (by simp; omega) ?_)
      intro v6 w6 hown6 hg6 _ hat6
      obtain ⟨g', c', rfl⟩ := ownsRow_succ hown6
      have hB7 : Below w3.heap.size w3 w6 := Below.grown hB6 hg6 (by simp; omega) (fun j hj => (hrow.lt j hj).1)
      have hQ2 : ByN w6 (w3.heap.size + 1) [p0, p1, p2, p3, p4, p5] := heap_grownT (b := g) hg6 (fun q => hne q.symm) ((Below.heap_alloc _ _ _ hQl).trans HQ.out)
      have hne' : g' ≠ w3.heap.size + 1 := by
        simp [Value.ownBlock] at hat6
        omega
      have HO6 : Hid (w6.ownsRow w3.heap.size 33 2 (.slice (some ⟨g', 0, none⟩) 3 c') 3 (cz (([(b0, t0), (b1, t1), (b2, t2), (b3, t3), (b4, t4), (b5, t5)] : List (Int × Int)).take 3))) := Lib.hid hown6
      have HQ6 := Lib.hid hQ2
      clear hown6 hg6 hat6 hrow hQ2 x0' hB6 HR HQ
      go_wp2_with (fail)
      exact ⟨⟨3, g', c', rfl, by decide, rfl, hne', HO6, HQ6, hB7⟩, by simp [intOf]⟩
    · have x0' : wr.cell? ⟨w3.heap.size + 1, 3, none⟩ = some (.int .i64 p3) := HQ.out.cell rfl
      have hrow := HR.out.alloc (.cells #[.int .i64 b3, .int .i64 t3] 33)
      have hB6 : Below w3.heap.size w3 (wr.alloc (.cells #[.int .i64 b3, .int .i64 t3] 33)) := hB.alloc hsz _
      go_wp2_with (at_builtin; refine wpList_append_own_at _ rfl (.tmp 34) (.tmp 46) 51 rfl w3.heap.size 33 i0 (.agg #[.int .i64 0, .int .i64 0]) 2 16 Try.underlying51 hi hz0 hz1 hz2 rfl (by decide) (.slice (some ⟨g, 0, none⟩) 3 c) 3 _ rfl hrow ⟨wr.heap.size, 0, none⟩ 1 1 [.int .i64 b3, .int .i64 t3] rfl rfl (two_new wr (.int .i64 b3) (.int .i64 t3) 33) (two_one _ _) (by unfold maxLen; omega) (by omega) (by simp; omega) ?_)
      intro v6 w6 hown6 hg6 _ hat6
      obtain ⟨g', c', rfl⟩ := ownsRow_succ hown6
      have hB7 : Below w3.heap.size w3 w6 := Below.grown hB6 hg6 (by simp; omega) (fun j hj => (hrow.lt j hj).1)
      have hQ2 : ByN w6 (w3.heap.size + 1) [p0, p1, p2, p3, p4, p5] := heap_grownT (b := g) hg6 (fun q => hne q.symm) ((Below.heap_alloc _ _ _ hQl).trans HQ.out)
      have hne' : g' ≠ w3.heap.size + 1 := by
        simp [Value.ownBlock] at hat6
        omega
      have HO6 : Hid (w6.ownsRow w3.heap.size 33 2 (.slice (some ⟨g', 0, none⟩) 4 c') 4 (cz (([(b0, t0), (b1, t1), (b2, t2), (b3, t3), (b4, t4), (b5, t5)] : List (Int × Int)).take 4))) := Lib.hid hown6
      have HQ6 := Lib.hid hQ2
      clear hown6 hg6 hat6 hrow hQ2 x0' hB6 HR HQ
      go_wp2_with (fail)
      exact ⟨⟨4, g', c', rfl, by decide, rfl, hne', HO6, HQ6, hB7⟩, by simp [intOf]⟩
    · have x0' : wr.cell? ⟨w3.heap.size + 1, 4, none⟩ = some (.int .i64 p4) := HQ.out.cell rfl
      have hrow := HR.out.alloc (.cells #[.int .i64 b4, .int .i64 t4] 33)
      have hB6 : Below w3.heap.size w3 (wr.alloc (.cells #[.int .i64 b4, .int .i64 t4] 33)) := hB.alloc hsz _
      go_wp2_with (at_builtin; refine wpList_append_own_at _ rfl (.tmp 34) (.tmp 46) 51 rfl w3.heap.size 33 i0 (.agg #[.int .i64 0, .int .i64 0]) 2 16 Try.underlying51 hi hz0 hz1 hz2 rfl (by decide) (.slice (some ⟨g, 0, none⟩) 4 c) 4 _ rfl hrow ⟨wr.heap.size, 0, none⟩ 1 1 [.int .i64 b4, .int .i64 t4] rfl rfl (two_new wr (.int .i64 b4) (.int .i64 t4) 33) (two_one _ _) (by unfold maxLen; omega) (by omega) (by simp; omega) ?_)
      intro v6 w6 hown6 hg6 _ hat6
      obtain ⟨g', c', rfl⟩ := ownsRow_succ hown6
      have hB7 : Below w3.heap.size w3 w6 := Below.grown hB6 hg6 (by simp; omega) (fun j hj => (hrow.lt j hj).1)
      have hQ2 : ByN w6 (w3.heap.size + 1) [p0, p1, p2, p3, p4, p5] := heap_grownT (b := g) hg6 (fun q => hne q.symm) ((Below.heap_alloc _ _ _ hQl).trans HQ.out)
      have hne' : g' ≠ w3.heap.size + 1 := by
        simp [Value.ownBlock] at hat6
        omega
      have HO6 : Hid (w6.ownsRow w3.heap.size 33 2 (.slice (some ⟨g', 0, none⟩) 5 c') 5 (cz (([(b0, t0), (b1, t1), (b2, t2), (b3, t3), (b4, t4), (b5, t5)] : List (Int × Int)).take 5))) := Lib.hid hown6
      have HQ6 := Lib.hid hQ2
      clear hown6 hg6 hat6 hrow hQ2 x0' hB6 HR HQ
      go_wp2_with (fail)
      exact ⟨⟨5, g', c', rfl, by decide, rfl, hne', HO6, HQ6, hB7⟩, by simp [intOf]⟩
    · have x0' : wr.cell? ⟨w3.heap.size + 1, 5, none⟩ = some (.int .i64 p5) := HQ.out.cell rfl
      have hrow := HR.out.alloc (.cells #[.int .i64 b5, .int .i64 t5] 33)
      have hB6 : Below w3.heap.size w3 (wr.alloc (.cells #[.int .i64 b5, .int .i64 t5] 33)) := hB.alloc hsz _
      go_wp2_with (at_builtin; refine wpList_append_own_at _ rfl (.tmp 34) (.tmp 46) 51 rfl w3.heap.size 33 i0 (.agg #[.int .i64 0, .int .i64 0]) 2 16 Try.underlying51 hi hz0 hz1 hz2 rfl (by decide) (.slice (some ⟨g, 0, none⟩) 5 c) 5 _ rfl hrow ⟨wr.heap.size, 0, none⟩ 1 1 [.int .i64 b5, .int .i64 t5] rfl rfl (two_new wr (.int .i64 b5) (.int .i64 t5) 33) (two_one _ _) (by unfold maxLen; omega) (by omega) (by simp; omega) ?_)
      intro v6 w6 hown6 hg6 _ hat6
      obtain ⟨g', c', rfl⟩ := ownsRow_succ hown6
      have hB7 : Below w3.heap.size w3 w6 := Below.grown hB6 hg6 (by simp; omega) (fun j hj => (hrow.lt j hj).1)
      have hQ2 : ByN w6 (w3.heap.size + 1) [p0, p1, p2, p3, p4, p5] := heap_grownT (b := g) hg6 (fun q => hne q.symm) ((Below.heap_alloc _ _ _ hQl).trans HQ.out)
      have hne' : g' ≠ w3.heap.size + 1 := by
        simp [Value.ownBlock] at hat6
        omega
      have HO6 : Hid (w6.ownsRow w3.heap.size 33 2 (.slice (some ⟨g', 0, none⟩) 6 c') 6 (cz (([(b0, t0), (b1, t1), (b2, t2), (b3, t3), (b4, t4), (b5, t5)] : List (Int × Int)).take 6))) := Lib.hid hown6
      have HQ6 := Lib.hid hQ2
      clear hown6 hg6 hat6 hrow hQ2 x0' hB6 HR HQ
      go_wp2_with (fail)
      exact ⟨⟨6, g', c', rfl, by decide, rfl, hne', HO6, HQ6, hB7⟩, by simp [intOf]⟩
    · have hfull : ([(b0, t0), (b1, t1), (b2, t2), (b3, t3), (b4, t4), (b5, t5)] : List (Int × Int)).take 6 = box := HBOX.out
      have hro := HR.out
      rw [hfull] at hro
      have hbx : Bx wr (.slice (some ⟨g, 0, none⟩) 6 c) box := Bx.own (by rw [hbl]; exact hro) (by rw [hbl]; decide)
      have BXw := Lib.hid hbx
      have TL := Lib.hid (fun t ht => (nl.out t ht).1)
      have HLr := Lib.hid (HL3.out.grow hB)
      have hTr := below_then HT3.out hB
      have z0 : wr.cell? ⟨w3.heap.size + 1, 0, none⟩ = some (.int .i64 p0) := HQ.out.cell rfl
      have z1 : wr.cell? ⟨w3.heap.size + 1, 1, none⟩ = some (.int .i64 p1) := HQ.out.cell rfl
      have z2 : wr.cell? ⟨w3.heap.size + 1, 2, none⟩ = some (.int .i64 p2) := HQ.out.cell rfl
      have z3 : wr.cell? ⟨w3.heap.size + 1, 3, none⟩ = some (.int .i64 p3) := HQ.out.cell rfl
      have z4 : wr.cell? ⟨w3.heap.size + 1, 4, none⟩ = some (.int .i64 p4) := HQ.out.cell rfl
      have z5 : wr.cell? ⟨w3.heap.size + 1, 5, none⟩ = some (.int .i64 p5) := HQ.out.cell rfl
      have V1 := Lib.hid (fun w h1 => value_ok (.slice pu l.length cu) l p0 p1 p2 p3 p4 p5 w h1 ql.out at' HAT.out HPM.out (by omega))
      have R1 := Lib.hid (fun w h1 => range_ok (.slice pu l.length cu) l w h1 nl.out (by omega))
      have E1 := Lib.hid (fun w h1 h2 => eval_ok (.slice pu l.length cu) (.slice (some ⟨g, 0, none⟩) 6 c) l box w h1 h2 TL.out HVB.out (by omega))
      have ONE : Hid (l.length = 1 → evalP [] l = newR (sumR l)) := Lib.hid (fun h => by
        obtain ⟨t, ht⟩ := List.length_eq_one_iff.1 h
        rw [ht]
        exact one_term (nl.out t (by rw [ht]; simp)))
      have re := RE.out
      have ee := EE.out
      have nb := newR_bd (sumR l)
      have eb := (evalP_vb box l).wide
      obtain ⟨V, hV⟩ : ∃ x, valS at' l = x := ⟨_, rfl⟩
      obtain ⟨⟨m0, m1⟩, hm⟩ : ∃ x, newR (sumR l) = x := ⟨_, rfl⟩
      obtain ⟨⟨e0, e1⟩, he⟩ : ∃ x, evalP box l = x := ⟨_, rfl⟩
      have ebd := vb_le (evalP_vb box l)
      rw [hm] at re nb R1 ONE
      rw [he] at ee eb E1 ebd
      rw [hV] at re ee V1
      dsimp only at re ee nb eb R1 E1 ebd
      unfold Bd31 at nb
      have RE1 := Lib.hid re
      have EE1 := Lib.hid ee
      have Wa : IntKind.i64.wrap (4096 * m0) = 4096 * m0 := wrap_i64 _ (by omega) (by omega)
      have Wb : IntKind.i64.wrap (4096 * m1) = 4096 * m1 := wrap_i64 _ (by omega) (by omega)
      have Wc : IntKind.i64.wrap (4096 * e0) = 4096 * e0 := wrap_i64 _ (by omega) (by omega)
      have Wd : IntKind.i64.wrap (4096 * e1) = 4096 * e1 := wrap_i64 _ (by omega) (by omega)
      clear re ee nb eb ebd hV hm he hro hfull hbx HR
      rw [show ((6 : Nat) : Int) = 6 from rfl]
      go_wp2_with (fail)
      refine (V1.out _ HLr.out).mono ?_
      rintro e y1 ⟨rfl, j1⟩
      clear z0 z1 z2 z3 z4 z5
      go_wp2_with (fail)
      refine (R1.out _ (HLr.out.grow j1)).mono ?_
      rintro e y2 ⟨rfl, j2⟩
      have j12 := j1.trans (j2.mono j1.size)
      clear j1 j2
      go_wp2_with (fail)
      refine (E1.out _ (HLr.out.grow j12) (BXw.out.grow j12)).mono ?_
      rintro e y3 ⟨rfl, j3⟩
      have j13 := j12.trans (j3.mono j12.size)
      have j14 : Below wr.heap.size wr ((y3.alloc (.cells #[.int .i64 m0, .int .i64 m1] 33)).alloc (.cells #[.int .i64 e0, .int .i64 e1] 33)) := (j13.alloc j13.size _).alloc (by have := j13.size; simp; omega) _
      have d15 : IvC ((y3.alloc (.cells #[.int .i64 m0, .int .i64 m1] 33)).alloc (.cells #[.int .i64 e0, .int .i64 e1] 33)) y3.heap.size (m0, m1) := (ivc_new y3 m0 m1).alloc _
      have d16 : IvC ((y3.alloc (.cells #[.int .i64 m0, .int .i64 m1] 33)).alloc (.cells #[.int .i64 e0, .int .i64 e1] 33)) (y3.heap.size + 1) (e0, e1) := by
        have := ivc_new (y3.alloc (.cells #[.int .i64 m0, .int .i64 m1] 33)) e0 e1
        rw [World.size_alloc] at this
        exact this
      have HLw := Lib.hid (HLr.out.grow j14)
      have HTw := Lib.hid (below_then hTr j14)
      clear j12 j3 j13 j14
      go_wp2_with (fail)
      generalize hWw : World.alloc (World.alloc y3 _) _ = Ww at *
      have D15 := Lib.hid d15
      have D16 := Lib.hid d16
      clear d15 d16 hWw
      by_cases hb : Ent m0 m1
      · have HB1 := Lib.hid hb
        have hcall := (by obtain ⟨rfl, rfl⟩ := hb; exact r2ent_yes : ∀ w, Calls Try.prog 14 #[.agg #[.int .i64 m0, .int .i64 m1]] w fun e w' => e = .returned (.bool true) ∧ Below w.heap.size w w')
        have HCB := Lib.hid hcall
        clear hb hcall
        refine (HCB.out _).mono ?_
        rintro e v1 ⟨rfl, i1⟩
        have s0 := (D15.out.grow i1).c0
        have s1 := (D15.out.grow i1).c1
        have s2 := (D16.out.grow i1).c0
        have s3 := (D16.out.grow i1).c1
        dsimp only at s0 s1 s2 s3
        by_cases he : Ent e0 e1
        · have hcall := (by obtain ⟨rfl, rfl⟩ := he; exact r2ent_yes : ∀ w, Calls Try.prog 14 #[.agg #[.int .i64 e0, .int .i64 e1]] w fun e w' => e = .returned (.bool true) ∧ Below w.heap.size w w')
          have HCE := Lib.hid hcall
          clear he hcall
          go_wp2_with (fail)
          refine (HCE.out _).mono ?_
          rintro e v2 ⟨rfl, i2⟩
          have s4 := (D16.out.grow (i1.trans (i2.mono i1.size))).c0
          have s5 := (D16.out.grow (i1.trans (i2.mono i1.size))).c1
          dsimp only at s4 s5
          have i12 := i1.trans (i2.mono i1.size)
          clear s0 s1 s2 s3 i1 i2
          go_wp2_with (fail)
          clear s4 s5
          have Dz := Lib.hid (D15.out.grow i12)
          have HLz := Lib.hid (HLw.out.grow i12)
          have hTz := Lib.hid (below_then HTw.out i12)
          obtain ⟨g0, hg0⟩ : ∃ g : Grown v2, v2 = g.w := ⟨⟨v2, Below.refl _ _⟩, rfl⟩
          have k0 := fun g : Grown v2 => (Dz.out.grow g.h).c0
          have k1 := fun g : Grown v2 => (Dz.out.grow g.h).c1
          dsimp only at k0 k1
          clear i12
          by_cases h1 : l.length = 1
          · have hd : ((l.length : Int) != 1) = false := by simp [h1]
            have K1 := Lib.hid (fun g : Grown v2 => eval_ok (.slice pu l.length cu) (.slice none 0 0) l [] g.w (HLz.out.grow g.h) Bx.nil TL.out (by simp) (by omega))
            rw [ONE.out h1] at K1
            have K2 := Lib.hid (fun g : Grown v2 => r2same_0 m0 m1 m0 m1 g.w (by simp) (by simp))
            clear h1
            rw [hg0]
            go_wp2_with (fail)
            refine region_quiet' g0 (by kernel_rfl) (by kernel_rfl) ?_
            repeat (go_big_quiet_step (first | exact qc (K1.out _) | exact qc (K2.out _)))
            refine wpQuiet_nil ?_
            rintro _ ⟨g5, rfl⟩
            go_wp2_with (fail)
            go_ret
            exact ⟨rfl, below_then hTz.out g5.h⟩
          · have hd : ((l.length : Int) != 1) = true := by simp; omega
            clear h1
            rw [hg0]
            go_wp2_with (fail)
            refine region_quiet' g0 (by kernel_rfl) (by kernel_rfl) ?_
            repeat (go_big_quiet_step (fail))
            refine wpQuiet_nil ?_
            rintro _ ⟨g5, rfl⟩
            go_wp2_with (fail)
            go_ret
            exact ⟨rfl, below_then hTz.out g5.h⟩
        · have HCE := Lib.hid (fun w => r2ent_no e0 e1 w he)
          have hin := EE1.out he
          have tc : decide (V < 4096 * e0) = false := by simp; omega
          have td : decide (4096 * e1 < V) = false := by simp; omega
          clear he hin
          go_wp2_with (fail)
          refine (HCE.out _).mono ?_
          rintro e v2 ⟨rfl, i2⟩
          have s4 := (D16.out.grow (i1.trans (i2.mono i1.size))).c0
          have s5 := (D16.out.grow (i1.trans (i2.mono i1.size))).c1
          dsimp only at s4 s5
          have i12 := i1.trans (i2.mono i1.size)
          clear s0 s1 s2 s3 i1 i2
          go_wp2_with (fail)
          clear s4 s5
          have Dz := Lib.hid (D15.out.grow i12)
          have HLz := Lib.hid (HLw.out.grow i12)
          have hTz := Lib.hid (below_then HTw.out i12)
          obtain ⟨g0, hg0⟩ : ∃ g : Grown v2, v2 = g.w := ⟨⟨v2, Below.refl _ _⟩, rfl⟩
          have k0 := fun g : Grown v2 => (Dz.out.grow g.h).c0
          have k1 := fun g : Grown v2 => (Dz.out.grow g.h).c1
          dsimp only at k0 k1
          clear i12
          by_cases h1 : l.length = 1
          · have hd : ((l.length : Int) != 1) = false := by simp [h1]
            have K1 := Lib.hid (fun g : Grown v2 => eval_ok (.slice pu l.length cu) (.slice none 0 0) l [] g.w (HLz.out.grow g.h) Bx.nil TL.out (by simp) (by omega))
            rw [ONE.out h1] at K1
            have K2 := Lib.hid (fun g : Grown v2 => r2same_0 m0 m1 m0 m1 g.w (by simp) (by simp))
            clear h1
            rw [hg0]
            go_wp2_with (fail)
            refine region_quiet' g0 (by kernel_rfl) (by kernel_rfl) ?_
            repeat (go_big_quiet_step (first | exact qc (K1.out _) | exact qc (K2.out _)))
            refine wpQuiet_nil ?_
            rintro _ ⟨g5, rfl⟩
            go_wp2_with (fail)
            go_ret
            exact ⟨rfl, below_then hTz.out g5.h⟩
          · have hd : ((l.length : Int) != 1) = true := by simp; omega
            clear h1
            rw [hg0]
            go_wp2_with (fail)
            refine region_quiet' g0 (by kernel_rfl) (by kernel_rfl) ?_
            repeat (go_big_quiet_step (fail))
            refine wpQuiet_nil ?_
            rintro _ ⟨g5, rfl⟩
            go_wp2_with (fail)
            go_ret
            exact ⟨rfl, below_then hTz.out g5.h⟩
      · have HCB := Lib.hid (fun w => r2ent_no m0 m1 w hb)
        have hin := RE1.out hb
        have ta : decide (V < 4096 * m0) = false := by simp; omega
        have tb : decide (4096 * m1 < V) = false := by simp; omega
        clear hb hin
        refine (HCB.out _).mono ?_
        rintro e v1 ⟨rfl, i1⟩
        have s0 := (D15.out.grow i1).c0
        have s1 := (D15.out.grow i1).c1
        have s2 := (D16.out.grow i1).c0
        have s3 := (D16.out.grow i1).c1
        dsimp only at s0 s1 s2 s3
        by_cases he : Ent e0 e1
        · have hcall := (by obtain ⟨rfl, rfl⟩ := he; exact r2ent_yes : ∀ w, Calls Try.prog 14 #[.agg #[.int .i64 e0, .int .i64 e1]] w fun e w' => e = .returned (.bool true) ∧ Below w.heap.size w w')
          have HCE := Lib.hid hcall
          clear he hcall
          go_wp2_with (fail)
          refine (HCE.out _).mono ?_
          rintro e v2 ⟨rfl, i2⟩
          have s4 := (D16.out.grow (i1.trans (i2.mono i1.size))).c0
          have s5 := (D16.out.grow (i1.trans (i2.mono i1.size))).c1
          dsimp only at s4 s5
          have i12 := i1.trans (i2.mono i1.size)
          clear s0 s1 s2 s3 i1 i2
          go_wp2_with (fail)
          clear s4 s5
          have Dz := Lib.hid (D15.out.grow i12)
          have HLz := Lib.hid (HLw.out.grow i12)
          have hTz := Lib.hid (below_then HTw.out i12)
          obtain ⟨g0, hg0⟩ : ∃ g : Grown v2, v2 = g.w := ⟨⟨v2, Below.refl _ _⟩, rfl⟩
          have k0 := fun g : Grown v2 => (Dz.out.grow g.h).c0
          have k1 := fun g : Grown v2 => (Dz.out.grow g.h).c1
          dsimp only at k0 k1
          clear i12
          by_cases h1 : l.length = 1
          · have hd : ((l.length : Int) != 1) = false := by simp [h1]
            have K1 := Lib.hid (fun g : Grown v2 => eval_ok (.slice pu l.length cu) (.slice none 0 0) l [] g.w (HLz.out.grow g.h) Bx.nil TL.out (by simp) (by omega))
            rw [ONE.out h1] at K1
            have K2 := Lib.hid (fun g : Grown v2 => r2same_0 m0 m1 m0 m1 g.w (by simp) (by simp))
            clear h1
            rw [hg0]
            go_wp2_with (fail)
            refine region_quiet' g0 (by kernel_rfl) (by kernel_rfl) ?_
            repeat (go_big_quiet_step (first | exact qc (K1.out _) | exact qc (K2.out _)))
            refine wpQuiet_nil ?_
            rintro _ ⟨g5, rfl⟩
            go_wp2_with (fail)
            go_ret
            exact ⟨rfl, below_then hTz.out g5.h⟩
          · have hd : ((l.length : Int) != 1) = true := by simp; omega
            clear h1
            rw [hg0]
            go_wp2_with (fail)
            refine region_quiet' g0 (by kernel_rfl) (by kernel_rfl) ?_
            repeat (go_big_quiet_step (fail))
            refine wpQuiet_nil ?_
            rintro _ ⟨g5, rfl⟩
            go_wp2_with (fail)
            go_ret
            exact ⟨rfl, below_then hTz.out g5.h⟩
        · have HCE := Lib.hid (fun w => r2ent_no e0 e1 w he)
          have hin := EE1.out he
          have tc : decide (V < 4096 * e0) = false := by simp; omega
          have td : decide (4096 * e1 < V) = false := by simp; omega
          clear he hin
          go_wp2_with (fail)
          refine (HCE.out _).mono ?_
          rintro e v2 ⟨rfl, i2⟩
          have s4 := (D16.out.grow (i1.trans (i2.mono i1.size))).c0
          have s5 := (D16.out.grow (i1.trans (i2.mono i1.size))).c1
          dsimp only at s4 s5
          have i12 := i1.trans (i2.mono i1.size)
          clear s0 s1 s2 s3 i1 i2
          go_wp2_with (fail)
          clear s4 s5
          have Dz := Lib.hid (D15.out.grow i12)
          have HLz := Lib.hid (HLw.out.grow i12)
          have hTz := Lib.hid (below_then HTw.out i12)
          obtain ⟨g0, hg0⟩ : ∃ g : Grown v2, v2 = g.w := ⟨⟨v2, Below.refl _ _⟩, rfl⟩
          have k0 := fun g : Grown v2 => (Dz.out.grow g.h).c0
          have k1 := fun g : Grown v2 => (Dz.out.grow g.h).c1
          dsimp only at k0 k1
          clear i12
          by_cases h1 : l.length = 1
          · have hd : ((l.length : Int) != 1) = false := by simp [h1]
            have K1 := Lib.hid (fun g : Grown v2 => eval_ok (.slice pu l.length cu) (.slice none 0 0) l [] g.w (HLz.out.grow g.h) Bx.nil TL.out (by simp) (by omega))
            rw [ONE.out h1] at K1
            have K2 := Lib.hid (fun g : Grown v2 => r2same_0 m0 m1 m0 m1 g.w (by simp) (by simp))
            clear h1
            rw [hg0]
            go_wp2_with (fail)
            refine region_quiet' g0 (by kernel_rfl) (by kernel_rfl) ?_
            repeat (go_big_quiet_step (first | exact qc (K1.out _) | exact qc (K2.out _)))
            refine wpQuiet_nil ?_
            rintro _ ⟨g5, rfl⟩
            go_wp2_with (fail)
            go_ret
            exact ⟨rfl, below_then hTz.out g5.h⟩
          · have hd : ((l.length : Int) != 1) = true := by simp; omega
            clear h1
            rw [hg0]
            go_wp2_with (fail)
            refine region_quiet' g0 (by kernel_rfl) (by kernel_rfl) ?_
            repeat (go_big_quiet_step (fail))
            refine wpQuiet_nil ?_
            rintro _ ⟨g5, rfl⟩
            go_wp2_with (fail)
            go_ret
            exact ⟨rfl, below_then hTz.out g5.h⟩
end Go.Proofs.Ytcamjoddaeefdaa
