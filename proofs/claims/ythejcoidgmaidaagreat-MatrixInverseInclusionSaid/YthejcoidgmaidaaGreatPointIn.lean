/-
  The reference's PointIn: what it needs.
-/
import Derived.Test.YthejcoidgmaidaaGreatPredIn
import Derived.Test.YthejcoidgmaidaaGreatMap
import Derived.Test.YthejcoidgmaidaaGreatR1
import Derived.Test.YthejcoidgmaidaaGreatPredK
namespace Go.Proofs.YthejcoidgmaidaaGreat
open Go.ChangeShapes Go.WideShapes Go.ChangeAt Go.RowKit
set_option linter.unusedVariables false
set_option linter.unusedSimpArgs false
set_option maxRecDepth 100000

attribute [local irreducible] Calls
theorem point_in_bd (x y q : Int) (h : x ≤ y) (hx : -2147483648 < x) (hy : y < 2147483648) (q0 : 0 ≤ q) (q1 : q ≤ 65535) :
    0 ≤ (y - x) * q ∧ (y - x) * q ≤ 281474976710656 ∧ 0 ≤ (y - x) * q / 65535 ∧ (y - x) * q / 65535 ≤ y - x := by
  have h0 : 0 ≤ y - x := by omega
  have h1 : 0 ≤ (y - x) * q := Int.mul_nonneg h0 q0
  have h2 : (y - x) * q ≤ (y - x) * 65535 := Int.mul_le_mul_of_nonneg_left q1 h0
  refine ⟨h1, by omega, by omega, by omega⟩
/-- A slice of small numbers. -/
def Us (w : World) (v : Value) (l : List Int) : Prop := l.length ≤ maxLen ∧ ∃ p cap, v = .slice p l.length cap ∧
  ∀ k x, l[k]? = some x → ∃ b o, p = some ⟨b, o, none⟩ ∧ b < w.heap.size ∧ w.cell? ⟨b, o + k, none⟩ = some (.int .u16 x)
theorem Us.grow {w w' : World} {v : Value} {l : List Int} (h : Us w v l) (hb : Below w.heap.size w w') : Us w' v l := by
  obtain ⟨h1, p, c, rfl, h2⟩ := h
  refine ⟨h1, p, c, rfl, fun k x hx => ?_⟩
  obtain ⟨b, o, e, hb', hc⟩ := h2 k x hx
  exact ⟨b, o, e, Nat.lt_of_lt_of_le hb' hb.size, (hb.cell (p := ⟨b, o + k, none⟩) hb').trans hc⟩
def OwnJ (B : Nat) (w : World) (v : Value) (l : List Int) : Prop := ∃ g cap, v = .slice (some ⟨g, 0, none⟩) l.length cap ∧ w.ownsRow B 2 1 v l.length (cy l)
theorem wrap_ok (n : Int) (h1 : -9223372036854775808 ≤ n) (h2 : n ≤ 9223372036854775807) : IntKind.i64.wrap n = n := by
  unfold IntKind.wrap
  simp [IntKind.signed, IntKind.bits]
  omega
theorem cell_one {w : World} {X : Nat} {u : Value} {t : TypeId} (h : w.heap[X]? = some (.cells #[u] t (0, 0))) : ∀ j x, [u][j]? = some x → w.cell? ((⟨X, 0, none⟩ : Addr).add j) = some x := by
  intro j x hj
  match j, hj with
  | 0, hj =>
    simp at hj
    subst hj
    simp [Addr.add, World.cell?, h]
theorem one_i64 (n : Int) : ∀ u ∈ [Value.int .i64 n], u.oneCell' = true := by
  intro u hu
  simp at hu
  subst hu
  rfl

section
variable (wr2 : World) (b o c g cap : Nat) (l : List (Int × Int)) (m : List Int) (x y q : Int)
def phiP : Tmp → Value → World → Prop := lk [(33, fun u _ => u = .slice (some ⟨g, 0, none⟩) m.length cap), (34, fun u _ => u = .slice (some ⟨b, o, none⟩) l.length c), (35, fun u _ => u = .int .i64 (m.length : Int)), (36, fun u _ => u = .pointer (some ⟨b, o + m.length * 2, none⟩)), (37, fun u _ => u = .pointer (some ⟨b, o + m.length * 2, none⟩)), (38, fun u _ => u = .int .i64 x), (39, fun u _ => u = .slice (some ⟨b, o, none⟩) l.length c), (40, fun u _ => u = .int .i64 (m.length : Int)), (41, fun u _ => u = .pointer (some ⟨b, o + m.length * 2, none⟩)), (42, fun u _ => u = .pointer (some ⟨b, o + m.length * 2 + 1, none⟩)), (43, fun u _ => u = .int .i64 y), (44, fun u _ => u = .slice (some ⟨b, o, none⟩) l.length c), (45, fun u _ => u = .int .i64 (m.length : Int)), (46, fun u _ => u = .pointer (some ⟨b, o + m.length * 2, none⟩)), (47, fun u _ => u = .pointer (some ⟨b, o + m.length * 2, none⟩)), (48, fun u _ => u = .int .i64 x), (49, fun u _ => u = .int .i64 (y - x)), (50, fun u _ => u = .int .i64 q), (51, fun u _ => u = .int .i64 ((y - x) * q)), (52, fun u _ => u = .int .i64 ((y - x) * q / 65535)), (53, fun u _ => u = .int .i64 (x + (y - x) * q / 65535)), (54, fun u w' => ∃ X, u = .slice (some ⟨X, 0, none⟩) 1 1 ∧ wr2.heap.size ≤ X ∧ w'.heap[X]? = some (.cells #[.int .i64 (x + (y - x) * q / 65535)] 2 (0, 0)))]
theorem phiP_steady : ∀ t v w1 w2, Below w1.heap.size w1 w2 → phiP wr2 b o c g cap l m x y q t v w1 → phiP wr2 b o c g cap l m x y q t v w2 := lk_steady _ ⟨steady_eq _, steady_eq _, steady_eq _, steady_eq _, steady_eq _, steady_eq _, steady_eq _, steady_eq _, steady_eq _, steady_eq _, steady_eq _, steady_eq _, steady_eq _, steady_eq _, steady_eq _, steady_eq _, steady_eq _, steady_eq _, steady_eq _, steady_eq _, steady_eq _, fun u w1 w2 hb ⟨X, h1, h2, h3⟩ => ⟨X, h1, h2, (hb.block X (Array.getElem?_eq_some_iff.1 h3).1).trans h3⟩, trivial⟩
end

theorem cy_snoc (l : List Int) (x : Int) : cy (l ++ [x]) = cy l ++ [.int .i64 x] := by rw [cy_app]; rfl
theorem q_num {q : Int} (h : 0 ≤ q) (g : q ≤ 65535) : Num q := by unfold Num; omega
theorem fin_bd {x y : Int} (h : VB (x, y)) (g : ¬ Ent x y) : -2147483648 < x ∧ y < 2147483648 ∧ x ≤ y := by
  have h : VI x y := h
  unfold VI Ent Num at *
  omega
theorem num_snoc {m : List Int} {x : Int} (h : ∀ z ∈ m, Num z) (hx : Num x) : ∀ z ∈ m ++ [x], Num z := by
  intro z hz
  rcases List.mem_append.1 hz with h' | h'
  · exact h z h'
  · rw [List.mem_singleton.1 h']; exact hx
theorem con_snoc {l : List (Int × Int)} {m : List Int} {p : Int × Int} {x : Int} (h : ((l.take m.length).zip m).all con1 = true) (hp : l[m.length]? = some p) (hx : con1 (p, x) = true) :
    ((l.take (m ++ [x]).length).zip (m ++ [x])).all con1 = true := by
  have hlt := (List.getElem?_eq_some_iff.1 hp).1
  rw [List.length_append, List.length_singleton, List.take_add_one, hp, List.zip_append (by rw [List.length_take]; omega), List.all_append, h]
  simpa using hx

set_option maxHeartbeats 8000000 in
theorem r3point (vb vl : Value) (l : List (Int × Int)) (f : List Int) (w : World) (hv : Bx w vb l) (hf : Us w vl f) (hsm : l.length ≤ 1000) (hV : ∀ p ∈ l, VB p) (hq : ∀ x ∈ f, 0 ≤ x ∧ x ≤ 65535) :
    Calls Tryz.prog 31 #[vb, vl] w fun e w' => ∃ u m, e = .returned u ∧ m.length = l.length ∧ (l.zip m).all con1 = true ∧ (∀ x ∈ m, Num x) ∧ Pt w' u m ∧ Below w.heap.size w w' := by
  obtain ⟨hl, p, c, rfl, hp⟩ := hv
  obtain ⟨hlf, p', c', rfl, hp'⟩ := hf
  unfold maxLen at hl hlf
  obtain ⟨i0, hi, hz0, hz1, hz2⟩ := info_parts info_i64
  have HV := Lib.hid hV
  have HQ := Lib.hid hq
  clear hV hq
  go_enter Tryz.func31, Tryz.ntmps31
  go_wp2_with (fail)
  go_loopw [5, 6, 7] (fun u i _ wr => ∃ m : List Int, i = .int .i64 m.length ∧ m.length ≤ l.length ∧ Hid (((l.take m.length).zip m).all con1 = true) ∧ Hid (∀ z ∈ m, Num z) ∧ OwnJ w.heap.size wr u m ∧ Below w.heap.size w wr) (fun _ i _ _ => l.length - (intOf i).toNat)
  case atStart => exact ⟨[], rfl, Nat.zero_le _, Lib.hid (by simp), Lib.hid (by simp), ⟨w.heap.size, 0, rfl, by simpa [cy] using World.ownsRow_made (e := 2) (size := 1) w #[] 0 (Nat.le_refl _) (by decide) rfl⟩, (Below.refl _ _).alloc (Nat.le_refl _) _⟩
  case round =>
    obtain ⟨m, rfl, hm, HC, HN, ⟨g, cap, rfl, hown⟩, hB⟩ := hrel
    have hsz := hB.size
    by_cases hlt : m.length < l.length
    · have hlk : (m.length : Int) < l.length := by omega
      obtain ⟨b, o, x, y, rfl, hx, hbb, c1, c2⟩ := Bx.at (c := 0) (n := 0) hp hlt hB
      have hbw : b < wr.heap.size := Nat.lt_of_lt_of_le hbb hB.size
      have HX := Lib.hid hx
      clear hp hx
      by_cases hk : m.length < f.length
      · have hkf : (m.length : Int) < f.length := by omega
        obtain ⟨b', o', e, hb', hc'⟩ := hp' m.length f[m.length] (List.getElem?_eq_getElem hk)
        have hc2 := (hB.cell (p := ⟨b', o' + m.length, none⟩) hb').trans hc'
        have hq := HQ.out _ (List.getElem_mem hk)
        subst e
        generalize f[m.length] = q at *
        obtain ⟨q0, q1⟩ := hq
        clear hp' hc'
        by_cases hE : Ent x y
        · have EC : con1 ((x, y), q) = true := by simp [con1, hE]
          obtain ⟨rfl, rfl⟩ := hE
          go_wp2_with (fail)
          refine (r2ent_yes _).mono ?_
          rintro e wr2 ⟨rfl, hB2⟩
          have hrow2 := hown.kept (grown_below hB2) (.inr (by simp [Value.ownBlock]))
          have hgw := (hown.lt g rfl).2
          have hB7 : Below w.heap.size w wr2 := hB.trans (hB2.mono hB.size)
          have hg5 : w.heap.size ≤ wr2.heap.size := hB7.size
          go_wp2_with (at_builtin; refine wpList_append_own _ rfl (.tmp 29) (.tmp 31) 26 rfl w.heap.size 2 i0 (.int .i64 0) 1 8 Tryz.underlying26 hi hz0 hz1 hz2 rfl (by decide) (.slice (some ⟨g, 0, none⟩) m.length cap) m.length _ rfl (hrow2.alloc _) ⟨wr2.heap.size, 0, none⟩ 1 1 [.int .i64 q] rfl rfl (new_one _ _ _) (one_i64 _) (by unfold maxLen; omega) (by omega) (by first | omega | (simp; omega)) ?_)
          have hB8 := hB7.alloc hg5 (.cells #[.int .i64 q] 2)
          intro v' w6 hown' hgrow _
          obtain ⟨g', cap', rfl⟩ := ownsRow_succ hown'
          have hB9 : Below w.heap.size w w6 := Below.grown hB8 hgrow (by first | omega | (simp; omega)) (fun k hk => (hown.lt k hk).1)
          rw [← cy_snoc] at hown'
          have HO := Lib.hid hown'
          clear hown' hgrow
          go_wp2_with (fail)
          go_roundw
          case rel =>
            exact ⟨m ++ [q], by simp, by simp; omega, Lib.hid (con_snoc HC.out HX.out (EC)), Lib.hid (num_snoc HN.out (q_num q0 q1)), ⟨g', cap', by simp, by simpa using HO.out⟩, hB9⟩
          case measure => simp [intOf]; omega
        · have hV := HV.out _ (List.mem_of_getElem? HX.out)
          have hb4 := fin_bd hV hE
          have hpb := point_in_bd x y q hb4.2.2 hb4.1 hb4.2.1 q0 q1
          have F1 : 0 ≤ y - x ∧ y - x ≤ 4294967296 := by omega
          have F2 : 0 ≤ (y - x) * q ∧ (y - x) * q ≤ 281474976710656 := ⟨hpb.1, hpb.2.1⟩
          have F3 : 0 ≤ (y - x) * q / 65535 ∧ (y - x) * q / 65535 ≤ 4294967296 := by omega
          have F4 : -2147483648 ≤ x + (y - x) * q / 65535 ∧ x + (y - x) * q / 65535 ≤ 2147483648 := by omega
          have W1 := wrap_ok (y - x) (by omega) (by omega)
          have W2 := wrap_ok ((y - x) * q) (by omega) (by omega)
          have W3 := wrap_ok ((y - x) * q / 65535) (by omega) (by omega)
          have W4 := wrap_ok (x + (y - x) * q / 65535) (by omega) (by omega)
          have WZ := wrap_ok 0 (by decide) (by decide)
          have WX := wrap_ok x (by omega) (by omega)
          have W5 := Int.tdiv_eq_ediv_of_nonneg (b := 65535) F2.1
          have FC : con1 ((x, y), x + (y - x) * q / 65535) = true := by
            have a1 : x ≤ x + (y - x) * q / 65535 := by omega
            have a2 : x + (y - x) * q / 65535 ≤ y := by omega
            simp only [con1, a1, a2, decide_true, Bool.and_self, Bool.or_true]
          have FNUM : Num (x + (y - x) * q / 65535) := by unfold Num; omega
          have HFC := Lib.hid FC
          have HFN := Lib.hid FNUM
          have HHE := Lib.hid hE
          clear FC FNUM hpb hV hE
          go_wp2_with (fail)
          refine (r2ent_no x y _ HHE.out).mono ?_
          rintro e wr2 ⟨rfl, hB2⟩
          have hbw2 : b < wr2.heap.size := Nat.lt_of_lt_of_le hbw hB2.size
          have d1 := (hB2.cell (p := ⟨b, o + m.length * 2, none⟩) hbw).trans c1
          have d2 := (hB2.cell (p := ⟨b, o + m.length * 2 + 1, none⟩) hbw).trans c2
          go_wp2_with (fail)
          refine region_pred_n 22 (phiP wr2 b o c g cap l m x y q) (by kernel_rfl) (by kernel_rfl) (phiP_steady wr2 b o c g cap l m x y q) ?_ ?_
          · refine ⟨?_, ?_, ?_, ?_, ?_, ?_, ?_, ?_, ?_, ?_, ?_, ?_, ?_, ?_, ?_, ?_, ?_, ?_, ?_, ?_, ?_, ?_, trivial⟩
            · refine ob_plain [5] rfl rfl fun aa gg h => ?_
              have r0 := seen_out (v := .slice (some ⟨g, 0, none⟩) m.length cap) rfl rfl h.1
              have e0 := getD_of r0
              exact upon_value (v := .slice (some ⟨g, 0, none⟩) m.length cap) (by simp [go_sem, e0, r0]) (Below.refl _ _) rfl
            · refine ob_plain [0] rfl rfl fun aa gg h => ?_
              have r0 := seen_out (v := .slice (some ⟨b, o, none⟩) l.length c) rfl rfl h.1
              have e0 := getD_of r0
              exact upon_value (v := .slice (some ⟨b, o, none⟩) l.length c) (by simp [go_sem, e0, r0]) (Below.refl _ _) rfl
            · refine ob_plain [6] rfl rfl fun aa gg h => ?_
              have r0 := seen_out (v := .int .i64 (m.length : Int)) rfl rfl h.1
              have e0 := getD_of r0
              exact upon_value (v := .int .i64 (m.length : Int)) (by simp [go_sem, e0, r0]) (Below.refl _ _) rfl
            · refine ob_plain [34, 35] rfl rfl fun aa gg h => ?_
              obtain ⟨_, r0, rfl⟩ := seen_in rfl h.1
              have e0 := getD_of r0
              obtain ⟨_, r1, rfl⟩ := seen_in rfl h.2.1
              have e1 := getD_of r1
              exact upon_value (v := .pointer (some ⟨b, o + m.length * 2, none⟩)) (by simp [go_sem, e0, r0, e1, r1, hlk]) (Below.refl _ _) rfl
            · refine ob_plain [36] rfl rfl fun aa gg h => ?_
              obtain ⟨_, r0, rfl⟩ := seen_in rfl h.1
              have e0 := getD_of r0
              exact upon_value (v := .pointer (some ⟨b, o + m.length * 2, none⟩)) (by simp [go_sem, e0, r0]) (Below.refl _ _) rfl
            · refine ob_plain [37] rfl rfl fun aa gg h => ?_
              obtain ⟨_, r0, rfl⟩ := seen_in rfl h.1
              have e0 := getD_of r0
              have hc := (gg.cell hbw2).trans d1
              exact upon_value (v := .int .i64 x) (by simp [go_sem, e0, r0, hc]) (Below.refl _ _) rfl
            · refine ob_plain [0] rfl rfl fun aa gg h => ?_
              have r0 := seen_out (v := .slice (some ⟨b, o, none⟩) l.length c) rfl rfl h.1
              have e0 := getD_of r0
              exact upon_value (v := .slice (some ⟨b, o, none⟩) l.length c) (by simp [go_sem, e0, r0]) (Below.refl _ _) rfl
            · refine ob_plain [6] rfl rfl fun aa gg h => ?_
              have r0 := seen_out (v := .int .i64 (m.length : Int)) rfl rfl h.1
              have e0 := getD_of r0
              exact upon_value (v := .int .i64 (m.length : Int)) (by simp [go_sem, e0, r0]) (Below.refl _ _) rfl
            · refine ob_plain [39, 40] rfl rfl fun aa gg h => ?_
              obtain ⟨_, r0, rfl⟩ := seen_in rfl h.1
              have e0 := getD_of r0
              obtain ⟨_, r1, rfl⟩ := seen_in rfl h.2.1
              have e1 := getD_of r1
              exact upon_value (v := .pointer (some ⟨b, o + m.length * 2, none⟩)) (by simp [go_sem, e0, r0, e1, r1, hlk]) (Below.refl _ _) rfl
            · refine ob_plain [41] rfl rfl fun aa gg h => ?_
              obtain ⟨_, r0, rfl⟩ := seen_in rfl h.1
              have e0 := getD_of r0
              exact upon_value (v := .pointer (some ⟨b, o + m.length * 2 + 1, none⟩)) (by simp [go_sem, e0, r0]) (Below.refl _ _) rfl
            · refine ob_plain [42] rfl rfl fun aa gg h => ?_
              obtain ⟨_, r0, rfl⟩ := seen_in rfl h.1
              have e0 := getD_of r0
              have hc := (gg.cell hbw2).trans d2
              exact upon_value (v := .int .i64 y) (by simp [go_sem, e0, r0, hc]) (Below.refl _ _) rfl
            · refine ob_plain [0] rfl rfl fun aa gg h => ?_
              have r0 := seen_out (v := .slice (some ⟨b, o, none⟩) l.length c) rfl rfl h.1
              have e0 := getD_of r0
              exact upon_value (v := .slice (some ⟨b, o, none⟩) l.length c) (by simp [go_sem, e0, r0]) (Below.refl _ _) rfl
            · refine ob_plain [6] rfl rfl fun aa gg h => ?_
              have r0 := seen_out (v := .int .i64 (m.length : Int)) rfl rfl h.1
              have e0 := getD_of r0
              exact upon_value (v := .int .i64 (m.length : Int)) (by simp [go_sem, e0, r0]) (Below.refl _ _) rfl
            · refine ob_plain [44, 45] rfl rfl fun aa gg h => ?_
              obtain ⟨_, r0, rfl⟩ := seen_in rfl h.1
              have e0 := getD_of r0
              obtain ⟨_, r1, rfl⟩ := seen_in rfl h.2.1
              have e1 := getD_of r1
              exact upon_value (v := .pointer (some ⟨b, o + m.length * 2, none⟩)) (by simp [go_sem, e0, r0, e1, r1, hlk]) (Below.refl _ _) rfl
            · refine ob_plain [46] rfl rfl fun aa gg h => ?_
              obtain ⟨_, r0, rfl⟩ := seen_in rfl h.1
              have e0 := getD_of r0
              exact upon_value (v := .pointer (some ⟨b, o + m.length * 2, none⟩)) (by simp [go_sem, e0, r0]) (Below.refl _ _) rfl
            · refine ob_plain [47] rfl rfl fun aa gg h => ?_
              obtain ⟨_, r0, rfl⟩ := seen_in rfl h.1
              have e0 := getD_of r0
              have hc := (gg.cell hbw2).trans d1
              exact upon_value (v := .int .i64 x) (by simp [go_sem, e0, r0, hc]) (Below.refl _ _) rfl
            · refine ob_plain [43, 48] rfl rfl fun aa gg h => ?_
              obtain ⟨_, r0, rfl⟩ := seen_in rfl h.1
              have e0 := getD_of r0
              obtain ⟨_, r1, rfl⟩ := seen_in rfl h.2.1
              have e1 := getD_of r1
              exact upon_value (v := .int .i64 (y - x)) (by simp [go_sem, e0, r0, e1, r1, W1, W2, W3, W4, W5, WZ, WX]) (Below.refl _ _) rfl
            · refine ob_plain [7] rfl rfl fun aa gg h => ?_
              have r0 := seen_out (v := .int .i64 q) rfl rfl h.1
              have e0 := getD_of r0
              exact upon_value (v := .int .i64 q) (by simp [go_sem, e0, r0]) (Below.refl _ _) rfl
            · refine ob_plain [49, 50] rfl rfl fun aa gg h => ?_
              obtain ⟨_, r0, rfl⟩ := seen_in rfl h.1
              have e0 := getD_of r0
              obtain ⟨_, r1, rfl⟩ := seen_in rfl h.2.1
              have e1 := getD_of r1
              exact upon_value (v := .int .i64 ((y - x) * q)) (by simp [go_sem, e0, r0, e1, r1, W1, W2, W3, W4, W5, WZ, WX]) (Below.refl _ _) rfl
            · refine ob_plain [51] rfl rfl fun aa gg h => ?_
              obtain ⟨_, r0, rfl⟩ := seen_in rfl h.1
              have e0 := getD_of r0
              exact upon_value (v := .int .i64 ((y - x) * q / 65535)) (by simp [go_sem, e0, r0, W1, W2, W3, W4, W5, WZ, WX]) (Below.refl _ _) rfl
            · refine ob_plain [38, 52] rfl rfl fun aa gg h => ?_
              obtain ⟨_, r0, rfl⟩ := seen_in rfl h.1
              have e0 := getD_of r0
              obtain ⟨_, r1, rfl⟩ := seen_in rfl h.2.1
              have e1 := getD_of r1
              exact upon_value (v := .int .i64 (x + (y - x) * q / 65535)) (by simp [go_sem, e0, r0, e1, r1, W1, W2, W3, W4, W5, WZ, WX]) (Below.refl _ _) rfl
            · refine ob_plain [53] rfl rfl fun aa gg h => ?_
              obtain ⟨_, r0, rfl⟩ := seen_in rfl h.1
              have e0 := getD_of r0
              exact upon_value (v := .slice (some ⟨gg.w.heap.size, 0, none⟩) 1 1) (w1 := gg.w.alloc (.cells #[.int .i64 (x + (y - x) * q / 65535)] 2)) (by simp [go_sem, e0, r0]) ((Below.refl _ _).alloc (Nat.le_refl _) _) ⟨_, rfl, gg.h.size, World.alloc_heap_new _ _⟩
          · rintro w3 hB3 _ rfl _ rfl _ rfl _ rfl _ rfl _ rfl _ rfl _ rfl _ rfl _ rfl _ rfl _ rfl _ rfl _ rfl _ rfl _ rfl _ rfl _ rfl _ rfl _ rfl _ rfl _ ⟨X, rfl, hX, hh⟩
            simp only [Act.put, List.setIfInBounds_toArray, List.set_cons_succ, List.set_cons_zero, finP, List.drop_succ_cons, List.drop_zero]
            have hB23 : Below wr.heap.size wr w3 := below_then hB2 hB3
            have hrow3 := hown.kept (grown_below hB23) (.inr (by simp [Value.ownBlock]))
            have hgw := (hown.lt g rfl).2
            have hB8 : Below w.heap.size w w3 := hB.trans (hB23.mono hB.size)
            have hg5 : w.heap.size ≤ w3.heap.size := hB8.size
            have hX5 : w.heap.size ≤ X := Nat.le_trans (hB.trans (hB2.mono hB.size)).size hX
            refine wpList_append_own _ rfl (.tmp 33) (.tmp 54) 26 rfl w.heap.size 2 i0 (.int .i64 0) 1 8 Tryz.underlying26 hi hz0 hz1 hz2 rfl (by decide) (.slice (some ⟨g, 0, none⟩) m.length cap) m.length _ rfl hrow3 ⟨X, 0, none⟩ 1 1 [.int .i64 (x + (y - x) * q / 65535)] rfl rfl (cell_one hh) (one_i64 _) (by unfold maxLen; omega) (by omega) (by first | omega | (simp; omega)) ?_
            intro v' w6 hown' hgrow _
            obtain ⟨g', cap', rfl⟩ := ownsRow_succ hown'
            have hB9 : Below w.heap.size w w6 := Below.grown hB8 hgrow (by first | omega | (simp; omega)) (fun k hk => (hown.lt k hk).1)
            rw [← cy_snoc] at hown'
            have HO := Lib.hid hown'
            clear hown' hgrow
            simp only [Act.put, List.setIfInBounds_toArray, List.set_cons_succ, List.set_cons_zero]
            go_wp2_with (fail)
            go_roundw
            case rel =>
              exact ⟨m ++ [x + (y - x) * q / 65535], by simp, by simp; omega, Lib.hid (con_snoc HC.out HX.out HFC.out), Lib.hid (num_snoc HN.out HFN.out), ⟨g', cap', by simp, by simpa using HO.out⟩, hB9⟩
            case measure => simp [intOf]; omega
      · have hkf : (f.length : Int) ≤ m.length := by omega
        clear hp'
        have q0 : (0 : Int) ≤ 0 := Int.le_refl 0
        have q1 : (0 : Int) ≤ 65535 := by decide
        by_cases hE : Ent x y
        · have EC : con1 ((x, y), (0 : Int)) = true := by simp [con1, hE]
          obtain ⟨rfl, rfl⟩ := hE
          go_wp2_with (fail)
          refine (r2ent_yes _).mono ?_
          rintro e wr2 ⟨rfl, hB2⟩
          have hrow2 := hown.kept (grown_below hB2) (.inr (by simp [Value.ownBlock]))
          have hgw := (hown.lt g rfl).2
          have hB7 : Below w.heap.size w wr2 := hB.trans (hB2.mono hB.size)
          have hg5 : w.heap.size ≤ wr2.heap.size := hB7.size
          go_wp2_with (at_builtin; refine wpList_append_own _ rfl (.tmp 29) (.tmp 31) 26 rfl w.heap.size 2 i0 (.int .i64 0) 1 8 Tryz.underlying26 hi hz0 hz1 hz2 rfl (by decide) (.slice (some ⟨g, 0, none⟩) m.length cap) m.length _ rfl (hrow2.alloc _) ⟨wr2.heap.size, 0, none⟩ 1 1 [.int .i64 (0 : Int)] rfl rfl (new_one _ _ _) (one_i64 _) (by unfold maxLen; omega) (by omega) (by first | omega | (simp; omega)) ?_)
          have hB8 := hB7.alloc hg5 (.cells #[.int .i64 (0 : Int)] 2)
          intro v' w6 hown' hgrow _
          obtain ⟨g', cap', rfl⟩ := ownsRow_succ hown'
          have hB9 : Below w.heap.size w w6 := Below.grown hB8 hgrow (by first | omega | (simp; omega)) (fun k hk => (hown.lt k hk).1)
          rw [← cy_snoc] at hown'
          have HO := Lib.hid hown'
          clear hown' hgrow
          go_wp2_with (fail)
          go_roundw
          case rel =>
            exact ⟨m ++ [(0 : Int)], by simp, by simp; omega, Lib.hid (con_snoc HC.out HX.out (EC)), Lib.hid (num_snoc HN.out (q_num q0 q1)), ⟨g', cap', by simp, by simpa using HO.out⟩, hB9⟩
          case measure => simp [intOf]; omega
        · have hV := HV.out _ (List.mem_of_getElem? HX.out)
          have hb4 := fin_bd hV hE
          have hpb := point_in_bd x y (0 : Int) hb4.2.2 hb4.1 hb4.2.1 q0 q1
          have F1 : 0 ≤ y - x ∧ y - x ≤ 4294967296 := by omega
          have F2 : 0 ≤ (y - x) * (0 : Int) ∧ (y - x) * (0 : Int) ≤ 281474976710656 := ⟨hpb.1, hpb.2.1⟩
          have F3 : 0 ≤ (y - x) * (0 : Int) / 65535 ∧ (y - x) * (0 : Int) / 65535 ≤ 4294967296 := by omega
          have F4 : -2147483648 ≤ x + (y - x) * (0 : Int) / 65535 ∧ x + (y - x) * (0 : Int) / 65535 ≤ 2147483648 := by omega
          have W1 := wrap_ok (y - x) (by omega) (by omega)
          have W2 := wrap_ok ((y - x) * (0 : Int)) (by omega) (by omega)
          have W3 := wrap_ok ((y - x) * (0 : Int) / 65535) (by omega) (by omega)
          have W4 := wrap_ok (x + (y - x) * (0 : Int) / 65535) (by omega) (by omega)
          have WZ := wrap_ok 0 (by decide) (by decide)
          have WX := wrap_ok x (by omega) (by omega)
          have W5 := Int.tdiv_eq_ediv_of_nonneg (b := 65535) F2.1
          have FC : con1 ((x, y), x + (y - x) * (0 : Int) / 65535) = true := by
            have a1 : x ≤ x + (y - x) * (0 : Int) / 65535 := by omega
            have a2 : x + (y - x) * (0 : Int) / 65535 ≤ y := by omega
            simp only [con1, a1, a2, decide_true, Bool.and_self, Bool.or_true]
          have FNUM : Num (x + (y - x) * (0 : Int) / 65535) := by unfold Num; omega
          have HFC := Lib.hid FC
          have HFN := Lib.hid FNUM
          have HHE := Lib.hid hE
          clear FC FNUM hpb hV hE
          go_wp2_with (fail)
          refine (r2ent_no x y _ HHE.out).mono ?_
          rintro e wr2 ⟨rfl, hB2⟩
          have hbw2 : b < wr2.heap.size := Nat.lt_of_lt_of_le hbw hB2.size
          have d1 := (hB2.cell (p := ⟨b, o + m.length * 2, none⟩) hbw).trans c1
          have d2 := (hB2.cell (p := ⟨b, o + m.length * 2 + 1, none⟩) hbw).trans c2
          go_wp2_with (fail)
          refine region_pred_n 22 (phiP wr2 b o c g cap l m x y (0 : Int)) (by kernel_rfl) (by kernel_rfl) (phiP_steady wr2 b o c g cap l m x y (0 : Int)) ?_ ?_
          · refine ⟨?_, ?_, ?_, ?_, ?_, ?_, ?_, ?_, ?_, ?_, ?_, ?_, ?_, ?_, ?_, ?_, ?_, ?_, ?_, ?_, ?_, ?_, trivial⟩
            · refine ob_plain [5] rfl rfl fun aa gg h => ?_
              have r0 := seen_out (v := .slice (some ⟨g, 0, none⟩) m.length cap) rfl rfl h.1
              have e0 := getD_of r0
              exact upon_value (v := .slice (some ⟨g, 0, none⟩) m.length cap) (by simp [go_sem, e0, r0]) (Below.refl _ _) rfl
            · refine ob_plain [0] rfl rfl fun aa gg h => ?_
              have r0 := seen_out (v := .slice (some ⟨b, o, none⟩) l.length c) rfl rfl h.1
              have e0 := getD_of r0
              exact upon_value (v := .slice (some ⟨b, o, none⟩) l.length c) (by simp [go_sem, e0, r0]) (Below.refl _ _) rfl
            · refine ob_plain [6] rfl rfl fun aa gg h => ?_
              have r0 := seen_out (v := .int .i64 (m.length : Int)) rfl rfl h.1
              have e0 := getD_of r0
              exact upon_value (v := .int .i64 (m.length : Int)) (by simp [go_sem, e0, r0]) (Below.refl _ _) rfl
            · refine ob_plain [34, 35] rfl rfl fun aa gg h => ?_
              obtain ⟨_, r0, rfl⟩ := seen_in rfl h.1
              have e0 := getD_of r0
              obtain ⟨_, r1, rfl⟩ := seen_in rfl h.2.1
              have e1 := getD_of r1
              exact upon_value (v := .pointer (some ⟨b, o + m.length * 2, none⟩)) (by simp [go_sem, e0, r0, e1, r1, hlk]) (Below.refl _ _) rfl
            · refine ob_plain [36] rfl rfl fun aa gg h => ?_
              obtain ⟨_, r0, rfl⟩ := seen_in rfl h.1
              have e0 := getD_of r0
              exact upon_value (v := .pointer (some ⟨b, o + m.length * 2, none⟩)) (by simp [go_sem, e0, r0]) (Below.refl _ _) rfl
            · refine ob_plain [37] rfl rfl fun aa gg h => ?_
              obtain ⟨_, r0, rfl⟩ := seen_in rfl h.1
              have e0 := getD_of r0
              have hc := (gg.cell hbw2).trans d1
              exact upon_value (v := .int .i64 x) (by simp [go_sem, e0, r0, hc]) (Below.refl _ _) rfl
            · refine ob_plain [0] rfl rfl fun aa gg h => ?_
              have r0 := seen_out (v := .slice (some ⟨b, o, none⟩) l.length c) rfl rfl h.1
              have e0 := getD_of r0
              exact upon_value (v := .slice (some ⟨b, o, none⟩) l.length c) (by simp [go_sem, e0, r0]) (Below.refl _ _) rfl
            · refine ob_plain [6] rfl rfl fun aa gg h => ?_
              have r0 := seen_out (v := .int .i64 (m.length : Int)) rfl rfl h.1
              have e0 := getD_of r0
              exact upon_value (v := .int .i64 (m.length : Int)) (by simp [go_sem, e0, r0]) (Below.refl _ _) rfl
            · refine ob_plain [39, 40] rfl rfl fun aa gg h => ?_
              obtain ⟨_, r0, rfl⟩ := seen_in rfl h.1
              have e0 := getD_of r0
              obtain ⟨_, r1, rfl⟩ := seen_in rfl h.2.1
              have e1 := getD_of r1
              exact upon_value (v := .pointer (some ⟨b, o + m.length * 2, none⟩)) (by simp [go_sem, e0, r0, e1, r1, hlk]) (Below.refl _ _) rfl
            · refine ob_plain [41] rfl rfl fun aa gg h => ?_
              obtain ⟨_, r0, rfl⟩ := seen_in rfl h.1
              have e0 := getD_of r0
              exact upon_value (v := .pointer (some ⟨b, o + m.length * 2 + 1, none⟩)) (by simp [go_sem, e0, r0]) (Below.refl _ _) rfl
            · refine ob_plain [42] rfl rfl fun aa gg h => ?_
              obtain ⟨_, r0, rfl⟩ := seen_in rfl h.1
              have e0 := getD_of r0
              have hc := (gg.cell hbw2).trans d2
              exact upon_value (v := .int .i64 y) (by simp [go_sem, e0, r0, hc]) (Below.refl _ _) rfl
            · refine ob_plain [0] rfl rfl fun aa gg h => ?_
              have r0 := seen_out (v := .slice (some ⟨b, o, none⟩) l.length c) rfl rfl h.1
              have e0 := getD_of r0
              exact upon_value (v := .slice (some ⟨b, o, none⟩) l.length c) (by simp [go_sem, e0, r0]) (Below.refl _ _) rfl
            · refine ob_plain [6] rfl rfl fun aa gg h => ?_
              have r0 := seen_out (v := .int .i64 (m.length : Int)) rfl rfl h.1
              have e0 := getD_of r0
              exact upon_value (v := .int .i64 (m.length : Int)) (by simp [go_sem, e0, r0]) (Below.refl _ _) rfl
            · refine ob_plain [44, 45] rfl rfl fun aa gg h => ?_
              obtain ⟨_, r0, rfl⟩ := seen_in rfl h.1
              have e0 := getD_of r0
              obtain ⟨_, r1, rfl⟩ := seen_in rfl h.2.1
              have e1 := getD_of r1
              exact upon_value (v := .pointer (some ⟨b, o + m.length * 2, none⟩)) (by simp [go_sem, e0, r0, e1, r1, hlk]) (Below.refl _ _) rfl
            · refine ob_plain [46] rfl rfl fun aa gg h => ?_
              obtain ⟨_, r0, rfl⟩ := seen_in rfl h.1
              have e0 := getD_of r0
              exact upon_value (v := .pointer (some ⟨b, o + m.length * 2, none⟩)) (by simp [go_sem, e0, r0]) (Below.refl _ _) rfl
            · refine ob_plain [47] rfl rfl fun aa gg h => ?_
              obtain ⟨_, r0, rfl⟩ := seen_in rfl h.1
              have e0 := getD_of r0
              have hc := (gg.cell hbw2).trans d1
              exact upon_value (v := .int .i64 x) (by simp [go_sem, e0, r0, hc]) (Below.refl _ _) rfl
            · refine ob_plain [43, 48] rfl rfl fun aa gg h => ?_
              obtain ⟨_, r0, rfl⟩ := seen_in rfl h.1
              have e0 := getD_of r0
              obtain ⟨_, r1, rfl⟩ := seen_in rfl h.2.1
              have e1 := getD_of r1
              exact upon_value (v := .int .i64 (y - x)) (by simp [go_sem, e0, r0, e1, r1, W1, W2, W3, W4, W5, WZ, WX]) (Below.refl _ _) rfl
            · refine ob_plain [7] rfl rfl fun aa gg h => ?_
              have r0 := seen_out (v := .int .i64 (0 : Int)) rfl rfl h.1
              have e0 := getD_of r0
              exact upon_value (v := .int .i64 (0 : Int)) (by simp [go_sem, e0, r0]) (Below.refl _ _) rfl
            · refine ob_plain [49, 50] rfl rfl fun aa gg h => ?_
              obtain ⟨_, r0, rfl⟩ := seen_in rfl h.1
              have e0 := getD_of r0
              obtain ⟨_, r1, rfl⟩ := seen_in rfl h.2.1
              have e1 := getD_of r1
              exact upon_value (v := .int .i64 ((y - x) * (0 : Int))) (by simp [go_sem, e0, r0, e1, r1, W1, W2, W3, W4, W5, WZ, WX]) (Below.refl _ _) rfl
            · refine ob_plain [51] rfl rfl fun aa gg h => ?_
              obtain ⟨_, r0, rfl⟩ := seen_in rfl h.1
              have e0 := getD_of r0
              exact upon_value (v := .int .i64 ((y - x) * (0 : Int) / 65535)) (by simp [go_sem, e0, r0, W1, W2, W3, W4, W5, WZ, WX]) (Below.refl _ _) rfl
            · refine ob_plain [38, 52] rfl rfl fun aa gg h => ?_
              obtain ⟨_, r0, rfl⟩ := seen_in rfl h.1
              have e0 := getD_of r0
              obtain ⟨_, r1, rfl⟩ := seen_in rfl h.2.1
              have e1 := getD_of r1
              exact upon_value (v := .int .i64 (x + (y - x) * (0 : Int) / 65535)) (by simp [go_sem, e0, r0, e1, r1, W1, W2, W3, W4, W5, WZ, WX]) (Below.refl _ _) rfl
            · refine ob_plain [53] rfl rfl fun aa gg h => ?_
              obtain ⟨_, r0, rfl⟩ := seen_in rfl h.1
              have e0 := getD_of r0
              exact upon_value (v := .slice (some ⟨gg.w.heap.size, 0, none⟩) 1 1) (w1 := gg.w.alloc (.cells #[.int .i64 (x + (y - x) * (0 : Int) / 65535)] 2)) (by simp [go_sem, e0, r0]) ((Below.refl _ _).alloc (Nat.le_refl _) _) ⟨_, rfl, gg.h.size, World.alloc_heap_new _ _⟩
          · rintro w3 hB3 _ rfl _ rfl _ rfl _ rfl _ rfl _ rfl _ rfl _ rfl _ rfl _ rfl _ rfl _ rfl _ rfl _ rfl _ rfl _ rfl _ rfl _ rfl _ rfl _ rfl _ rfl _ ⟨X, rfl, hX, hh⟩
            simp only [Act.put, List.setIfInBounds_toArray, List.set_cons_succ, List.set_cons_zero, finP, List.drop_succ_cons, List.drop_zero]
            have hB23 : Below wr.heap.size wr w3 := below_then hB2 hB3
            have hrow3 := hown.kept (grown_below hB23) (.inr (by simp [Value.ownBlock]))
            have hgw := (hown.lt g rfl).2
            have hB8 : Below w.heap.size w w3 := hB.trans (hB23.mono hB.size)
            have hg5 : w.heap.size ≤ w3.heap.size := hB8.size
            have hX5 : w.heap.size ≤ X := Nat.le_trans (hB.trans (hB2.mono hB.size)).size hX
            refine wpList_append_own _ rfl (.tmp 33) (.tmp 54) 26 rfl w.heap.size 2 i0 (.int .i64 0) 1 8 Tryz.underlying26 hi hz0 hz1 hz2 rfl (by decide) (.slice (some ⟨g, 0, none⟩) m.length cap) m.length _ rfl hrow3 ⟨X, 0, none⟩ 1 1 [.int .i64 (x + (y - x) * (0 : Int) / 65535)] rfl rfl (cell_one hh) (one_i64 _) (by unfold maxLen; omega) (by omega) (by first | omega | (simp; omega)) ?_
            intro v' w6 hown' hgrow _
            obtain ⟨g', cap', rfl⟩ := ownsRow_succ hown'
            have hB9 : Below w.heap.size w w6 := Below.grown hB8 hgrow (by first | omega | (simp; omega)) (fun k hk => (hown.lt k hk).1)
            rw [← cy_snoc] at hown'
            have HO := Lib.hid hown'
            clear hown' hgrow
            simp only [Act.put, List.setIfInBounds_toArray, List.set_cons_succ, List.set_cons_zero]
            go_wp2_with (fail)
            go_roundw
            case rel =>
              exact ⟨m ++ [x + (y - x) * (0 : Int) / 65535], by simp, by simp; omega, Lib.hid (con_snoc HC.out HX.out HFC.out), Lib.hid (num_snoc HN.out HFN.out), ⟨g', cap', by simp, by simpa using HO.out⟩, hB9⟩
            case measure => simp [intOf]; omega
    · have hln : (l.length : Int) ≤ m.length := by omega
      have hmn : m.length = l.length := by omega
      have HM := Lib.hid hmn
      clear hmn hp hp'
      go_wp2_with (fail)
      go_ret
      refine ⟨_, m, rfl, HM.out, ?_, HN.out, Pt.own hown (by unfold maxLen; omega), hB⟩
      have := HC.out
      rw [HM.out, List.take_length] at this
      exact this
end Go.Proofs.YthejcoidgmaidaaGreat
