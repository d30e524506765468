/-
  The reference's Subset and Hull of boxes, for the laws over matrices.
-/
import Derived.Test.YthejcoidgmaidaaK4
import Derived.Test.YthejcoidgmaidaaPointIn
namespace Go.Proofs.Ythejcoidgmaidaa
open Go.ChangeShapes Go.WideShapes Go.ChangeAt Go.RowKit
set_option linter.unusedVariables false
set_option linter.unusedSimpArgs false
set_option maxRecDepth 100000

attribute [local irreducible] Calls
theorem zip_all_take {α β : Type} {f : α × β → Bool} {a : List α} {b : List β} {k : Nat} {x : α} {y : β} (hx : a[k]? = some x) (hy : b[k]? = some y) (h : ((a.zip b).take k).all f = true) (g : f (x, y) = true) : ((a.zip b).take (k + 1)).all f = true := by
  have e : (a.zip b)[k]? = some (x, y) := List.getElem?_zip_eq_some.2 ⟨hx, hy⟩
  rw [List.take_add_one, e, List.all_append, h]
  simp [g]
theorem zip_all_no {α β : Type} {f : α × β → Bool} {a : List α} {b : List β} {k : Nat} {x : α} {y : β} (hx : a[k]? = some x) (hy : b[k]? = some y) (g : f (x, y) = false) : (a.zip b).all f = false := by
  rw [Bool.eq_false_iff]
  intro h
  have e : (a.zip b)[k]? = some (x, y) := List.getElem?_zip_eq_some.2 ⟨hx, hy⟩
  rw [List.all_eq_true.1 h (x, y) (List.mem_of_getElem? e)] at g
  cases g
theorem zip_all_end {α β : Type} {f : α × β → Bool} {a : List α} {b : List β} (hl : b.length = a.length) (h : ((a.zip b).take a.length).all f = true) : (a.zip b).all f = true := by
  rwa [List.take_of_length_le (by simp [hl])] at h
theorem r2subset (a b c d : Int) (w : World) : Calls Try.prog 56 #[.agg #[.int .i64 a, .int .i64 b], .agg #[.int .i64 c, .int .i64 d]] w fun e w' => e = .returned (.bool (decide (c ≤ a) && decide (b ≤ d))) ∧ Below w.heap.size w w' := by
  by_cases h1 : c ≤ a
  · by_cases h2 : b ≤ d
    · simpa [h1, h2] using r2subset_0 a b c d w h1 (by simpa using h2)
    · simpa [h1, h2] using r2subset_1 a b c d w h1 (by simpa using h2)
  · simpa [h1] using r2subset_2 a b c d w (by omega)
set_option maxHeartbeats 4000000 in
theorem r3subset (va vb : Value) (la : List (Int × Int)) (lb : List (Int × Int)) (w : World) (hva : Bx w va la) (hvb : Bx w vb lb) (hlen : lb.length = la.length) :
    Calls Try.prog 23 #[va, vb] w fun e w' => e = .returned (.bool ((la.zip lb).all sub1)) ∧ Below w.heap.size w w' := by
  have hl := hva.1
  unfold maxLen at hl
  obtain ⟨pa, ca, rfl⟩ := hva.cut
  obtain ⟨pb, cb, rfl⟩ := hvb.cut
  have HA := Lib.hid hva
  have HB := Lib.hid hvb
  have HL := Lib.hid hlen
  clear hva hvb hlen
  go_enter Try.func23, Try.ntmps23
  go_wp2_with (fail)
  go_loopw [5] (fun i wr => ∃ k : Nat, i = .int .i64 k ∧ k ≤ la.length ∧ Hid (((la.zip lb).take k).all sub1 = true) ∧ ∃ g : Grown w, wr = g.w) (fun i _ => la.length - (intOf i).toNat)
  case atStart => exact ⟨0, rfl, Nat.zero_le _, Lib.hid (by simp), ⟨w, Below.refl _ _⟩, rfl⟩
  case round =>
    obtain ⟨k, rfl, hk, hz, g0, rfl⟩ := hrel
    by_cases hlt : k < la.length
    · have hlt2 : k < lb.length := by rw [HL.out]; exact hlt
      obtain ⟨x, y, hx⟩ : ∃ x y, la[k]? = some (x, y) := ⟨la[k].1, la[k].2, List.getElem?_eq_getElem hlt⟩
      obtain ⟨z1, z2, hy⟩ : ∃ z1 z2, lb[k]? = some (z1, z2) := ⟨lb[k].1, lb[k].2, List.getElem?_eq_getElem hlt2⟩
      obtain ⟨ba, oa, hpa, hba, rdA⟩ := HA.out.rd2 hx
      obtain ⟨bb, ob, hpb, hbb, rdB⟩ := HB.out.rd2 hy
      subst hpa hpb
      have HX := Lib.hid hx
      have HY := Lib.hid hy
      clear hx hy
      have sA := fun g => (rdA g).1
      have fA := fun g => (rdA g).2.1
      have gA := fun g => (rdA g).2.2
      have sB := fun g => (rdB g).1
      have fB := fun g => (rdB g).2.1
      have gB := fun g => (rdB g).2.2
      clear rdA rdB
      have i1 : (k : Int) < la.length := by omega
      have i2 : (k : Int) < lb.length := by omega
      obtain ⟨r, hr⟩ : ∃ r, sub1 ((x, y), (z1, z2)) = r := ⟨_, rfl⟩
      have cc : ∀ w, Calls Try.prog 56 #[.agg #[.int .i64 x, .int .i64 y], .agg #[.int .i64 z1, .int .i64 z2]] w fun e w' => e = .returned (.bool r) ∧ Below w.heap.size w w' := fun w => (r2subset x y z1 z2 w).mono fun e w' ⟨h, hB⟩ => ⟨h.trans (congrArg (fun q => Ending.returned (.bool q)) hr), hB⟩
      have HC := Lib.hid cc
      have HR := Lib.hid hr
      clear cc hr
      cases r
      · go_wp2_with (fail)
        refine region_quiet' g0 (by kernel_rfl) (by kernel_rfl) ?_
        repeat (go_big_quiet_step (first | (go_at_call 56; exact qc (HC.out _))))
        refine wpQuiet_nil ?_
        rintro _ ⟨g1, rfl⟩
        go_wp2_with (fail)
        go_ret
        exact ⟨ret_bool (zip_all_no HX.out HY.out HR.out).symm, g1.h⟩
      · go_wp2_with (fail)
        refine region_quiet' g0 (by kernel_rfl) (by kernel_rfl) ?_
        repeat (go_big_quiet_step (first | (go_at_call 56; exact qc (HC.out _))))
        refine wpQuiet_nil ?_
        rintro _ ⟨g1, rfl⟩
        go_wp2_with (fail)
        go_roundw
        case rel => exact ⟨k + 1, by go_num, by omega, Lib.hid (zip_all_take HX.out HY.out hz.out HR.out), g1, rfl⟩
        case measure => simp [intOf]; omega
    · obtain rfl : k = la.length := by omega
      go_wp2_with (fail)
      go_ret
      exact ⟨ret_bool (zip_all_end HL.out hz.out).symm, g0.h⟩
theorem zip_map_at {α β γ : Type} (g : α × β → γ) (a : List α) (b : List β) (i : Nat) (z : γ) : ((a.zip b).map g)[i]? = some z ↔ ∃ x y, a[i]? = some x ∧ b[i]? = some y ∧ g (x, y) = z := by
  rw [List.getElem?_map, Option.map_eq_some_iff]
  constructor
  · rintro ⟨⟨x, y⟩, h, e⟩
    have := List.getElem?_zip_eq_some.1 h
    exact ⟨x, y, this.1, this.2, e⟩
  · rintro ⟨x, y, h1, h2, e⟩
    exact ⟨(x, y), List.getElem?_zip_eq_some.2 ⟨h1, h2⟩, e⟩
theorem take_snoc {α : Type} {m l : List α} {z : α} (h : m = l.take m.length) (hz : l[m.length]? = some z) : m ++ [z] = l.take (m ++ [z]).length := by
  rw [List.length_append, List.length_singleton, List.take_add_one, hz, ← h]
  rfl
theorem take_end {α : Type} {m l : List α} (h : m = l.take m.length) (hl : l.length ≤ m.length) : m = l := by
  rw [List.take_of_length_le hl] at h
  exact h
theorem map_some {α β : Type} {l : List α} {g : α → β} {k : Nat} {x : α} (h : l[k]? = some x) : (l.map g)[k]? = some (g x) := by rw [List.getElem?_map, h]; rfl
theorem zip_some {α β γ : Type} {a : List α} {b : List β} {g : α × β → γ} {k : Nat} {x : α} {y : β} (h : a[k]? = some x) (h' : b[k]? = some y) : ((a.zip b).map g)[k]? = some (g (x, y)) := (zip_map_at g a b k _).2 ⟨x, y, h, h', rfl⟩
section
variable (wr : World) (ba oa bb ob g cap ca cb : Nat) (la lb m : List (Int × Int)) (x y z1 z2 : Int)
def phiH : Tmp → Value → World → Prop := lk [(14, fun u _ => u = .slice (some ⟨g, 0, none⟩) m.length cap), (15, fun u _ => u = .slice (some ⟨ba, oa, none⟩) la.length ca), (16, fun u _ => u = .int .i64 (m.length : Int)), (17, fun u _ => u = .pointer (some ⟨ba, oa + m.length * 2, none⟩)), (18, fun u _ => u = .agg #[.int .i64 x, .int .i64 y]), (19, fun u _ => u = .slice (some ⟨bb, ob, none⟩) lb.length cb), (20, fun u _ => u = .int .i64 (m.length : Int)), (21, fun u _ => u = .pointer (some ⟨bb, ob + m.length * 2, none⟩)), (22, fun u _ => u = .agg #[.int .i64 z1, .int .i64 z2]), (23, fun u _ => u = .agg #[.int .i64 (min x z1), .int .i64 (max y z2)]), (24, fun u w' => ∃ X, u = .slice (some ⟨X, 0, none⟩) 1 1 ∧ wr.heap.size ≤ X ∧ IvBox w' X (min x z1, max y z2))]
theorem phiH_steady : ∀ t v w1 w2, Below w1.heap.size w1 w2 → phiH wr ba oa bb ob g cap ca cb la lb m x y z1 z2 t v w1 → phiH wr ba oa bb ob g cap ca cb la lb m x y z1 z2 t v w2 := lk_steady _ ⟨steady_eq _, steady_eq _, steady_eq _, steady_eq _, steady_eq _, steady_eq _, steady_eq _, steady_eq _, steady_eq _, steady_eq _, fun u w1 w2 hb ⟨X, h1, h2, h3⟩ => ⟨X, h1, h2, (hb.block X h3.lt).trans h3⟩, trivial⟩
end
set_option maxHeartbeats 8000000 in
theorem r3hull (va vb : Value) (la lb : List (Int × Int)) (w : World) (hva : Bx w va la) (hvb : Bx w vb lb) (hlen : lb.length = la.length) (hsm : la.length ≤ 1000) :
    Calls Try.prog 22 #[va, vb] w fun e w' => ∃ u, e = .returned u ∧ Bx w' u ((la.zip lb).map hullI) ∧ Below w.heap.size w w' := by
  obtain ⟨i0, hi, hz0, hz1, hz2⟩ := info_parts info_iv
  obtain ⟨pa, ca, rfl⟩ := hva.cut
  obtain ⟨pb, cb, rfl⟩ := hvb.cut
  have HA := Lib.hid hva
  have HB := Lib.hid hvb
  have HL := Lib.hid hlen
  clear hva hvb hlen
  go_enter Try.func22, Try.ntmps22
  go_wp2_with (fail)
  go_loopw [5, 6] (fun u i wr => ∃ m : List (Int × Int), i = .int .i64 m.length ∧ m.length ≤ la.length ∧ Hid (m = ((la.zip lb).map hullI).take m.length) ∧ OwnB w.heap.size wr u m ∧ Below w.heap.size w wr) (fun _ i _ => la.length - (intOf i).toNat)
  case atStart => exact ⟨[], rfl, Nat.zero_le _, Lib.hid (by simp), ⟨w.heap.size, 0, rfl, by simpa [cz] using World.ownsRow_made (e := 37) (size := 2) w #[] 0 (Nat.le_refl _) (by decide) rfl⟩, (Below.refl _ _).alloc (Nat.le_refl _) _⟩
  case round =>
    obtain ⟨m, rfl, hm, HT, ⟨g, cap, rfl, hown⟩, hB⟩ := hrel
    by_cases hlt : m.length < la.length
    · have hlt2 : m.length < lb.length := by rw [HL.out]; exact hlt
      obtain ⟨x, y, hx⟩ : ∃ x y, la[m.length]? = some (x, y) := ⟨la[m.length].1, la[m.length].2, List.getElem?_eq_getElem hlt⟩
      obtain ⟨z1, z2, hy⟩ : ∃ z1 z2, lb[m.length]? = some (z1, z2) := ⟨lb[m.length].1, lb[m.length].2, List.getElem?_eq_getElem hlt2⟩
      obtain ⟨ba, oa, hpa, hba, rdA⟩ := (HA.out.grow hB).rd2 hx
      obtain ⟨bb, ob, hpb, hbb, rdB⟩ := (HB.out.grow hB).rd2 hy
      subst hpa hpb
      have fA := fun g => (rdA g).2.1
      have gA := fun g => (rdA g).2.2
      have fB := fun g => (rdB g).2.1
      have gB := fun g => (rdB g).2.2
      clear rdA rdB
      have HX := Lib.hid (zip_some (g := hullI) hx hy)
      clear hx hy
      have i1 : (m.length : Int) < la.length := by omega
      have i2 : (m.length : Int) < lb.length := by omega
      have hgw := (hown.lt g rfl).2
      go_wp2_with (fail)
      refine region_pred_n 11 (phiH wr ba oa bb ob g cap ca cb la lb m x y z1 z2) (by kernel_rfl) (by kernel_rfl) (phiH_steady wr ba oa bb ob g cap ca cb la lb m x y z1 z2) ?_ ?_
      · refine ⟨?_, ?_, ?_, ?_, ?_, ?_, ?_, ?_, ?_, ?_, ?_, trivial⟩
        · refine ob_plain [5] rfl rfl fun aa gg h => ?_
          have r0 := seen_out (v := .slice (some ⟨g, 0, none⟩) m.length cap) rfl rfl h.1
          have e0 := getD_of r0
          exact upon_value (v := .slice (some ⟨g, 0, none⟩) m.length cap) (by simp [go_sem, e0, r0]) (Below.refl _ _) rfl
        · refine ob_plain [0] rfl rfl fun aa gg h => ?_
          have r0 := seen_out (v := .slice (some ⟨ba, oa, none⟩) la.length ca) rfl rfl h.1
          have e0 := getD_of r0
          exact upon_value (v := .slice (some ⟨ba, oa, none⟩) la.length ca) (by simp [go_sem, e0, r0]) (Below.refl _ _) rfl
        · refine ob_plain [6] rfl rfl fun aa gg h => ?_
          have r0 := seen_out (v := .int .i64 (m.length : Int)) rfl rfl h.1
          have e0 := getD_of r0
          exact upon_value (v := .int .i64 (m.length : Int)) (by simp [go_sem, e0, r0]) (Below.refl _ _) rfl
        · refine ob_plain [15, 16] rfl rfl fun aa gg h => ?_
          obtain ⟨_, r0, rfl⟩ := seen_in rfl h.1
          have e0 := getD_of r0
          obtain ⟨_, r1, rfl⟩ := seen_in rfl h.2.1
          have e1 := getD_of r1
          exact upon_value (v := .pointer (some ⟨ba, oa + m.length * 2, none⟩)) (by simp [go_sem, e0, r0, e1, r1, i1]) (Below.refl _ _) rfl
        · refine ob_plain [17] rfl rfl fun aa gg h => ?_
          obtain ⟨_, r0, rfl⟩ := seen_in rfl h.1
          have e0 := getD_of r0
          exact upon_value (v := .agg #[.int .i64 x, .int .i64 y]) (by simp [go_sem, e0, r0, fA gg, gA gg]) (Below.refl _ _) rfl
        · refine ob_plain [1] rfl rfl fun aa gg h => ?_
          have r0 := seen_out (v := .slice (some ⟨bb, ob, none⟩) lb.length cb) rfl rfl h.1
          have e0 := getD_of r0
          exact upon_value (v := .slice (some ⟨bb, ob, none⟩) lb.length cb) (by simp [go_sem, e0, r0]) (Below.refl _ _) rfl
        · refine ob_plain [6] rfl rfl fun aa gg h => ?_
          have r0 := seen_out (v := .int .i64 (m.length : Int)) rfl rfl h.1
          have e0 := getD_of r0
          exact upon_value (v := .int .i64 (m.length : Int)) (by simp [go_sem, e0, r0]) (Below.refl _ _) rfl
        · refine ob_plain [19, 20] rfl rfl fun aa gg h => ?_
          obtain ⟨_, r0, rfl⟩ := seen_in rfl h.1
          have e0 := getD_of r0
          obtain ⟨_, r1, rfl⟩ := seen_in rfl h.2.1
          have e1 := getD_of r1
          exact upon_value (v := .pointer (some ⟨bb, ob + m.length * 2, none⟩)) (by simp [go_sem, e0, r0, e1, r1, i2]) (Below.refl _ _) rfl
        · refine ob_plain [21] rfl rfl fun aa gg h => ?_
          obtain ⟨_, r0, rfl⟩ := seen_in rfl h.1
          have e0 := getD_of r0
          exact upon_value (v := .agg #[.int .i64 z1, .int .i64 z2]) (by simp [go_sem, e0, r0, fB gg, gB gg]) (Below.refl _ _) rfl
        · refine ob_plain [18, 22] rfl rfl fun aa gg h => ?_
          obtain ⟨_, r0, rfl⟩ := seen_in rfl h.1
          have e0 := getD_of r0
          obtain ⟨_, r1, rfl⟩ := seen_in rfl h.2.1
          have e1 := getD_of r1
          exact upon_enter (f := 34) (args := #[.agg #[.int .i64 x, .int .i64 y], .agg #[.int .i64 z1, .int .i64 z2]]) (by simp [go_sem, e0, r0, e1, r1]) rfl ((r2hull x y z1 z2 _).mono fun e w' ⟨h, hB⟩ => ⟨_, h, hB, rfl⟩)
        · refine ob_plain [23] rfl rfl fun aa gg h => ?_
          obtain ⟨_, r0, rfl⟩ := seen_in rfl h.1
          have e0 := getD_of r0
          exact upon_value (v := .slice (some ⟨gg.w.heap.size, 0, none⟩) 1 1) (w1 := gg.w.alloc (.cells #[.int .i64 (min x z1), .int .i64 (max y z2)] 37)) (by simp [go_sem, e0, r0]) ((Below.refl _ _).alloc (Nat.le_refl _) _) ⟨_, rfl, gg.h.size, World.alloc_heap_new _ _⟩
      · rintro w3 hB3 _ rfl _ rfl _ rfl _ rfl _ rfl _ rfl _ rfl _ rfl _ rfl _ rfl _ ⟨X, rfl, hX, hh⟩
        simp only [Act.put, List.setIfInBounds_toArray, List.set_cons_succ, List.set_cons_zero, finP, List.drop_succ_cons, List.drop_zero]
        have hrow3 := hown.kept (grown_below hB3) (.inr (by simp [Value.ownBlock]))
        have hB8 : Below w.heap.size w w3 := hB.trans (hB3.mono hB.size)
        have hg5 : w.heap.size ≤ w3.heap.size := hB8.size
        have hX5 : w.heap.size ≤ X := Nat.le_trans hB.size hX
        refine wpList_append_own _ rfl (.tmp 14) (.tmp 24) 22 rfl w.heap.size 37 i0 (.agg #[.int .i64 0, .int .i64 0]) 2 16 Try.underlying22 hi hz0 hz1 hz2 rfl (by decide) (.slice (some ⟨g, 0, none⟩) m.length cap) m.length _ rfl hrow3 ⟨X, 0, none⟩ 1 1 [.int .i64 (min x z1), .int .i64 (max y z2)] rfl rfl (two_box hh) (two_one _ _) (by unfold maxLen; omega) (by omega) (by first | omega | (simp; omega)) ?_
        intro v' w6 hown' hgrow _
        obtain ⟨g', cap', rfl⟩ := ownsRow_succ hown'
        have hB9 : Below w.heap.size w w6 := Below.grown hB8 hgrow (by first | omega | (simp; omega)) (fun k hk => (hown.lt k hk).1)
        rw [← cz_snoc] at hown'
        have HO := Lib.hid hown'
        clear hown' hgrow
        simp only [Act.put, List.setIfInBounds_toArray, List.set_cons_succ, List.set_cons_zero]
        go_wp2_with (fail)
        go_roundw
        case rel =>
          exact ⟨m ++ [hullI ((x, y), (z1, z2))], by simp, by simp; omega, Lib.hid (take_snoc HT.out HX.out), ⟨g', cap', by simp, by simpa [ptI, midI, hullI] using HO.out⟩, hB9⟩
        case measure => simp [intOf]; omega
    · have hle : la.length ≤ m.length := by omega
      obtain hml : m.length = la.length := by omega
      have i1 : (la.length : Int) ≤ m.length := by omega
      have HB' := Lib.hid hB
      go_wp2_with (fail)
      go_ret
      have e := take_end HT.out (by rw [List.length_map, List.length_zip]; omega)
      exact ⟨_, rfl, e ▸ Bx.own hown (by unfold maxLen; omega), HB'.out⟩
end Go.Proofs.Ythejcoidgmaidaa
