/-
  The reference's Valid, Contains, Subset, Width and WidestAxis.
-/
import Derived.Test.YtpepgheocemjdaaBoxM
import Derived.Test.YtpepgheocemjdaaR2
namespace Go.Proofs.Ytpepgheocemjdaa
open Go.ChangeShapes Go.WideShapes Go.ChangeAt Go.RowKit
set_option linter.unusedVariables false
set_option linter.unusedSimpArgs false
set_option maxRecDepth 100000

attribute [local irreducible] Calls
attribute [local go_sem ↓] run_max_two run_min_two run_max_three
theorem Bx.rd2 {w : World} {p : Option Addr} {n c j : Nat} {l : List (Int × Int)} {x y : Int} (h : Bx w (.slice p n c) l) (hx : l[j]? = some (x, y)) : ∃ b o, p = some ⟨b, o, none⟩ ∧ b < w.heap.size ∧ ∀ g : Grown w, b < g.w.heap.size ∧ g.w.cell? ⟨b, o + j * 2, none⟩ = some (.int .i64 x) ∧ g.w.cell? ⟨b, o + j * 2 + 1, none⟩ = some (.int .i64 y) := by
  obtain ⟨_, q, c', e, h⟩ := h
  obtain ⟨b, o, hq, h1, h2, h3⟩ := h j (x, y) hx
  simp only [Value.slice.injEq] at e
  exact ⟨b, o, e.1.trans hq, h1, fun g => ⟨Nat.lt_of_lt_of_le h1 g.h.size, (g.cell (b := b) h1).trans h2, (g.cell (b := b) h1).trans h3⟩⟩
theorem Pt.rd2 {w : World} {p : Option Addr} {n c j : Nat} {l : List Int} {x : Int} (h : Pt w (.slice p n c) l) (hx : l[j]? = some x) : ∃ b o, p = some ⟨b, o, none⟩ ∧ b < w.heap.size ∧ ∀ g : Grown w, b < g.w.heap.size ∧ g.w.cell? ⟨b, o + j, none⟩ = some (.int .i64 x) := by
  obtain ⟨_, q, c', e, h⟩ := h
  obtain ⟨b, o, hq, h1, h2⟩ := h j x hx
  simp only [Value.slice.injEq] at e
  exact ⟨b, o, e.1.trans hq, h1, fun g => ⟨Nat.lt_of_lt_of_le h1 g.h.size, (g.cell (b := b) h1).trans h2⟩⟩
theorem Bx.cut {w : World} {v : Value} {l : List (Int × Int)} (h : Bx w v l) : ∃ p c, v = .slice p l.length c := by
  obtain ⟨_, p, c, e, _⟩ := h
  exact ⟨p, c, e⟩
theorem Pt.cut {w : World} {v : Value} {l : List Int} (h : Pt w v l) : ∃ p c, v = .slice p l.length c := by
  obtain ⟨_, p, c, e, _⟩ := h
  exact ⟨p, c, e⟩
theorem zip_all_take {α β : Type} {f : α × β → Bool} {a : List α} {b : List β} {k : Nat} {x : α} {y : β} (hx : a[k]? = some x) (hy : b[k]? = some y) (h : ((a.zip b).take k).all f = true) (g : f (x, y) = true) : ((a.zip b).take (k + 1)).all f = true := by
  have e : (a.zip b)[k]? = some (x, y) := List.getElem?_zip_eq_some.2 ⟨hx, hy⟩
  rw [List.take_add_one, e, List.all_append, h]
  simp [g]
theorem zip_all_no {α β : Type} {f : α × β → Bool} {a : List α} {b : List β} {k : Nat} {x : α} {y : β} (hx : a[k]? = some x) (hy : b[k]? = some y) (g : f (x, y) = false) : (a.zip b).all f = false := by
  rw [Bool.eq_false_iff]
  intro h
  have e : (a.zip b)[k]? = some (x, y) := List.getElem?_zip_eq_some.2 ⟨hx, hy⟩
  rw [List.all_eq_true.1 h (x, y) (List.mem_of_getElem? e)] at g
  cases g
theorem zip_all_end {α β : Type} {f : α × β → Bool} {a : List α} {b : List β} (hl : b.length = a.length) (h : ((a.zip b).take a.length).all f = true) : (a.zip b).all f = true := by
  rwa [List.take_of_length_le (by simp [hl])] at h
set_option maxHeartbeats 1000000 in
theorem r3valid (v : Value) (l : List (Int × Int)) (w : World) (hv : Bx w v l) :
    Calls Try.prog 29 #[v] w fun e w' => e = .returned (.bool (l.all (fun p => decide (VI p.1 p.2)) && (decide (1 ≤ l.length) && decide (l.length ≤ 6)))) ∧ Below w.heap.size w w' := by
  obtain ⟨hl, p, c, rfl, hp⟩ := hv
  unfold maxLen at hl
  go_enter Try.func29, Try.ntmps29
  go_wp2_with (fail)
  go_loopw [3] (fun i wr => ∃ k : Nat, i = .int .i64 k ∧ k ≤ l.length ∧ Hid (∀ p ∈ l.take k, VI p.1 p.2) ∧ Below w.heap.size w wr) (fun i _ => l.length - (intOf i).toNat)
  case atStart => exact ⟨0, rfl, Nat.zero_le _, Lib.hid (by simp), Below.refl _ _⟩
  case round =>
    obtain ⟨k, rfl, hk, hz, hB⟩ := hrel
    by_cases hlt : k < l.length
    · obtain ⟨b, o, x, y, rfl, hx, hb, c1, c2⟩ := Bx.at (c := 0) (n := 0) hp hlt hB
      have hlk : (k : Int) < l.length := by omega
      have HX := Lib.hid hx
      have hbw : b < wr.heap.size := Nat.lt_of_lt_of_le hb hB.size
      have hsz := hB.size
      clear hp hx
      by_cases hV : VI x y
      · have cv := fun w => r2valid x y true w (by simp [hV])
        have HV := Lib.hid hV
        clear hV
        go_wp2_with (fail)
        refine (cv _).mono ?_
        rintro e w5 ⟨rfl, hB5⟩
        go_wp2_with (fail)
        go_roundw
        case rel =>
          refine ⟨k + 1, by go_num, by omega, ?_, below_then hB hB5⟩
          intro p hp
          rw [List.take_add_one, HX.out] at hp
          rcases List.mem_append.1 hp with h | h
          · exact hz.out p h
          · have : p = (x, y) := by simpa using h
            rw [this]
            exact HV.out
        case measure => simp [intOf]; omega
      · have cv := fun w => r2valid x y false w (by simp [hV])
        have HV := Lib.hid hV
        clear hV
        go_wp2_with (fail)
        refine (cv _).mono ?_
        rintro e w5 ⟨rfl, hB5⟩
        go_wp2_with (fail)
        go_ret
        refine ⟨ret_bool ?_, below_then hB hB5⟩
        have : l.all (fun p => decide (VI p.1 p.2)) = false := by
          rw [Bool.eq_false_iff]
          intro h
          have := List.all_eq_true.1 h (x, y) (List.mem_of_getElem? HX.out)
          exact HV.out (by simpa using this)
        rw [this]
        rfl
    · obtain rfl : k = l.length := by omega
      have hall : l.all (fun p => decide (VI p.1 p.2)) = true := by
        rw [List.all_eq_true]
        intro p hp
        have := hz.out p (by rw [List.take_of_length_le (Nat.le_refl _)]; exact hp)
        simpa using this
      have HALL := Lib.hid hall
      clear hall
      by_cases g1 : 1 ≤ l.length
      · by_cases g2 : l.length ≤ 6
        · have i1 : (1 : Int) ≤ l.length := by omega
          have i2 : (l.length : Int) ≤ 6 := by omega
          go_wp2_with (fail)
          go_ret
          exact ⟨ret_bool (by simp [HALL.out, g1, g2] <;> omega), hB⟩
        · have i1 : (1 : Int) ≤ l.length := by omega
          have i2 : (6 : Int) < l.length := by omega
          go_wp2_with (fail)
          go_ret
          exact ⟨ret_bool (by simp [HALL.out, g1, g2] <;> omega), hB⟩
      · have i1 : (l.length : Int) < 1 := by omega
        go_wp2_with (fail)
        go_ret
        exact ⟨ret_bool (by simp [HALL.out, g1]), hB⟩

set_option maxHeartbeats 4000000 in
theorem r3contains (va vb : Value) (la : List (Int × Int)) (lb : List Int) (w : World) (hva : Bx w va la) (hvb : Pt w vb lb) (hlen : lb.length = la.length) :
    Calls Try.prog 32 #[va, vb] w fun e w' => e = .returned (.bool ((la.zip lb).all con1)) ∧ Below w.heap.size w w' := by
  have hl := hva.1
  unfold maxLen at hl
  obtain ⟨pa, ca, rfl⟩ := hva.cut
  obtain ⟨pb, cb, rfl⟩ := hvb.cut
  have HA := Lib.hid hva
  have HB := Lib.hid hvb
  have HL := Lib.hid hlen
  clear hva hvb hlen
  go_enter Try.func32, Try.ntmps32
  go_wp2_with (fail)
  go_loopw [5] (fun i wr => ∃ k : Nat, i = .int .i64 k ∧ k ≤ la.length ∧ Hid (((la.zip lb).take k).all con1 = true) ∧ ∃ g : Grown w, wr = g.w) (fun i _ => la.length - (intOf i).toNat)
  case atStart => exact ⟨0, rfl, Nat.zero_le _, Lib.hid (by simp), ⟨w, Below.refl _ _⟩, rfl⟩
  case round =>
    obtain ⟨k, rfl, hk, hz, g0, rfl⟩ := hrel
    by_cases hlt : k < la.length
    · have hlt2 : k < lb.length := by rw [HL.out]; exact hlt
      obtain ⟨x, y, hx⟩ : ∃ x y, la[k]? = some (x, y) := ⟨la[k].1, la[k].2, List.getElem?_eq_getElem hlt⟩
      obtain ⟨z, hy⟩ : ∃ z, lb[k]? = some z := ⟨lb[k], List.getElem?_eq_getElem hlt2⟩
      obtain ⟨ba, oa, hpa, hba, rdA⟩ := HA.out.rd2 hx
      obtain ⟨bb, ob, hpb, hbb, rdB⟩ := HB.out.rd2 hy
      subst hpa hpb
      have HX := Lib.hid hx
      have HY := Lib.hid hy
      clear hx hy
      have sA := fun g => (rdA g).1
      have fA := fun g => (rdA g).2.1
      have gA := fun g => (rdA g).2.2
      have sB := fun g => (rdB g).1
      have fB := fun g => (rdB g).2
      clear rdA rdB
      have i1 : (k : Int) < la.length := by omega
      have i2 : (k : Int) < lb.length := by omega
      obtain ⟨r, hr⟩ : ∃ r, con1 ((x, y), z) = r := ⟨_, rfl⟩
      have cc : ∀ w, Calls Try.prog 86 #[.agg #[.int .i64 x, .int .i64 y], .int .i64 z] w fun e w' => e = .returned (.bool r) ∧ Below w.heap.size w w' := fun w => r2contains x y z r w hr
      have HC := Lib.hid cc
      have HR := Lib.hid hr
      clear cc hr
      cases r
      · go_wp2_with (fail)
        refine region_quiet' g0 (by kernel_rfl) (by kernel_rfl) ?_
        repeat (go_big_quiet_step (first | (go_at_call 86; exact qc (HC.out _))))
        refine wpQuiet_nil ?_
        rintro _ ⟨g1, rfl⟩
        go_wp2_with (fail)
        go_ret
        exact ⟨ret_bool (zip_all_no HX.out HY.out HR.out).symm, g1.h⟩
      · go_wp2_with (fail)
        refine region_quiet' g0 (by kernel_rfl) (by kernel_rfl) ?_
        repeat (go_big_quiet_step (first | (go_at_call 86; exact qc (HC.out _))))
        refine wpQuiet_nil ?_
        rintro _ ⟨g1, rfl⟩
        go_wp2_with (fail)
        go_roundw
        case rel => exact ⟨k + 1, by go_num, by omega, Lib.hid (zip_all_take HX.out HY.out hz.out HR.out), g1, rfl⟩
        case measure => simp [intOf]; omega
    · obtain rfl : k = la.length := by omega
      go_wp2_with (fail)
      go_ret
      exact ⟨ret_bool (zip_all_end HL.out hz.out).symm, g0.h⟩
theorem r2subset (a b c d : Int) (w : World) : Calls Try.prog 88 #[.agg #[.int .i64 a, .int .i64 b], .agg #[.int .i64 c, .int .i64 d]] w fun e w' => e = .returned (.bool (decide (c ≤ a) && decide (b ≤ d))) ∧ Below w.heap.size w w' := by
  by_cases h1 : c ≤ a
  · by_cases h2 : b ≤ d
    · simpa [h1, h2] using r2subset_0 a b c d w h1 (by simpa using h2)
    · simpa [h1, h2] using r2subset_1 a b c d w h1 (by simpa using h2)
  · simpa [h1] using r2subset_2 a b c d w (by omega)
set_option maxHeartbeats 4000000 in
theorem r3subset (va vb : Value) (la : List (Int × Int)) (lb : List (Int × Int)) (w : World) (hva : Bx w va la) (hvb : Bx w vb lb) (hlen : lb.length = la.length) :
    Calls Try.prog 34 #[va, vb] w fun e w' => e = .returned (.bool ((la.zip lb).all sub1)) ∧ Below w.heap.size w w' := by
  have hl := hva.1
  unfold maxLen at hl
  obtain ⟨pa, ca, rfl⟩ := hva.cut
  obtain ⟨pb, cb, rfl⟩ := hvb.cut
  have HA := Lib.hid hva
  have HB := Lib.hid hvb
  have HL := Lib.hid hlen
  clear hva hvb hlen
  go_enter Try.func34, Try.ntmps34
  go_wp2_with (fail)
  go_loopw [5] (fun i wr => ∃ k : Nat, i = .int .i64 k ∧ k ≤ la.length ∧ Hid (((la.zip lb).take k).all sub1 = true) ∧ ∃ g : Grown w, wr = g.w) (fun i _ => la.length - (intOf i).toNat)
  case atStart => exact ⟨0, rfl, Nat.zero_le _, Lib.hid (by simp), ⟨w, Below.refl _ _⟩, rfl⟩
  case round =>
    obtain ⟨k, rfl, hk, hz, g0, rfl⟩ := hrel
    by_cases hlt : k < la.length
    · have hlt2 : k < lb.length := by rw [HL.out]; exact hlt
      obtain ⟨x, y, hx⟩ : ∃ x y, la[k]? = some (x, y) := ⟨la[k].1, la[k].2, List.getElem?_eq_getElem hlt⟩
      obtain ⟨z1, z2, hy⟩ : ∃ z1 z2, lb[k]? = some (z1, z2) := ⟨lb[k].1, lb[k].2, List.getElem?_eq_getElem hlt2⟩
      obtain ⟨ba, oa, hpa, hba, rdA⟩ := HA.out.rd2 hx
      obtain ⟨bb, ob, hpb, hbb, rdB⟩ := HB.out.rd2 hy
      subst hpa hpb
      have HX := Lib.hid hx
      have HY := Lib.hid hy
      clear hx hy
      have sA := fun g => (rdA g).1
      have fA := fun g => (rdA g).2.1
      have gA := fun g => (rdA g).2.2
      have sB := fun g => (rdB g).1
      have fB := fun g => (rdB g).2.1
      have gB := fun g => (rdB g).2.2
      clear rdA rdB
      have i1 : (k : Int) < la.length := by omega
      have i2 : (k : Int) < lb.length := by omega
      obtain ⟨r, hr⟩ : ∃ r, sub1 ((x, y), (z1, z2)) = r := ⟨_, rfl⟩
      have cc : ∀ w, Calls Try.prog 88 #[.agg #[.int .i64 x, .int .i64 y], .agg #[.int .i64 z1, .int .i64 z2]] w fun e w' => e = .returned (.bool r) ∧ Below w.heap.size w w' := fun w => (r2subset x y z1 z2 w).mono fun e w' ⟨h, hB⟩ => ⟨h.trans (congrArg (fun q => Ending.returned (.bool q)) hr), hB⟩
      have HC := Lib.hid cc
      have HR := Lib.hid hr
      clear cc hr
      cases r
      · go_wp2_with (fail)
        refine region_quiet' g0 (by kernel_rfl) (by kernel_rfl) ?_
        repeat (go_big_quiet_step (first | (go_at_call 88; exact qc (HC.out _))))
        refine wpQuiet_nil ?_
        rintro _ ⟨g1, rfl⟩
        go_wp2_with (fail)
        go_ret
        exact ⟨ret_bool (zip_all_no HX.out HY.out HR.out).symm, g1.h⟩
      · go_wp2_with (fail)
        refine region_quiet' g0 (by kernel_rfl) (by kernel_rfl) ?_
        repeat (go_big_quiet_step (first | (go_at_call 88; exact qc (HC.out _))))
        refine wpQuiet_nil ?_
        rintro _ ⟨g1, rfl⟩
        go_wp2_with (fail)
        go_roundw
        case rel => exact ⟨k + 1, by go_num, by omega, Lib.hid (zip_all_take HX.out HY.out hz.out HR.out), g1, rfl⟩
        case measure => simp [intOf]; omega
    · obtain rfl : k = la.length := by omega
      go_wp2_with (fail)
      go_ret
      exact ⟨ret_bool (zip_all_end HL.out hz.out).symm, g0.h⟩
set_option maxHeartbeats 1000000 in
theorem r3width (v : Value) (l : List (Int × Int)) (w : World) (hv : Bx w v l) (hV : ∀ p ∈ l, VB p) :
    Calls Try.prog 51 #[v] w fun e w' => e = .returned (.int .i64 (wmax l)) ∧ Below w.heap.size w w' := by
  obtain ⟨hl, p, c, rfl, hp⟩ := hv
  unfold maxLen at hl
  have HV := Lib.hid hV
  clear hV
  go_enter Try.func51, Try.ntmps51
  go_wp2_with (fail)
  go_loopw [3, 4] (fun s i wr => ∃ (k : Nat) (m : Int), i = .int .i64 k ∧ k ≤ l.length ∧ s = .int .i64 m ∧ Hid (m = wmax (l.take k)) ∧ Below w.heap.size w wr) (fun _ i _ => l.length - (intOf i).toNat)
  case atStart => exact ⟨0, 0, rfl, Nat.zero_le _, rfl, Lib.hid (by simp [wmax]), Below.refl _ _⟩
  case round =>
    obtain ⟨k, m, rfl, hk, rfl, hm, hB⟩ := hrel
    by_cases hlt : k < l.length
    · obtain ⟨b, o, x, y, rfl, hx, hb, c1, c2⟩ := Bx.at (c := 0) (n := 0) hp hlt hB
      have hlk : (k : Int) < l.length := by omega
      have hVx : VI x y := HV.out _ (List.mem_of_getElem? hx)
      have HX := Lib.hid hx
      have hbw : b < wr.heap.size := Nat.lt_of_lt_of_le hb hB.size
      have hsz := hB.size
      have cw := fun w => r2width x y w hVx.bd.1 hVx.bd.2.1 hVx.bd.2.2.1 hVx.bd.2.2.2.1
      clear hp hx hVx
      obtain ⟨q, hq⟩ : ∃ q, y - x = q := ⟨_, rfl⟩
      rw [hq] at cw
      have HQ := Lib.hid hq
      clear hq
      go_wp2_with (fail)
      refine (cw _).mono ?_
      rintro e w5 ⟨rfl, hB5⟩
      go_wp2_with (fail)
      go_roundw
      case rel =>
        refine ⟨k + 1, _, by go_num, by omega, rfl, ?_, below_then hB hB5⟩
        refine Lib.hid ?_
        rw [List.take_add_one, HX.out, hm.out, ← HQ.out]
        simp [wmax, wdt]
      case measure => simp [intOf]; omega
    · obtain rfl : k = l.length := by omega
      go_wp2_with (fail)
      go_ret
      refine ⟨ret_int ?_, hB⟩
      rw [hm.out, List.take_of_length_le (Nat.le_refl _)]
theorem wat_at {l : List (Int × Int)} {k : Nat} {x y : Int} (h : l[k]? = some (x, y)) : wat l k = y - x := by simp [wat, h, wdt]
theorem wat_nn (l : List (Int × Int)) (hV : ∀ p ∈ l, VB p) (k : Nat) : 0 ≤ wat l k := by
  unfold wat
  cases h : l[k]? with
  | none => simp [wdt]
  | some p =>
    have := VI.bd (hV p (List.mem_of_getElem? h))
    simp only [Option.getD_some, wdt]
    omega
theorem axn_spec (l : List (Int × Int)) : ∀ n, 0 < n → axn l n < n ∧ (∀ j, j < n → wat l j ≤ wat l (axn l n)) ∧ ∀ j, j < axn l n → wat l j < wat l (axn l n)
  | 0, h => absurd h (by decide)
  | 1, _ => by
    have e : axn l 1 = 0 := by simp [axn]
    rw [e]
    exact ⟨by decide, fun j hj => by obtain rfl : j = 0 := (by omega); exact Int.le_refl _, fun j hj => by omega⟩
  | n + 2, _ => by
    obtain ⟨h1, h2, h3⟩ := axn_spec l (n + 1) (by omega)
    rw [show axn l (n + 2) = if wat l (axn l (n + 1)) < wat l (n + 1) then n + 1 else axn l (n + 1) from rfl]
    by_cases hc : wat l (axn l (n + 1)) < wat l (n + 1)
    · rw [if_pos hc]
      refine ⟨by omega, fun j hj => ?_, fun j hj => ?_⟩
      · by_cases e : j = n + 1
        · rw [e]; exact Int.le_refl _
        · have := h2 j (by omega); omega
      · have := h2 j (by omega); omega
    · rw [if_neg hc]
      refine ⟨by omega, fun j hj => ?_, h3⟩
      by_cases e : j = n + 1
      · rw [e]; omega
      · exact h2 j (by omega)
theorem wmax_fold : ∀ (l : List (Int × Int)) (s : Int), s ≤ l.foldl (fun s p => max s (wdt p)) s ∧ (∀ p ∈ l, wdt p ≤ l.foldl (fun s p => max s (wdt p)) s) ∧ (l.foldl (fun s p => max s (wdt p)) s = s ∨ ∃ p ∈ l, l.foldl (fun s p => max s (wdt p)) s = wdt p)
  | [], s => ⟨Int.le_refl _, fun p h => by simp at h, .inl rfl⟩
  | q :: l, s => by
    obtain ⟨h1, h2, h3⟩ := wmax_fold l (max s (wdt q))
    rw [List.foldl_cons]
    refine ⟨by omega, fun p hp => ?_, ?_⟩
    · rcases List.mem_cons.1 hp with rfl | hp
      · omega
      · exact h2 p hp
    · rcases h3 with h3 | ⟨p, hp, h3⟩
      · rw [h3]
        by_cases hc : s ≤ wdt q
        · exact .inr ⟨q, by simp, by omega⟩
        · exact .inl (by omega)
      · exact .inr ⟨p, by simp [hp], h3⟩
theorem wmax_axn (l : List (Int × Int)) (hV : ∀ p ∈ l, VB p) (h : 0 < l.length) : wmax l = wat l (axn l l.length) := by
  obtain ⟨h1, h2, h3⟩ := axn_spec l l.length h
  obtain ⟨g1, g2, g3⟩ := wmax_fold l 0
  have e : ∀ j, j < l.length → wat l j ≤ wmax l := fun j hj => by
    have := g2 l[j] (List.getElem_mem hj)
    unfold wat
    rw [List.getElem?_eq_getElem hj]
    exact this
  have a := e _ h1
  rcases g3 with g3 | ⟨p, hp, g3⟩
  · have := wat_nn l hV (axn l l.length)
    unfold wmax at *
    omega
  · obtain ⟨j, hj⟩ := List.mem_iff_getElem?.1 hp
    have hjl : j < l.length := (List.getElem?_eq_some_iff.1 hj).1
    have := h2 j hjl
    have e2 : wat l j = wdt p := by unfold wat; rw [hj]; rfl
    unfold wmax at *
    omega
theorem axn_first (l : List (Int × Int)) (hV : ∀ p ∈ l, VB p) (k : Nat) (hk : k < l.length) (h : wat l k = wmax l) (g : ∀ j, j < k → wat l j ≠ wmax l) : k = axn l l.length := by
  obtain ⟨h1, h2, h3⟩ := axn_spec l l.length (by omega)
  have e := wmax_axn l hV (by omega)
  rcases Nat.lt_trichotomy k (axn l l.length) with c | c | c
  · have := h3 k c
    omega
  · exact c
  · exact absurd e.symm (g _ c)
set_option maxHeartbeats 4000000 in
theorem r3axis (v : Value) (l : List (Int × Int)) (w : World) (hv : Bx w v l) (hV : ∀ p ∈ l, VB p) (hne : 0 < l.length) :
    Calls Try.prog 53 #[v] w fun e w' => e = .returned (.int .i64 (axn l l.length)) ∧ Below w.heap.size w w' := by
  have hl := hv.1
  unfold maxLen at hl
  have cwid := fun (g : Grown w) => r3width v l g.w (hv.grow g.h) hV
  obtain ⟨p, c, rfl⟩ := hv.cut
  have HA := Lib.hid hv
  have HV := Lib.hid hV
  have HWD := Lib.hid cwid
  have HNE := Lib.hid hne
  clear hv hV cwid hne
  go_enter Try.func53, Try.ntmps53
  go_wp2_with (fail)
  go_loopw [3] (fun i wr => ∃ k : Nat, i = .int .i64 k ∧ k ≤ l.length ∧ Hid (∀ j, j < k → wat l j ≠ wmax l) ∧ ∃ g : Grown w, wr = g.w) (fun i _ => l.length - (intOf i).toNat)
  case atStart => exact ⟨0, rfl, Nat.zero_le _, Lib.hid (fun j h => by omega), ⟨w, Below.refl _ _⟩, rfl⟩
  case round =>
    obtain ⟨k, rfl, hk, hz, g0, rfl⟩ := hrel
    by_cases hlt : k < l.length
    · obtain ⟨x, y, hx⟩ : ∃ x y, l[k]? = some (x, y) := ⟨l[k].1, l[k].2, List.getElem?_eq_getElem hlt⟩
      obtain ⟨ba, oa, hpa, hba, rdA⟩ := HA.out.rd2 hx
      subst hpa
      have hVx : VI x y := HV.out _ (List.mem_of_getElem? hx)
      have cw := fun w => r2width x y w hVx.bd.1 hVx.bd.2.1 hVx.bd.2.2.1 hVx.bd.2.2.2.1
      have HWT := Lib.hid (wat_at hx)
      clear hx hVx
      have fA := (rdA g0).2.1
      have gA := (rdA g0).2.2
      clear rdA
      have i1 : (k : Int) < l.length := by omega
      obtain ⟨q, hq⟩ : ∃ q, y - x = q := ⟨_, rfl⟩
      rw [hq] at cw HWT
      clear hq
      have HWD' := HWD.out
      obtain ⟨W, hW⟩ : ∃ W, wmax l = W := ⟨_, rfl⟩
      rw [hW] at HWD'
      have HC := Lib.hid HWD'
      have HM := Lib.hid hW
      clear HWD' hW
      have HCW := Lib.hid cw
      clear cw
      by_cases he : q = W
      · subst he
        go_wp2_with (fail)
        refine (HCW.out _).mono ?_
        rintro e w5 ⟨rfl, hB5⟩
        obtain ⟨g1, rfl⟩ := grow g0 hB5
        clear hB5
        go_wp2_with (fail)
        refine (HC.out g1).mono ?_
        rintro e w6 ⟨rfl, hB6⟩
        obtain ⟨g2, rfl⟩ := grow g1 hB6
        clear hB6
        go_wp2_with (fail)
        go_ret
        refine ⟨?_, g2.h⟩
        rw [← axn_first l HV.out k hlt (HWT.out.trans HM.out.symm) hz.out]
        rfl
      · have hne : (q == W) = false := by
          rw [beq_eq_false_iff_ne]
          exact he
        have HE := Lib.hid he
        clear he
        go_wp2_with (fail)
        refine (HCW.out _).mono ?_
        rintro e w5 ⟨rfl, hB5⟩
        obtain ⟨g1, rfl⟩ := grow g0 hB5
        clear hB5
        go_wp2_with (fail)
        refine (HC.out g1).mono ?_
        rintro e w6 ⟨rfl, hB6⟩
        obtain ⟨g2, rfl⟩ := grow g1 hB6
        clear hB6
        go_wp2_with (fail)
        go_roundw
        case rel =>
          refine ⟨k + 1, by go_num, by omega, Lib.hid (fun j hj => ?_), g2, rfl⟩
          by_cases e : j = k
          · subst e
            rw [HWT.out, HM.out]
            exact HE.out
          · exact hz.out j (by omega)
        case measure => simp [intOf]; omega
    · obtain rfl : k = l.length := by omega
      exfalso
      have s := axn_spec l l.length HNE.out
      exact hz.out _ s.1 (wmax_axn l HV.out HNE.out).symm
end Go.Proofs.Ytpepgheocemjdaa
