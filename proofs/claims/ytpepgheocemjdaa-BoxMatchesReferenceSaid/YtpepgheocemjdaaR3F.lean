/-
  The reference's Intersect.
-/
import Derived.Test.YtpepgheocemjdaaR3D
import Derived.Test.YtpepgheocemjdaaPredS
namespace Go.Proofs.Ytpepgheocemjdaa
open Go.ChangeShapes Go.WideShapes Go.ChangeAt Go.RowKit
set_option linter.unusedVariables false
set_option linter.unusedSimpArgs false
set_option maxRecDepth 100000

attribute [local irreducible] Calls
def lkTo (a : Act) (w w' : World) : List (Tmp × (Value → World → Prop)) → List (Tmp × (Value → World → Prop)) → Prop
  | [], [] => True
  | (d, S) :: r, (d', S') :: r' => d = d' ∧ (∀ v, a.tmps[d]? = some v → S v w → S' v w') ∧ lkTo a w w' r r'
  | _, _ => False
theorem lkTo_ok {a : Act} {w w' : World} : ∀ (l l' : List (Tmp × (Value → World → Prop))), lkTo a w w' l l' → ∀ t v, a.tmps[t]? = some v → lk l t v w → lk l' t v w'
  | [], [], _, _, _, _, h => h
  | [], _ :: _, h, _, _, _, _ => h.elim
  | _ :: _, [], h, _, _, _, _ => h.elim
  | (d, S) :: r, (d', S') :: r', ⟨e, h1, h2⟩, t, v, hv, h => by
    subst e
    unfold lk at *
    by_cases hd : Nat.beq d t = true
    · rw [if_pos hd] at *
      have := Nat.eq_of_beq_eq_true hd
      subst this
      exact h1 v hv h
    · rw [if_neg hd] at *
      exact lkTo_ok r r' h2 t v hv h
def S8 (base : World) (p1 p2 : Int) (b : Bool) : Value → World → Prop := fun u w' => ∃ X, u = .pointer (some ⟨X, 0, none⟩) ∧ base.heap.size ≤ X ∧ IvBox w' X (if b = true then (p1, p2) else (0, 0))
theorem S8_steady (base : World) (p1 p2 : Int) (b : Bool) : ∀ u w1 w2, Below w1.heap.size w1 w2 → S8 base p1 p2 b u w1 → S8 base p1 p2 b u w2 := fun u w1 w2 hb ⟨X, h1, h2, h3⟩ => ⟨X, h1, h2, (hb.block X h3.lt).trans h3⟩
section
variable (wr : World) (ba oa bb ob ca cb : Nat) (la lb m : List (Int × Int)) (x y z1 z2 p1 p2 : Int) (ok : Bool)
def lM (b : Bool) : List (Tmp × (Value → World → Prop)) := [(18, fun u _ => u = .slice (some ⟨ba, oa, none⟩) la.length ca), (19, fun u _ => u = .int .i64 (m.length : Int)), (20, fun u _ => u = .pointer (some ⟨ba, oa + m.length * 2, none⟩)), (21, fun u _ => u = .agg #[.int .i64 x, .int .i64 y]), (22, fun u _ => u = .slice (some ⟨bb, ob, none⟩) lb.length cb), (23, fun u _ => u = .int .i64 (m.length : Int)), (24, fun u _ => u = .pointer (some ⟨bb, ob + m.length * 2, none⟩)), (25, fun u _ => u = .agg #[.int .i64 z1, .int .i64 z2]), (26, fun u _ => u = .tuple #[.agg #[.int .i64 p1, .int .i64 p2], .bool ok]), (17, fun u _ => u = .tuple #[.agg #[.int .i64 p1, .int .i64 p2], .bool ok]), (27, fun u _ => u = .agg #[.int .i64 p1, .int .i64 p2]), (28, fun u _ => u = .bool ok), (8, S8 wr p1 p2 b), (9, fun u _ => u = .bool ok)]
def phiM (b : Bool) : Tmp → Value → World → Prop := lk (lM wr ba oa bb ob ca cb la lb m x y z1 z2 p1 p2 ok b)
theorem phiM_steady : ∀ b t v w1 w2, Below w1.heap.size w1 w2 → phiM wr ba oa bb ob ca cb la lb m x y z1 z2 p1 p2 ok b t v w1 → phiM wr ba oa bb ob ca cb la lb m x y z1 z2 p1 p2 ok b t v w2 := fun b => lk_steady _ ⟨steady_eq _, steady_eq _, steady_eq _, steady_eq _, steady_eq _, steady_eq _, steady_eq _, steady_eq _, steady_eq _, steady_eq _, steady_eq _, steady_eq _, S8_steady wr p1 p2 b, steady_eq _, trivial⟩
end
set_option maxHeartbeats 8000000 in
theorem r3meet (va vb : Value) (la lb : List (Int × Int)) (w : World) (hva : Bx w va la) (hvb : Bx w vb lb) (hlen : lb.length = la.length) (hv : ∀ z ∈ la.zip lb, VB z.1 ∧ VB z.2) (hsm : la.length ≤ 1000) :
    Calls Try.prog 25 #[va, vb] w fun e w' => ∃ v, e = .returned (.tuple #[v, .bool ((la.zip lb).all okM)]) ∧ ((la.zip lb).all okM = true → Bx w' v ((la.zip lb).map meetI)) ∧ ((la.zip lb).all okM = false → v = .slice none 0 0) ∧ Below w.heap.size w w' := by
  obtain ⟨i0, hi, hz0, hz1, hz2⟩ := info_parts info_iv
  obtain ⟨pa, ca, rfl⟩ := hva.cut
  obtain ⟨pb, cb, rfl⟩ := hvb.cut
  have hl := hva.1
  unfold maxLen at hl
  have HA := Lib.hid hva
  have HB := Lib.hid hvb
  have HL := Lib.hid hlen
  have HV := Lib.hid hv
  clear hva hvb hlen hv
  go_enter Try.func25, Try.ntmps25
  go_wp2_with (fail)
  go_loopw [6, 7] (fun u i wr => ∃ m : List (Int × Int), i = .int .i64 m.length ∧ m.length ≤ la.length ∧ Hid (m = ((la.zip lb).map meetI).take m.length) ∧ Hid (((la.zip lb).take m.length).all okM = true) ∧ OwnB w.heap.size wr u m ∧ Below w.heap.size w wr) (fun _ i _ => la.length - (intOf i).toNat)
  case atStart => exact ⟨[], rfl, Nat.zero_le _, Lib.hid (by simp), Lib.hid (by simp), ⟨w.heap.size, 0, rfl, by simpa [cz] using World.ownsRow_made (e := 23) (size := 2) w #[] 0 (Nat.le_refl _) (by decide) rfl⟩, (Below.refl _ _).alloc (Nat.le_refl _) _⟩
  case round =>
    obtain ⟨m, rfl, hm, HT, HO', ⟨g, cap, rfl, hown⟩, hB⟩ := hrel
    by_cases hlt : m.length < la.length
    · skip
      have hlt2 : m.length < lb.length := by rw [HL.out]; exact hlt
      obtain ⟨x, y, hx⟩ : ∃ x y, la[m.length]? = some (x, y) := ⟨la[m.length].1, la[m.length].2, List.getElem?_eq_getElem hlt⟩
      obtain ⟨z1, z2, hy⟩ : ∃ z1 z2, lb[m.length]? = some (z1, z2) := ⟨lb[m.length].1, lb[m.length].2, List.getElem?_eq_getElem hlt2⟩
      have hz : (la.zip lb)[m.length]? = some ((x, y), (z1, z2)) := List.getElem?_zip_eq_some.2 ⟨hx, hy⟩
      have hv1 : VI x y := (HV.out _ (at_mem hz)).1
      have hv2 : VI z1 z2 := (HV.out _ (at_mem hz)).2
      obtain ⟨ba, oa, hpa, hba, rdA⟩ := (HA.out.grow hB).rd2 hx
      obtain ⟨bb, ob, hpb, hbb, rdB⟩ := (HB.out.grow hB).rd2 hy
      subst hpa hpb
      have fA := fun g => (rdA g).2.1
      have gA := fun g => (rdA g).2.2
      have fB := fun g => (rdB g).2.1
      have gB := fun g => (rdB g).2.2
      clear rdA rdB
      have i1 : (m.length : Int) < la.length := by omega
      have i2 : (m.length : Int) < lb.length := by omega
      have HX := Lib.hid (zip_some (g := meetI) hx hy)
      have hgw := (hown.lt g rfl).2
      have HC0 : Hid (∃ p1 p2 ok, (okM ((x, y), (z1, z2)) = ok) ∧ (ok = true → (p1, p2) = meetI ((x, y), (z1, z2))) ∧ ∀ w, Calls Try.prog 84 #[.agg #[.int .i64 x, .int .i64 y], .agg #[.int .i64 z1, .int .i64 z2]] w fun e w' => e = .returned (.tuple #[.agg #[.int .i64 p1, .int .i64 p2], .bool ok]) ∧ Below w.heap.size w w') := Lib.hid (by
        by_cases ho : max x z1 ≤ min y z2
        · exact ⟨_, _, true, by simp only [okM, ho, decide_true], fun _ => rfl, fun w => r2meet_yes x y z1 z2 w ho⟩
        · exact ⟨_, _, false, by simp only [okM, ho, decide_false], fun h => by (cases h), fun w => r2meet_no x y z1 z2 w (by omega)⟩)
      obtain ⟨p1, p2, ok, hok, hpp, hcc⟩ := HC0.out
      have HC := Lib.hid hcc
      have HK := Lib.hid hok
      have HP := Lib.hid hpp
      have HXX := Lib.hid hx
      have HYY := Lib.hid hy
      clear hx hy hz hv1 hv2 hcc hok hpp HC0
      go_wp2_with (fail)
      refine region_pred_s (phiM wr ba oa bb ob ca cb la lb m x y z1 z2 p1 p2 ok) 13 _ rfl (by kernel_rfl) (by kernel_rfl) (phiM_steady wr ba oa bb ob ca cb la lb m x y z1 z2 p1 p2 ok) ?_ ?_ ?_
      · refine ⟨?_, ?_, ?_, ?_, ?_, ?_, ?_, ?_, ?_, ?_, ?_, ?_, ?_, ?_, ?_, trivial⟩
        · intro _ b _
          refine ob_plain [0] rfl rfl fun aa gg h => ?_
          have r0 := seen_out (v := .slice (some ⟨ba, oa, none⟩) la.length ca) rfl rfl h.1
          have e0 := getD_of r0
          exact upon_value (v := .slice (some ⟨ba, oa, none⟩) la.length ca) (by simp [go_sem, e0, r0]) (Below.refl _ _) rfl
        · intro _ b _
          refine ob_plain [7] rfl rfl fun aa gg h => ?_
          have r0 := seen_out (v := .int .i64 (m.length : Int)) rfl rfl h.1
          have e0 := getD_of r0
          exact upon_value (v := .int .i64 (m.length : Int)) (by simp [go_sem, e0, r0]) (Below.refl _ _) rfl
        · intro _ b _
          refine ob_plain [18, 19] rfl rfl fun aa gg h => ?_
          obtain ⟨_, r0, rfl⟩ := seen_in rfl h.1
          have e0 := getD_of r0
          obtain ⟨_, r1, rfl⟩ := seen_in rfl h.2.1
          have e1 := getD_of r1
          exact upon_value (v := .pointer (some ⟨ba, oa + m.length * 2, none⟩)) (by simp [go_sem, e0, r0, e1, r1, i1]) (Below.refl _ _) rfl
        · intro _ b _
          refine ob_plain [20] rfl rfl fun aa gg h => ?_
          obtain ⟨_, r0, rfl⟩ := seen_in rfl h.1
          have e0 := getD_of r0
          exact upon_value (v := .agg #[.int .i64 x, .int .i64 y]) (by simp [go_sem, e0, r0, fA gg, gA gg]) (Below.refl _ _) rfl
        · intro _ b _
          refine ob_plain [1] rfl rfl fun aa gg h => ?_
          have r0 := seen_out (v := .slice (some ⟨bb, ob, none⟩) lb.length cb) rfl rfl h.1
          have e0 := getD_of r0
          exact upon_value (v := .slice (some ⟨bb, ob, none⟩) lb.length cb) (by simp [go_sem, e0, r0]) (Below.refl _ _) rfl
        · intro _ b _
          refine ob_plain [7] rfl rfl fun aa gg h => ?_
          have r0 := seen_out (v := .int .i64 (m.length : Int)) rfl rfl h.1
          have e0 := getD_of r0
          exact upon_value (v := .int .i64 (m.length : Int)) (by simp [go_sem, e0, r0]) (Below.refl _ _) rfl
        · intro _ b _
          refine ob_plain [22, 23] rfl rfl fun aa gg h => ?_
          obtain ⟨_, r0, rfl⟩ := seen_in rfl h.1
          have e0 := getD_of r0
          obtain ⟨_, r1, rfl⟩ := seen_in rfl h.2.1
          have e1 := getD_of r1
          exact upon_value (v := .pointer (some ⟨bb, ob + m.length * 2, none⟩)) (by simp [go_sem, e0, r0, e1, r1, i2]) (Below.refl _ _) rfl
        · intro _ b _
          refine ob_plain [24] rfl rfl fun aa gg h => ?_
          obtain ⟨_, r0, rfl⟩ := seen_in rfl h.1
          have e0 := getD_of r0
          exact upon_value (v := .agg #[.int .i64 z1, .int .i64 z2]) (by simp [go_sem, e0, r0, fB gg, gB gg]) (Below.refl _ _) rfl
        · intro _ b _
          refine ob_plain [21, 25] rfl rfl fun aa gg h => ?_
          obtain ⟨_, r0, rfl⟩ := seen_in rfl h.1
          have e0 := getD_of r0
          obtain ⟨_, r1, rfl⟩ := seen_in rfl h.2.1
          have e1 := getD_of r1
          exact upon_enter (f := 84) (args := #[.agg #[.int .i64 x, .int .i64 y], .agg #[.int .i64 z1, .int .i64 z2]]) (by simp [go_sem, e0, r0, e1, r1]) rfl ((HC.out _).mono fun e w' ⟨h, hB⟩ => ⟨_, h, hB, rfl⟩)
        · intro _ b _
          refine ob_plain [26] rfl rfl fun aa gg h => ?_
          obtain ⟨_, r0, rfl⟩ := seen_in rfl h.1
          have e0 := getD_of r0
          exact upon_value (v := .tuple #[.agg #[.int .i64 p1, .int .i64 p2], .bool ok]) (by simp [go_sem, e0, r0]) (Below.refl _ _) rfl
        · intro _ b _
          refine ob_plain [17] rfl rfl fun aa gg h => ?_
          obtain ⟨_, r0, rfl⟩ := seen_in rfl h.1
          have e0 := getD_of r0
          exact upon_value (v := .agg #[.int .i64 p1, .int .i64 p2]) (by simp [go_sem, e0, r0]) (Below.refl _ _) rfl
        · intro _ b _
          refine ob_plain [17] rfl rfl fun aa gg h => ?_
          obtain ⟨_, r0, rfl⟩ := seen_in rfl h.1
          have e0 := getD_of r0
          exact upon_value (v := .bool ok) (by simp [go_sem, e0, r0]) (Below.refl _ _) rfl
        · intro _ b hb
          cases b
          · refine ob_plain [] rfl rfl fun aa gg h => ?_
            exact upon_value (v := .pointer (some ⟨gg.w.heap.size, 0, none⟩)) (w1 := gg.w.alloc (.cells #[.int .i64 0, .int .i64 0] 23)) (by simp [go_sem]) ((Below.refl _ _).alloc (Nat.le_refl _) _) ⟨_, rfl, gg.h.size, World.alloc_heap_new _ _⟩
          · have hx := hb rfl
            exact absurd hx (by first | decide | decide +kernel)
        · exact fun h => absurd rfl h
        · intro _ b _
          refine ob_plain [28] rfl rfl fun aa gg h => ?_
          obtain ⟨_, r0, rfl⟩ := seen_in rfl h.1
          have e0 := getD_of r0
          exact upon_value (v := .bool ok) (by simp [go_sem, e0, r0]) (Below.refl _ _) rfl
      · intro aa gg h
        obtain ⟨_, r0, X, rfl, hX, hI⟩ := seen_in rfl h.1
        have e0 := getD_of r0
        obtain ⟨_, r1, rfl⟩ := seen_in rfl h.2.1
        have e1 := getD_of r1
        have hI' : IvBox gg.w X (0, 0) := hI
        have q0 := hI'.cell0
        have q1 := hI'.cell1
        have q2 := hI'.frozen 0
        have q3 := hI'.frozen 1
        have hK := hI'.set p1 p2
        dsimp only at q0 q1
        refine ⟨(gg.w.setCell ⟨X, 0, none⟩ (.int .i64 p1)).setCell ⟨X, 1, none⟩ (.int .i64 p2), by simp [go_sem, e0, r0, e1, r1, q0, q1, q2, q3], (gg.h.setCell (p := ⟨X, 0, none⟩) hX _).setCell (p := ⟨X, 1, none⟩) hX _, ?_⟩
        refine lkTo_ok (lM wr ba oa bb ob ca cb la lb m x y z1 z2 p1 p2 ok false) (lM wr ba oa bb ob ca cb la lb m x y z1 z2 p1 p2 ok true) ⟨rfl, fun v _ h => h, rfl, fun v _ h => h, rfl, fun v _ h => h, rfl, fun v _ h => h, rfl, fun v _ h => h, rfl, fun v _ h => h, rfl, fun v _ h => h, rfl, fun v _ h => h, rfl, fun v _ h => h, rfl, fun v _ h => h, rfl, fun v _ h => h, rfl, fun v _ h => h, rfl, ?_, rfl, fun v _ h => h, trivial⟩
        rintro v hv ⟨X', rfl, hX', hI''⟩
        rw [r0] at hv
        have e := Option.some.inj hv
        simp only [Value.pointer.injEq, Option.some.injEq, Addr.mk.injEq, and_true] at e
        subst e
        exact ⟨X, rfl, hX, hK⟩
      rintro w5 hB5 _ rfl _ rfl _ rfl _ rfl _ rfl _ rfl _ rfl _ rfl _ rfl _ rfl _ rfl _ rfl _ ⟨nb, rfl, hn1, hI5⟩ _ rfl
      rename_i K hK
      refine hK _ _ ?_
      clear hK K
      simp only [Act.put, List.setIfInBounds_toArray, List.set_cons_succ, List.set_cons_zero]
      have hI5' : IvBox w5 nb (p1, p2) := hI5
      have m0 := hI5'.cell0
      have m1 := hI5'.cell1
      dsimp only at m0 m1
      have hsz := hB.size
      have hrow6 := hown.kept (grown_below hB5) (.inr (by simp [Value.ownBlock]))
      have hB7 : Below w.heap.size w w5 := below_then hB hB5
      have hg5 : w.heap.size ≤ w5.heap.size := hB7.size
      clear hI5 hI5'
      cases ok
      · have HN : Hid ((la.zip lb).all okM = false) := Lib.hid (zip_all_no HXX.out HYY.out HK.out)
        go_wp2_with (fail)
        go_ret2
        rw [HN.out]
        exact ⟨_, rfl, fun h => (by cases h), fun _ => rfl, hB7⟩
      · have HN : Hid (((la.zip lb).take (m.length + 1)).all okM = true) := Lib.hid (zip_all_take HXX.out HYY.out HO'.out HK.out)
        have HPP : Hid ((p1, p2) = meetI ((x, y), (z1, z2))) := Lib.hid (HP.out rfl)
        go_wp2_with (at_builtin; refine wpList_append_own _ rfl (.tmp 31) (.tmp 33) 36 rfl w.heap.size 23 i0 (.agg #[.int .i64 0, .int .i64 0]) 2 16 Try.underlying36 hi hz0 hz1 hz2 rfl (by decide) (.slice (some ⟨g, 0, none⟩) m.length cap) m.length _ rfl (hrow6.alloc _) ⟨w5.heap.size, 0, none⟩ 1 1 [.int .i64 p1, .int .i64 p2] rfl rfl (two_new _ _ _ _) (two_one _ _) (by unfold maxLen; omega) (by omega) (by first | omega | (simp; omega)) ?_)
        have hB8 := hB7.alloc hg5 (.cells #[.int .i64 p1, .int .i64 p2] 23)
        intro v' w6 hown' hgrow _
        obtain ⟨g', cap', rfl⟩ := ownsRow_succ hown'
        have hB9 : Below w.heap.size w w6 := Below.grown hB8 hgrow (by first | omega | (simp; omega)) (fun k hk => (hown.lt k hk).1)
        rw [← cz_snoc] at hown'
        have HO := Lib.hid hown'
        clear hown' hgrow
        skip
        go_wp2_with (fail)
        go_roundw
        case rel =>
          exact ⟨m ++ [(p1, p2)], by simp, by simp; omega, Lib.hid (take_snoc HT.out (HPP.out ▸ HX.out)), Lib.hid (by simpa using HN.out), ⟨g', cap', by simp, by simpa [] using HO.out⟩, hB9⟩
        case measure => simp [intOf]; omega
    · have hle : la.length ≤ m.length := by omega
      obtain hml : m.length = la.length := by omega
      have i1 : (la.length : Int) ≤ m.length := by omega
      have HB' := Lib.hid hB
      have hall : (la.zip lb).all okM = true := by
        have := HO'.out
        rwa [List.take_of_length_le (by rw [List.length_zip]; omega)] at this
      have HAL := Lib.hid hall
      clear hall
      go_wp2_with (fail)
      go_ret2
      have e := take_end HT.out (by rw [List.length_map, List.length_zip]; omega)
      rw [HAL.out]
      exact ⟨_, rfl, fun _ => e ▸ Bx.own hown (by unfold maxLen; omega), fun h => (by cases h), HB'.out⟩
end Go.Proofs.Ytpepgheocemjdaa
