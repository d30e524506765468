/-
  The reference's Made and Small for matrices.
  law04's made and small; the reference's Dim and SmallBox.
-/
import Derived.Test.YtmcdkbnpcmiojaaGreatInv
import Derived.Test.YtmcdkbnpcmiojaaGreatR1
import Derived.Test.YtmcdkbnpcmiojaaGreatMade
import Derived.Test.YtmcdkbnpcmiojaaGreatPredL
import Derived.Test.YtmcdkbnpcmiojaaGreatPredK
namespace Go.Proofs.YtmcdkbnpcmiojaaGreat
open Go.ChangeShapes Go.WideShapes Go.ChangeAt Go.RowKit
set_option linter.unusedVariables false
set_option linter.unusedSimpArgs false
set_option maxRecDepth 100000

attribute [local irreducible] Calls
theorem wrap_fit (n : Int) (h1 : -9223372036854775808 ≤ n) (h2 : n ≤ 9223372036854775807) : IntKind.i64.wrap n = n := by
  simp [IntKind.wrap, IntKind.bits, IntKind.signed]; omega
/-- A square of pairs of one kind. -/
def QM (Pr : Int × Int → Prop) (n : Nat) (M : List (List (Int × Int))) : Prop := M.length = n ∧ ∀ r ∈ M, r.length = n ∧ ∀ p ∈ r, Pr p
def Sm (p : Int × Int) : Prop := -16777216 < p.1 ∧ p.1 ≤ p.2 ∧ p.2 < 16777216
theorem vb_one : VB (65536, 65536) := .inr ⟨⟨by decide, by decide⟩, ⟨by decide, by decide⟩, by decide⟩
theorem sm_one : Sm (65536, 65536) := ⟨by decide, by decide, by decide⟩
theorem sm_zero : Sm (0, 0) := ⟨by decide, by decide, by decide⟩
theorem qm_set {Pr : Int × Int → Prop} {n i d : Nat} {M : List (List (Int × Int))} {r : List (Int × Int)} {x : Int × Int} (h : QM Pr n M) (hr : M[i]? = some r) (hx : Pr x) : QM Pr n (M.set i (r.set d x)) := by
  refine ⟨by rw [List.length_set]; exact h.1, fun s hs => ?_⟩
  have h0 := h.2 r (List.mem_of_getElem? hr)
  rcases List.mem_or_eq_of_mem_set hs with e | e
  · exact h.2 s e
  · subst e
    refine ⟨by rw [List.length_set]; exact h0.1, fun p hp => ?_⟩
    rcases List.mem_or_eq_of_mem_set hp with e | e
    · exact h0.2 p e
    · rw [e]
      exact hx
theorem qm_ident {Pr : Int × Int → Prop} (n : Nat) (h1 : Pr (65536, 65536)) (h0 : Pr (0, 0)) : QM Pr n (matOf idF n) := by
  refine ⟨by simp [matOf], fun r hr => ?_⟩
  simp only [matOf, List.mem_map] at hr
  obtain ⟨i, _, rfl⟩ := hr
  refine ⟨by simp [rowOf], fun p hp => ?_⟩
  simp only [rowOf, List.mem_map] at hp
  obtain ⟨j, _, rfl⟩ := hp
  unfold idF
  split
  · exact h1
  · exact h0
section
variable (O R ba oa c' c2 ca n k d q : Nat) (l : List (Int × Int)) (x y p1 p2 : Int)
def phi_r4made : Tmp → Value → World → Prop := lk [(30, fun u _ => u = .slice (some ⟨O, 0, none⟩) n c'), (31, fun u _ => u = .int .i64 (k : Int)), (32, fun u _ => u = .pointer (some ⟨O, k, none⟩)), (33, fun u _ => u = .slice (some ⟨R, 0, none⟩) n c2), (34, fun u _ => u = .int .i64 (d : Int)), (35, fun u _ => u = .slice (some ⟨ba, oa, none⟩) l.length ca), (36, fun u _ => u = .int .i64 (k : Int)), (37, fun u _ => u = .int .i64 (n : Int)), (38, fun u _ => u = .int .i64 (q : Int)), (39, fun u _ => u = .int .i64 (d : Int)), (40, fun u _ => u = .int .i64 ((q : Int) + (d : Int))), (41, fun u _ => u = .pointer (some ⟨ba, oa + (q + d) * 2, none⟩)), (42, fun u _ => u = .agg #[.int .i64 x, .int .i64 y]), (43, fun u _ => u = .agg #[.int .i64 p1, .int .i64 p2]), (44, fun u _ => u = .pointer (some ⟨R, d * 2, none⟩))]
theorem phi_r4made_steady : ∀ t v w1 w2, Below w1.heap.size w1 w2 → phi_r4made O R ba oa c' c2 ca n k d q l x y p1 p2 t v w1 → phi_r4made O R ba oa c' c2 ca n k d q l x y p1 p2 t v w2 := lk_steady _ ⟨steady_eq _, steady_eq _, steady_eq _, steady_eq _, steady_eq _, steady_eq _, steady_eq _, steady_eq _, steady_eq _, steady_eq _, steady_eq _, steady_eq _, steady_eq _, steady_eq _, steady_eq _, trivial⟩
end
set_option maxHeartbeats 8000000 in
theorem r4made (v : Value) (l : List (Int × Int)) (n : Nat) (w : World) (hv : Bx w v l) (h1 : 1 ≤ n) (h6 : n ≤ 6) (hb : ∀ p ∈ l, (-9223372036854775808 ≤ p.1 ∧ p.1 ≤ 9223372036854775807) ∧ -9223372036854775808 ≤ p.2 ∧ p.2 ≤ 9223372036854775807) :
    Calls Tryz.prog 33 #[v, .int .i64 (n : Int)] w fun e w' => ∃ u us M, e = .returned u ∧ QM VB n M ∧ OwnM w.heap.size w' u us M ∧ Below w.heap.size w w' := by
  have hl := hv.1
  unfold maxLen at hl
  obtain ⟨pa, ca, rfl⟩ := hv.shape rfl
  have HV := Lib.hid hv
  have HB0 := Lib.hid hb
  clear hv hb
  go_enter Tryz.func33, Tryz.ntmps33
  go_wp2_with (fail)
  refine (r4ident n _ h1 h6).mono ?_
  rintro e w1 ⟨u, us, rfl, hO1, hB1⟩
  have hml : (matOf idF n).length = n := by simp [matOf]
  obtain ⟨r1, hr1⟩ : ∃ r, (matOf idF n)[0]? = some r := ⟨_, List.getElem?_eq_getElem (by rw [hml]; omega)⟩
  obtain ⟨O, c', rfl⟩ : ∃ O c', u = .slice (some ⟨O, 0, none⟩) (matOf idF n).length c' := by
    obtain ⟨O, _, c', _, e, _⟩ := hO1.at hr1
    exact ⟨O, c', e⟩
  rw [hml] at hO1 ⊢
  have HO1 := Lib.hid hO1
  have HQ1 : Hid (QM VB n (matOf idF n)) := Lib.hid (qm_ident n vb_one vb_zero)
  clear hO1 hml hr1
  go_wp2_with (fail)
  go_loopw [6] (fun i wr => ∃ (k : Nat) (M : List (List (Int × Int))), i = .int .i64 k ∧ k ≤ n ∧ Hid (QM VB n M) ∧ Hid (OwnM w.heap.size wr (.slice (some ⟨O, 0, none⟩) n c') us M) ∧ Below w.heap.size w wr) (fun i _ => n - (intOf i).toNat)
  case atStart => exact ⟨0, _, rfl, Nat.zero_le _, HQ1, HO1, hB1⟩
  case round =>
    obtain ⟨k, M, rfl, hk, HQ, HO, hB⟩ := hrel
    by_cases hlt : k < n
    · have i0 : (k : Int) < n := by omega
      go_wp2_with (fail)
      go_loopw [7] (fun j wr => ∃ (d : Nat) (M : List (List (Int × Int))), j = .int .i64 d ∧ d ≤ n ∧ Hid (QM VB n M) ∧ Hid (OwnM w.heap.size wr (.slice (some ⟨O, 0, none⟩) n c') us M) ∧ Below w.heap.size w wr) (fun j _ => n - (intOf j).toNat)
      case atStart => exact ⟨0, M, rfl, Nat.zero_le _, HQ, HO, hB⟩
      case round =>
        clear hB HQ HO
        obtain ⟨d, M2, rfl, hd, HQ2, HO2, hB2⟩ := hrel
        by_cases hdn : d < n
        · have i1 : (d : Int) < n := by omega
          obtain ⟨q, hqn, hq36⟩ : ∃ q : Nat, k * n = q ∧ q ≤ 36 := ⟨k * n, rfl, Nat.le_trans (Nat.mul_le_mul (show k ≤ 6 by omega) h6) (by decide)⟩
          have hq : (k : Int) * (n : Int) = (q : Int) := by rw [← hqn]; push_cast; rfl
          have W1 := wrap_fit (q : Int) (by omega) (by omega)
          have W2 := wrap_fit ((q : Int) + (d : Int)) (by omega) (by omega)
          clear hqn
          by_cases hkl : q + d < l.length
          · have i3 : (q : Int) + (d : Int) < l.length := by omega
            have hT : ((q : Int) + (d : Int)).toNat = q + d := by omega
            have hN : ¬ ((q : Int) + (d : Int) < 0) := by omega
            obtain ⟨x, y, hx⟩ : ∃ x y, l[q + d]? = some (x, y) := ⟨l[q + d].1, l[q + d].2, List.getElem?_eq_getElem hkl⟩
            have hbd := HB0.out _ (List.mem_of_getElem? hx)
            obtain ⟨ba, oa, hpa, hba, rdA⟩ := (HV.out.grow hB2).rd2 hx
            subst hpa
            have fA := fun g => (rdA g).2.1
            have gA := fun g => (rdA g).2.2
            clear rdA
            obtain ⟨p1, p2, hpr, hcc⟩ : ∃ p1 p2, VB (p1, p2) ∧ ∀ w, Calls Tryz.prog 73 #[.agg #[.int .i64 x, .int .i64 y]] w fun e w' => e = .returned (.agg #[.int .i64 p1, .int .i64 p2]) ∧ Below w.heap.size w w' := r2made x y hbd.1.1 hbd.1.2 hbd.2.1 hbd.2.2
            have HC := Lib.hid hcc
            have HPR := Lib.hid hpr
            clear hcc hpr hbd hx
            obtain ⟨r, hr⟩ : ∃ r, M2[k]? = some r := ⟨_, List.getElem?_eq_getElem (by rw [HQ2.out.1]; exact hlt)⟩
            have hrn := (HQ2.out.2 r (List.mem_of_getElem? hr)).1
            obtain ⟨O', R, c'', c2, hv', hu, hO0, hO1, hR0, hR1, hOR, hcell, hrow⟩ := HO2.out.at hr
            simp only [Value.slice.injEq, Option.some.injEq, Addr.mk.injEq, and_true, true_and] at hv'
            obtain rfl : O = O' := hv'.1
            clear hv'
            rw [hrn] at hcell
            have fO := fun g : Grown wr => (g.cell hO1).trans hcell
            obtain ⟨z, hz⟩ : ∃ z, r[d]? = some z := ⟨_, List.getElem?_eq_getElem (by rw [hrn]; exact hdn)⟩
            have HR := Lib.hid hr
            have HU := Lib.hid hu
            have HRW := Lib.hid hrow
            have HRN := Lib.hid hrn
            have HZ := Lib.hid hz
            clear hr hu hrow hrn hz hcell
            go_wp2_with (fail)
            refine region_pred_l (phi_r4made O R ba oa c' c2 ca n k d q l x y p1 p2) 15 _ rfl (by kernel_rfl) (by kernel_rfl) (by kernel_rfl) (phi_r4made_steady O R ba oa c' c2 ca n k d q l x y p1 p2) ?_ ?_
            · refine ⟨?_, ?_, ?_, ?_, ?_, ?_, ?_, ?_, ?_, ?_, ?_, ?_, ?_, ?_, ?_, ?_, trivial⟩
              · intro _
                refine ob_plain [5] rfl rfl fun aa gg h => ?_
                have r0 := seen_out (v := .slice (some ⟨O, 0, none⟩) n c') rfl rfl h.1
                have e0 := getD_of r0
                exact upon_value (v := .slice (some ⟨O, 0, none⟩) n c') (by simp [go_sem, e0, r0]) (Below.refl _ _) rfl
              · intro _
                refine ob_plain [6] rfl rfl fun aa gg h => ?_
                have r0 := seen_out (v := .int .i64 (k : Int)) rfl rfl h.1
                have e0 := getD_of r0
                exact upon_value (v := .int .i64 (k : Int)) (by simp [go_sem, e0, r0]) (Below.refl _ _) rfl
              · intro _
                refine ob_plain [30, 31] rfl rfl fun aa gg h => ?_
                obtain ⟨_, r0, rfl⟩ := seen_in rfl h.1
                have e0 := getD_of r0
                obtain ⟨_, r1, rfl⟩ := seen_in rfl h.2.1
                have e1 := getD_of r1
                exact upon_value (v := .pointer (some ⟨O, k, none⟩)) (by simp [go_sem, e0, r0, e1, r1, i0]) (Below.refl _ _) rfl
              · intro _
                refine ob_plain [32] rfl rfl fun aa gg h => ?_
                obtain ⟨_, r0, rfl⟩ := seen_in rfl h.1
                have e0 := getD_of r0
                exact upon_value (v := .slice (some ⟨R, 0, none⟩) n c2) (by simp [go_sem, e0, r0, fO gg]) (Below.refl _ _) rfl
              · intro _
                refine ob_plain [7] rfl rfl fun aa gg h => ?_
                have r0 := seen_out (v := .int .i64 (d : Int)) rfl rfl h.1
                have e0 := getD_of r0
                exact upon_value (v := .int .i64 (d : Int)) (by simp [go_sem, e0, r0]) (Below.refl _ _) rfl
              · intro _
                refine ob_plain [0] rfl rfl fun aa gg h => ?_
                have r0 := seen_out (v := .slice (some ⟨ba, oa, none⟩) l.length ca) rfl rfl h.1
                have e0 := getD_of r0
                exact upon_value (v := .slice (some ⟨ba, oa, none⟩) l.length ca) (by simp [go_sem, e0, r0]) (Below.refl _ _) rfl
              · intro _
                refine ob_plain [6] rfl rfl fun aa gg h => ?_
                have r0 := seen_out (v := .int .i64 (k : Int)) rfl rfl h.1
                have e0 := getD_of r0
                exact upon_value (v := .int .i64 (k : Int)) (by simp [go_sem, e0, r0]) (Below.refl _ _) rfl
              · intro _
                refine ob_plain [1] rfl rfl fun aa gg h => ?_
                have r0 := seen_out (v := .int .i64 (n : Int)) rfl rfl h.1
                have e0 := getD_of r0
                exact upon_value (v := .int .i64 (n : Int)) (by simp [go_sem, e0, r0]) (Below.refl _ _) rfl
              · intro _
                refine ob_plain [36, 37] rfl rfl fun aa gg h => ?_
                obtain ⟨_, r0, rfl⟩ := seen_in rfl h.1
                have e0 := getD_of r0
                obtain ⟨_, r1, rfl⟩ := seen_in rfl h.2.1
                have e1 := getD_of r1
                exact upon_value (v := .int .i64 (q : Int)) (by simp [go_sem, e0, r0, e1, r1, hq, W1]) (Below.refl _ _) rfl
              · intro _
                refine ob_plain [7] rfl rfl fun aa gg h => ?_
                have r0 := seen_out (v := .int .i64 (d : Int)) rfl rfl h.1
                have e0 := getD_of r0
                exact upon_value (v := .int .i64 (d : Int)) (by simp [go_sem, e0, r0]) (Below.refl _ _) rfl
              · intro _
                refine ob_plain [38, 39] rfl rfl fun aa gg h => ?_
                obtain ⟨_, r0, rfl⟩ := seen_in rfl h.1
                have e0 := getD_of r0
                obtain ⟨_, r1, rfl⟩ := seen_in rfl h.2.1
                have e1 := getD_of r1
                exact upon_value (v := .int .i64 ((q : Int) + (d : Int))) (by simp [go_sem, e0, r0, e1, r1, W2]) (Below.refl _ _) rfl
              · intro _
                refine ob_plain [35, 40] rfl rfl fun aa gg h => ?_
                obtain ⟨_, r0, rfl⟩ := seen_in rfl h.1
                have e0 := getD_of r0
                obtain ⟨_, r1, rfl⟩ := seen_in rfl h.2.1
                have e1 := getD_of r1
                exact upon_value (v := .pointer (some ⟨ba, oa + (q + d) * 2, none⟩)) (by simp [go_sem, e0, r0, e1, r1, i3, hT, hN]) (Below.refl _ _) rfl
              · intro _
                refine ob_plain [41] rfl rfl fun aa gg h => ?_
                obtain ⟨_, r0, rfl⟩ := seen_in rfl h.1
                have e0 := getD_of r0
                exact upon_value (v := .agg #[.int .i64 x, .int .i64 y]) (by simp [go_sem, e0, r0, fA gg, gA gg]) (Below.refl _ _) rfl
              · intro _
                refine ob_plain [42] rfl rfl fun aa gg h => ?_
                obtain ⟨_, r0, rfl⟩ := seen_in rfl h.1
                have e0 := getD_of r0
                exact upon_enter (f := 73) (args := #[.agg #[.int .i64 x, .int .i64 y]]) (by simp [go_sem, e0, r0]) rfl ((HC.out _).mono fun e w' ⟨h, hB⟩ => ⟨_, h, hB, rfl⟩)
              · intro _
                refine ob_plain [33, 34] rfl rfl fun aa gg h => ?_
                obtain ⟨_, r0, rfl⟩ := seen_in rfl h.1
                have e0 := getD_of r0
                obtain ⟨_, r1, rfl⟩ := seen_in rfl h.2.1
                have e1 := getD_of r1
                exact upon_value (v := .pointer (some ⟨R, d * 2, none⟩)) (by simp [go_sem, e0, r0, e1, r1, i1]) (Below.refl _ _) rfl
              · exact fun h => absurd rfl h
            rintro w5 hB5 _ rfl _ rfl _ rfl _ rfl _ rfl _ rfl _ rfl _ rfl _ rfl _ rfl _ rfl _ rfl _ rfl _ rfl _ rfl
            simp only [Act.put, List.setIfInBounds_toArray, List.set_cons_succ, List.set_cons_zero]
            have hrow5 := HRW.out.kept (grown_below hB5) (.inr (by simp [Value.ownBlock]))
            have hcl : (cz r).length = n * 2 := by rw [cz_len, HRN.out]
            have q0 := hrow5.cellAt (d * 2) (by rw [HRN.out]; omega)
            have q1 := hrow5.cellAt (d * 2 + 1) (by rw [HRN.out]; omega)
            rw [(cz_get _ _ _ HZ.out).1] at q0
            rw [(cz_get _ _ _ HZ.out).2] at q1
            have z0 := hrow5.frozenAt (d * 2)
            have z1 := hrow5.frozenAt (d * 2 + 1)
            have hO5 : OwnM w.heap.size ((w5.setCell ⟨R, d * 2, none⟩ (.int .i64 p1)).setCell ⟨R, d * 2 + 1, none⟩ (.int .i64 p2)) (.slice (some ⟨O, 0, none⟩) n c') us (M2.set k (r.set d (p1, p2))) := (HO2.out.kept hB5).set HR.out HU.out
            have HO5 := Lib.hid hO5
            have HQ5 : Hid (QM VB n (M2.set k (r.set d (p1, p2)))) := Lib.hid (qm_set HQ2.out HR.out HPR.out)
            have hB6 : Below w.heap.size w ((w5.setCell ⟨R, d * 2, none⟩ (.int .i64 p1)).setCell ⟨R, d * 2 + 1, none⟩ (.int .i64 p2)) := ((hB2.trans (hB5.mono hB2.size)).setCell (p := ⟨R, d * 2, none⟩) hR0 _).setCell (p := ⟨R, d * 2 + 1, none⟩) hR0 _
            clear hO5 hrow5 hcl
            refine ⟨_, by simp [go_sem, q0, q1, z0, z1]; rfl, ?_⟩
            rename_i K hK
            refine hK _ _ ?_
            clear hK K q0 q1 z0 z1 fA gA fO
            go_wp2_with (fail)
            go_roundw
            case rel =>
              exact ⟨d + 1, _, by go_num, by omega, HQ5, HO5, hB6⟩
            case measure => simp [intOf]; omega
          · have i3 : (l.length : Int) ≤ (q : Int) + (d : Int) := by omega
            go_wp2_with (fail)
            go_roundw
            case rel => exact ⟨k + 1, M2, by go_num, by omega, HQ2, HO2, hB2⟩
            case measure => simp [intOf]; omega
        · obtain rfl : d = n := by omega
          go_wp2_with (fail)
          go_roundw
          case rel => exact ⟨k + 1, M2, by go_num, by omega, HQ2, HO2, hB2⟩
          case measure => simp [intOf]; omega
    · obtain rfl : k = n := by omega
      go_wp2_with (fail)
      go_ret
      exact ⟨_, us, M, rfl, HQ.out, HO.out, hB⟩
theorem small_sm (a b : Int) : Sm (min (a.tmod 16777216) (b.tmod 16777216), max (a.tmod 16777216) (b.tmod 16777216)) := by
  have h1 : -16777216 < a.tmod 16777216 ∧ a.tmod 16777216 < 16777216 := by
    rcases Int.le_total 0 a with h | h
    · rw [Int.tmod_eq_emod_of_nonneg h]; omega
    · rw [show a = -(-a) by omega, Int.neg_tmod, Int.tmod_eq_emod_of_nonneg (by omega)]; omega
  have h2 : -16777216 < b.tmod 16777216 ∧ b.tmod 16777216 < 16777216 := by
    rcases Int.le_total 0 b with h | h
    · rw [Int.tmod_eq_emod_of_nonneg h]; omega
    · rw [show b = -(-b) by omega, Int.neg_tmod, Int.tmod_eq_emod_of_nonneg (by omega)]; omega
  generalize a.tmod 16777216 = u at *
  generalize b.tmod 16777216 = v at *
  exact ⟨by dsimp only; omega, by dsimp only; omega, by dsimp only; omega⟩
section
variable (O R ba oa c' c2 ca n k d q : Nat) (l : List (Int × Int)) (x y p1 p2 : Int)
def phi_r4small : Tmp → Value → World → Prop := lk [(30, fun u _ => u = .slice (some ⟨O, 0, none⟩) n c'), (31, fun u _ => u = .int .i64 (k : Int)), (32, fun u _ => u = .pointer (some ⟨O, k, none⟩)), (33, fun u _ => u = .slice (some ⟨R, 0, none⟩) n c2), (34, fun u _ => u = .int .i64 (d : Int)), (35, fun u _ => u = .slice (some ⟨ba, oa, none⟩) l.length ca), (36, fun u _ => u = .int .i64 (k : Int)), (37, fun u _ => u = .int .i64 (n : Int)), (38, fun u _ => u = .int .i64 (q : Int)), (39, fun u _ => u = .int .i64 (d : Int)), (40, fun u _ => u = .int .i64 ((q : Int) + (d : Int))), (41, fun u _ => u = .pointer (some ⟨ba, oa + (q + d) * 2, none⟩)), (42, fun u _ => u = .agg #[.int .i64 x, .int .i64 y]), (43, fun u _ => u = .agg #[.int .i64 p1, .int .i64 p2]), (44, fun u _ => u = .pointer (some ⟨R, d * 2, none⟩))]
theorem phi_r4small_steady : ∀ t v w1 w2, Below w1.heap.size w1 w2 → phi_r4small O R ba oa c' c2 ca n k d q l x y p1 p2 t v w1 → phi_r4small O R ba oa c' c2 ca n k d q l x y p1 p2 t v w2 := lk_steady _ ⟨steady_eq _, steady_eq _, steady_eq _, steady_eq _, steady_eq _, steady_eq _, steady_eq _, steady_eq _, steady_eq _, steady_eq _, steady_eq _, steady_eq _, steady_eq _, steady_eq _, steady_eq _, trivial⟩
end
end Go.Proofs.YtmcdkbnpcmiojaaGreat

namespace Go.Proofs.YtmcdkbnpcmiojaaGreat
open Go.ChangeShapes Go.WideShapes Go.ChangeAt Go.RowKit
set_option linter.unusedVariables false
set_option linter.unusedSimpArgs false
set_option maxRecDepth 100000

attribute [local irreducible] Calls
theorem r4dim (n : Int) (w : World) (h0 : 0 ≤ n) (h1 : n < 256) :
    Calls Tryz.prog 9 #[.int .u8 n] w fun e w' => e = .returned (.int .i64 (1 + n % 4)) ∧ w' = w := by
  have hm0 : 0 ≤ n % 4 := Int.emod_nonneg _ (by decide)
  have hm1 : n % 4 < 4 := Int.emod_lt_of_pos _ (by decide)
  go_enter Tryz.func9, Tryz.ntmps9
  go_wp2_with (fail)
  go_ret
  exact ⟨rfl, rfl⟩
def I64 (l : List (Int × Int)) : Prop := ∀ p ∈ l, (-9223372036854775808 ≤ p.1 ∧ p.1 ≤ 9223372036854775807) ∧ -9223372036854775808 ≤ p.2 ∧ p.2 ≤ 9223372036854775807
def SMat (Pr : Int × Int → Prop) (k B0 : Nat) : Value → World → Prop := fun u w' => ∃ B us M, B0 ≤ B ∧ QM Pr k M ∧ OwnM B w' u us M
def SBox (Pr : Int × Int → Prop) (k : Nat) : Value → World → Prop := fun u w' => ∃ m : List (Int × Int), m.length = k ∧ (∀ p ∈ m, Pr p) ∧ Bx w' u m
theorem steady_mat (Pr : Int × Int → Prop) (k B0 : Nat) : Steady (SMat Pr k B0) := fun v w1 w2 hb ⟨B, us, M, h1, h2, h3⟩ => ⟨B, us, M, h1, h2, h3.kept hb⟩
theorem steady_box (Pr : Int × Int → Prop) (k : Nat) : Steady (SBox Pr k) := fun v w1 w2 hb ⟨m, h1, h2, h3⟩ => ⟨m, h1, h2, h3.grow hb⟩
set_option maxHeartbeats 4000000 in
theorem law4made (vA vB vC : Value) (la lb lc : List (Int × Int)) (n : Int) (k : Nat) (w : World) (hA : Bx w vA la) (hB : Bx w vB lb) (hC : Bx w vC lc) (ba : I64 la) (bb : I64 lb) (bc : I64 lc) (hn0 : 0 ≤ n) (hn1 : n < 256) (hk : 1 + n % 4 = (k : Int)) :
    Calls Tryz.prog 7 #[.agg #[vA, vB, vC, .int .u8 n]] w fun e w' => ∃ u v x c, e = .returned (.tuple #[u, v, x]) ∧ SMat VB k w.heap.size u w' ∧ SMat VB k w.heap.size v w' ∧ c.length = k ∧ (∀ p ∈ c, VB p) ∧ Bx w' x c ∧ Below w.heap.size w w' := by
  have HA := Lib.hid hA
  have HB := Lib.hid hB
  have HC := Lib.hid hC
  have BA := Lib.hid ba
  have BB := Lib.hid bb
  have BC := Lib.hid bc
  have hk1 : 1 ≤ k := by omega
  have hk6 : k ≤ 6 := by omega
  have hdim := fun w => r4dim n w hn0 hn1
  rw [hk] at hdim
  have HD := Lib.hid hdim
  clear hA hB hC ba bb bc hdim hk
  go_enter Tryz.func7, Tryz.ntmps7
  go_wp2_with (fail)
  refine (HD.out _).mono ?_
  rintro e w' ⟨rfl, rfl⟩
  go_wp2_with (fail)
  generalize hW0 : World.alloc w _ = W0
  have hBW : Below w.heap.size w W0 := by subst hW0; exact ((Below.refl w.heap.size w).alloc (by go_size) _)
  have Y0 : w.heap.size < W0.heap.size := by subst hW0; simp <;> omega
  have F0_0 : ∀ g : Grown W0, g.w.cell? ⟨w.heap.size, 0, none⟩ = some vA := fun g => (g.cell Y0).trans (by subst hW0; simp [go_sem])
  have F0_1 : ∀ g : Grown W0, g.w.cell? ⟨w.heap.size, 1, none⟩ = some vB := fun g => (g.cell Y0).trans (by subst hW0; simp [go_sem])
  have F0_2 : ∀ g : Grown W0, g.w.cell? ⟨w.heap.size, 2, none⟩ = some vC := fun g => (g.cell Y0).trans (by subst hW0; simp [go_sem])
  clear hW0
  refine region_pred (lk [(9, fun u _ => u = .pointer (some ⟨w.heap.size, 0, none⟩)), (10, fun u _ => u = vA), (11, fun u _ => u = .int .i64 (k : Int)), (12, SMat VB k w.heap.size), (13, fun u _ => u = .pointer (some ⟨w.heap.size, 1, none⟩)), (14, fun u _ => u = vB), (15, fun u _ => u = .int .i64 (k : Int)), (16, SMat VB k w.heap.size), (17, fun u _ => u = .pointer (some ⟨w.heap.size, 2, none⟩)), (18, fun u _ => u = vC), (19, fun u _ => u = .int .i64 (k : Int)), (20, SBox VB k), (2, SMat VB k w.heap.size), (3, SMat VB k w.heap.size), (4, SBox VB k)])
    (by kernel_rfl) (by kernel_rfl) (lk_steady _ ⟨steady_eq _, steady_eq _, steady_eq _, steady_mat VB k w.heap.size, steady_eq _, steady_eq _, steady_eq _, steady_mat VB k w.heap.size, steady_eq _, steady_eq _, steady_eq _, steady_box VB k, steady_mat VB k w.heap.size, steady_mat VB k w.heap.size, steady_box VB k, trivial⟩) ?_ ?_
  · have hA := HA.out
    have hB := HB.out
    have hC := HC.out
    have ba := BA.out
    have bb := BB.out
    have bc := BC.out
    have hBW := hBW
    refine ⟨?_, ?_, ?_, ?_, ?_, ?_, ?_, ?_, ?_, ?_, ?_, ?_, ?_, ?_, ?_, trivial⟩
    · refine ob_plain [1] rfl rfl fun aa g h => ?_
      have e5 := getD_of (seen_out (v := .pointer (some ⟨w.heap.size, 0, none⟩)) rfl rfl h.1)
      exact upon_value (v := .pointer (some ⟨w.heap.size, 0, none⟩)) (by simp [go_sem, e5]) (Below.refl _ _) rfl
    · refine ob_plain [9] rfl rfl fun aa g h => ?_
      obtain ⟨_, r5, rfl⟩ := seen_in rfl h.1
      have e5 := getD_of r5
      have hc := F0_0 g
      exact upon_value (v := vA) (by simp [go_sem, e5, r5, hc]) (Below.refl _ _) rfl
    · refine ob_plain [5] rfl rfl fun aa g h => ?_
      have e5 := getD_of (seen_out (v := .int .i64 (k : Int)) rfl rfl h.1)
      exact upon_value (v := .int .i64 (k : Int)) (by simp [go_sem, e5]) (Below.refl _ _) rfl
    · refine ob_plain [10, 11] rfl rfl fun aa g h => ?_
      obtain ⟨v5, r5, p5⟩ := seen_in rfl h.1
      have p6 : v5 = vA := p5
      rw [p6] at r5
      have e5 := getD_of r5
      obtain ⟨_, r6, rfl⟩ := seen_in rfl h.2.1
      have e6 := getD_of r6
      refine upon_enter (f := 33) (args := #[vA, .int .i64 (k : Int)]) (by simp [go_sem, e5, r5, e6, r6]) rfl ?_
      exact (r4made vA _ k g.w ((hA.grow hBW).grow g.h) hk1 hk6 ba).mono fun e w' ⟨u, us, M, he, h1, h2, h3⟩ => ⟨u, he, h3, g.w.heap.size, us, M, Nat.le_trans hBW.size g.h.size, h1, h2⟩
    · refine ob_plain [1] rfl rfl fun aa g h => ?_
      have e5 := getD_of (seen_out (v := .pointer (some ⟨w.heap.size, 0, none⟩)) rfl rfl h.1)
      exact upon_value (v := .pointer (some ⟨w.heap.size, 1, none⟩)) (by simp [go_sem, e5]) (Below.refl _ _) rfl
    · refine ob_plain [13] rfl rfl fun aa g h => ?_
      obtain ⟨_, r5, rfl⟩ := seen_in rfl h.1
      have e5 := getD_of r5
      have hc := F0_1 g
      exact upon_value (v := vB) (by simp [go_sem, e5, r5, hc]) (Below.refl _ _) rfl
    · refine ob_plain [5] rfl rfl fun aa g h => ?_
      have e5 := getD_of (seen_out (v := .int .i64 (k : Int)) rfl rfl h.1)
      exact upon_value (v := .int .i64 (k : Int)) (by simp [go_sem, e5]) (Below.refl _ _) rfl
    · refine ob_plain [14, 15] rfl rfl fun aa g h => ?_
      obtain ⟨v5, r5, p5⟩ := seen_in rfl h.1
      have p6 : v5 = vB := p5
      rw [p6] at r5
      have e5 := getD_of r5
      obtain ⟨_, r6, rfl⟩ := seen_in rfl h.2.1
      have e6 := getD_of r6
      refine upon_enter (f := 33) (args := #[vB, .int .i64 (k : Int)]) (by simp [go_sem, e5, r5, e6, r6]) rfl ?_
      exact (r4made vB _ k g.w ((hB.grow hBW).grow g.h) hk1 hk6 bb).mono fun e w' ⟨u, us, M, he, h1, h2, h3⟩ => ⟨u, he, h3, g.w.heap.size, us, M, Nat.le_trans hBW.size g.h.size, h1, h2⟩
    · refine ob_plain [1] rfl rfl fun aa g h => ?_
      have e5 := getD_of (seen_out (v := .pointer (some ⟨w.heap.size, 0, none⟩)) rfl rfl h.1)
      exact upon_value (v := .pointer (some ⟨w.heap.size, 2, none⟩)) (by simp [go_sem, e5]) (Below.refl _ _) rfl
    · refine ob_plain [17] rfl rfl fun aa g h => ?_
      obtain ⟨_, r5, rfl⟩ := seen_in rfl h.1
      have e5 := getD_of r5
      have hc := F0_2 g
      exact upon_value (v := vC) (by simp [go_sem, e5, r5, hc]) (Below.refl _ _) rfl
    · refine ob_plain [5] rfl rfl fun aa g h => ?_
      have e5 := getD_of (seen_out (v := .int .i64 (k : Int)) rfl rfl h.1)
      exact upon_value (v := .int .i64 (k : Int)) (by simp [go_sem, e5]) (Below.refl _ _) rfl
    · refine ob_plain [18, 19] rfl rfl fun aa g h => ?_
      obtain ⟨v5, r5, p5⟩ := seen_in rfl h.1
      have p6 : v5 = vC := p5
      rw [p6] at r5
      have e5 := getD_of r5
      obtain ⟨_, r6, rfl⟩ := seen_in rfl h.2.1
      have e6 := getD_of r6
      refine upon_enter (f := 34) (args := #[vC, .int .i64 (k : Int)]) (by simp [go_sem, e5, r5, e6, r6]) rfl ?_
      exact (r3made vC _ k g.w ((hC.grow hBW).grow g.h) hk6 bc).mono fun e w' ⟨u, m, he, h1, h2, h3, h4⟩ => ⟨u, he, h4, m, h1, h2, h3⟩
    · refine ob_plain [12] rfl rfl fun aa g h => ?_
      obtain ⟨u5, r5, p5⟩ := seen_in rfl h.1
      have e5 := getD_of r5
      exact upon_value (v := u5) (by simp [go_sem, e5, r5]) (Below.refl _ _) p5
    · refine ob_plain [16] rfl rfl fun aa g h => ?_
      obtain ⟨u5, r5, p5⟩ := seen_in rfl h.1
      have e5 := getD_of r5
      exact upon_value (v := u5) (by simp [go_sem, e5, r5]) (Below.refl _ _) p5
    · refine ob_plain [20] rfl rfl fun aa g h => ?_
      obtain ⟨u5, r5, p5⟩ := seen_in rfl h.1
      have e5 := getD_of r5
      exact upon_value (v := u5) (by simp [go_sem, e5, r5]) (Below.refl _ _) p5
  · rename_i K hK
    rintro w1 hB1 _ rfl _ rfl _ rfl v12 h12 _ rfl _ rfl _ rfl v16 h16 _ rfl _ rfl _ rfl v20 h20 u hu v hv x ⟨c, c1, c2, c3⟩
    exact hK _ _ (wp_ret (bodyPost_ret (v := .tuple #[u, v, x]) (by simp [results, Tryz.results7, go_sem]) rfl ⟨u, v, x, c, rfl, hu, hv, c1, c2, c3, below_then hBW hB1⟩))
end Go.Proofs.YtmcdkbnpcmiojaaGreat
