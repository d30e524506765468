/-
  What the inverse makes of the image of a point contains the point.
-/
import Derived.Test.YthejcoidgmaidaaGreatInvInc
import Derived.Test.YthejcoidgmaidaaGreatSingM
import Derived.Test.YthejcoidgmaidaaGreatMatMath
namespace Go.Proofs.YthejcoidgmaidaaGreat
open Go.ChangeShapes Go.WideShapes Go.ChangeAt Go.RowKit
set_option linter.unusedVariables false
set_option linter.unusedSimpArgs false
set_option maxRecDepth 100000

attribute [local irreducible] Calls
def vI (d : List (Int × Int)) (t : Nat) : Int × Int := (d[t]?).getD (0, 0)
def vP (p : List Int) (t : Nat) : Int := (p[t]?).getD 0
theorem zip_vI {k : Nat} {r d : List (Int × Int)} (hr : r.length = k) (hd : d.length = k) : r.zip d = (List.range k).map fun t => (vI r t, vI d t) := by
  apply List.ext_getElem?
  intro t
  rw [List.getElem?_map]
  by_cases ht : t < k
  · have h1 : t < r.length := by omega
    have h2 : t < d.length := by omega
    rw [List.getElem?_range ht, Option.map_some]
    unfold vI
    rw [List.getElem?_eq_getElem h1, List.getElem?_eq_getElem h2]
    exact List.getElem?_zip_eq_some.2 ⟨List.getElem?_eq_getElem h1, List.getElem?_eq_getElem h2⟩
  · rw [List.getElem?_eq_none (by rw [List.length_zip]; omega), List.getElem?_eq_none (by rw [List.length_range]; omega)]
    rfl
theorem vI_el {M : List (List (Int × Int))} {i t : Nat} (hi : i < M.length) : vI M[i] t = elI M i t := by
  unfold vI elI
  rw [List.getElem?_eq_getElem hi]
  rfl
theorem ap_len {k : Nat} {M : List (List (Int × Int))} {d : List (Int × Int)} (hM : Sq k M) : (apM M d).length = k := by
  unfold apM
  rw [List.length_map, hM.1]
theorem ap_at {k i : Nat} {M : List (List (Int × Int))} {d : List (Int × Int)} (hM : Sq k M) (hd : d.length = k) (hi : i < k) : (apM M d)[i]? = some (dotK k fun t => (elI M i t, vI d t)) := by
  have hil : i < M.length := by rw [hM.1]; exact hi
  unfold apM
  rw [List.getElem?_map, List.getElem?_eq_getElem hil, Option.map_some, zip_vI (hM.2 M[i] (List.getElem_mem hil)).1 hd]
  unfold dotK
  have e : (fun t => (vI M[i] t, vI d t)) = fun t => (elI M i t, vI d t) := by
    funext t
    rw [vI_el hil]
  rw [e]
theorem num_pt {x : Int} (h : Num x) : ptI x = (x, x) := by
  unfold ptI mkLo mkHi
  rw [if_pos ⟨h, h⟩, if_pos ⟨h, h⟩]
theorem cont_num {z : Int} {p : Int × Int} (h : p.1 ≤ z ∧ z ≤ p.2) : contR p ((z : Rat) / 65536) :=
  .inr ⟨by have := ic_le h.1; grind, by have := ic_le h.2; grind⟩
theorem num_cont {x y z : Int} (h : contR (x, y) ((z : Rat) / 65536)) : (decide (Ent x y) || (decide (x ≤ z) && decide (z ≤ y))) = true := by
  rcases h with h | ⟨h1, h2⟩
  · have : Ent x y := h
    simp [this]
  · dsimp only at h1 h2
    have a : x ≤ z := Rat.intCast_le_intCast.1 (by grind)
    have b : z ≤ y := Rat.intCast_le_intCast.1 (by grind)
    simp [a, b]
theorem fromN_sq {k : Nat} {A : List (List (Int × Int))} {P : List (List Int)} (hA : QM Sm k A) (hP : P.length = k) (hS : SampM k A P) : (∀ r ∈ P, r.length = k) ∧ Sq k (P.map (List.map ptI)) ∧ ∀ i j, i < k → j < k → elI (P.map (List.map ptI)) i j = (elP P i j, elP P i j) := by
  have hr : ∀ r ∈ P, r.length = k := fun r hr => by
    obtain ⟨i, hi⟩ := List.getElem?_of_mem hr
    have hil : i < A.length := by have := (List.getElem?_eq_some_iff.1 hi).1; rw [hA.1]; omega
    exact (hS i _ r (List.getElem?_eq_getElem hil) hi).1
  refine ⟨hr, ⟨by rw [List.length_map, hP], fun r h => ?_⟩, fun i j hi hj => ?_⟩
  · rw [List.mem_map] at h
    obtain ⟨s, hs, rfl⟩ := h
    refine ⟨by rw [List.length_map, hr s hs], fun p hp => ?_⟩
    rw [List.mem_map] at hp
    obtain ⟨x, _, rfl⟩ := hp
    exact mk_vi (Int.le_refl x)
  · obtain ⟨m, hm, hml, hmj⟩ := samp_at hA hP hS hi hj
    have hb := elP_bd hA hP hS i j
    unfold elI
    rw [List.getElem?_map, hm, Option.map_some, Option.bind_some, List.getElem?_map, hmj, Option.map_some, Option.getD_some]
    exact num_pt (by unfold Num; omega)
theorem back_ok {k j : Nat} {A N : List (List (Int × Int))} {P : List (List Int)} {pl : List Int} {x y z : Int} (hA : QM Sm k A) (hP : P.length = k) (hS : SampM k A P) (hl : pl.length = k) (hn : ∀ x ∈ pl, Num x) (hN : invV A k = some N) (hj : j < k)
    (hxy : (apM N (apM (P.map (List.map ptI)) (pl.map ptI)))[j]? = some (x, y)) (hz : pl[j]? = some z) : (decide (Ent x y) || (decide (x ≤ z) && decide (z ≤ y))) = true := by
  obtain ⟨hr, hsq, hel⟩ := fromN_sq hA hP hS
  obtain ⟨hSq, hE, Y, hY, hK⟩ := inv_encl (A := fun i j => (elP P i j : Rat) / 65536) (qm_sq hA) (fun i j hi hj => cont_num (elP_in hA hP hS hi hj)) hN
  have hil : (apM (P.map (List.map ptI)) (pl.map ptI)).length = k := ap_len hsq
  have hpl : (pl.map ptI).length = k := by rw [List.length_map, hl]
  rw [ap_at hSq hil hj] at hxy
  have e := Option.some.inj hxy
  have hvp : ∀ s, s < k → contR (vI (pl.map ptI) s) ((vP pl s : Rat) / 65536) := fun s hs => by
    have hsl : s < pl.length := by omega
    unfold vI vP
    rw [List.getElem?_map, List.getElem?_eq_getElem hsl, Option.map_some, Option.getD_some, Option.getD_some, num_pt (hn _ (List.getElem_mem hsl))]
    exact cont_num ⟨Int.le_refl _, Int.le_refl _⟩
  have hc : contR (dotK k fun t => (elI N j t, vI (apM (P.map (List.map ptI)) (pl.map ptI)) t)) (sumR k fun t => Y j t * sumR k fun s => (elP P t s : Rat) / 65536 * ((vP pl s : Rat) / 65536)) :=
    contR_dot k _ _ _ fun t ht => ⟨hY j t hj ht, by
      show contR (vI (apM (P.map (List.map ptI)) (pl.map ptI)) t) _
      unfold vI
      rw [ap_at hsq hpl ht, Option.getD_some]
      exact contR_dot k _ _ _ fun s hs => ⟨by
        show contR (elI (P.map (List.map ptI)) t s) _
        rw [hel t s ht hs]
        exact cont_num ⟨Int.le_refl _, Int.le_refl _⟩, hvp s hs⟩⟩
  rw [back_in hj hK, e] at hc
  have hzv : vP pl j = z := by
    unfold vP
    rw [hz]
    rfl
  rw [hzv] at hc
  exact num_cont hc
end Go.Proofs.YthejcoidgmaidaaGreat
