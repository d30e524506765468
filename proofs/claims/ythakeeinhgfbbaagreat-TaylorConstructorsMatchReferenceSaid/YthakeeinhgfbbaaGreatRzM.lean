/-
  Mathematics: the reference's collecting is the program's merging.
-/
import Derived.Test.YthakeeinhgfbbaaGreatRz6
import Derived.Test.YthakeeinhgfbbaaGreatTpM
namespace Go.Proofs.YthakeeinhgfbbaaGreat
open Go.ChangeShapes Go.WideShapes Go.ChangeAt Go.RowKit
set_option linter.unusedVariables false
set_option linter.unusedSimpArgs false
set_option maxRecDepth 100000

theorem sumK_none {l : List Tm} {e : List Int} (h : e ∉ l.map (·.2)) : sumK l e = 0 := by
  induction l with
  | nil => rfl
  | cons t l ih =>
    rw [sumK_cons, if_neg (fun q => h (by simp [q])), ih (fun q => h (by simp at q ⊢; exact .inr q))]
    rfl
theorem rise_keys {l : List Tm} (h : Rise l) : (l.map (·.2)).Pairwise (fun x y => cmpE x y < 0) := List.pairwise_map.2 h
/-- Rising lists without zeros that sum alike are one. -/
theorem rise_same {l m : List Tm} (hl : Rise l) (hm : Rise m) (zl : ∀ t ∈ l, t.1 ≠ 0) (zm : ∀ t ∈ m, t.1 ≠ 0) (h : ∀ e, sumK l e = sumK m e) : l = m := by
  have key : ∀ {l : List Tm}, Rise l → (∀ t ∈ l, t.1 ≠ 0) → ∀ e, e ∈ l.map (·.2) ↔ sumK l e ≠ 0 := fun {l} hl zl e => by
    constructor
    · intro he
      obtain ⟨t, ht, rfl⟩ := List.mem_map.1 he
      rw [rise_sum hl t ht]
      exact zl t ht
    · intro he
      exact Decidable.by_contra fun q => he (sumK_none q)
  have hk := rise_uniq (rise_keys hl) (rise_keys hm) (fun e => by rw [key hl zl, key hm zm, h])
  have back : ∀ {l : List Tm}, Rise l → l = (l.map (·.2)).map fun e => (sumK l e, e) := fun {l} hl => by
    rw [List.map_map]
    have e1 : l.map ((fun e => (sumK l e, e)) ∘ (fun t : Tm => t.2)) = l.map id := List.map_congr_left fun t ht => by
      show (sumK l t.2, t.2) = t
      rw [rise_sum hl t ht]
    rw [e1, List.map_id]
  rw [back hl, back hm, hk]
  exact List.map_congr_left fun e _ => by rw [h]
theorem sumK_nz (l : List Tm) (e : List Int) : sumK (nzT l) e = sumK l e := by
  induction l with
  | nil => rfl
  | cons t l ih =>
    unfold nzT at ih ⊢
    by_cases h : t.1 = 0
    · rw [List.filter_cons_of_neg (by simp [h]), ih, sumK_cons, h]
      simp
    · rw [List.filter_cons_of_pos (by simp [h]), sumK_cons, sumK_cons, ih]
theorem sumK_foldI (l m : List Tm) (e : List Int) : sumK (foldI l m) e = sumK l e + sumK m e := by
  unfold foldI
  induction m generalizing l with
  | nil => simp [sumK]
  | cons t m ih =>
    rw [List.foldl_cons, ih, ins_sum, sumK_cons]
    omega
theorem rise_foldI (l m : List Tm) (h : Rise l) : Rise (foldI l m) := by
  unfold foldI
  induction m generalizing l with
  | nil => exact h
  | cons t m ih => exact ih _ (ins_rise h)
theorem sumK_merge (l m : List Tm) (e : List Int) : sumK (mergeP l m) e = sumK l e + sumK m e := by
  induction l, m using mergeP.induct with
  | case1 m => rw [mergeP]; simp [sumK]
  | case2 x l => rw [mergeP]; simp [sumK]
  | case3 x l y m h0 ih => rw [mergeP, if_pos h0, sumK_cons, ih, sumK_cons x l]; omega
  | case4 x l y m h0 h3 ih => rw [mergeP, if_neg h0, if_pos h3, sumK_cons, ih, sumK_cons y m]; omega
  | case5 x l y m h0 h3 h4 ih =>
    rw [mergeP, if_neg h0, if_neg h3, if_pos h4, ih, sumK_cons, sumK_cons]
    have q := cmp_mid h0 h3
    rw [q]
    by_cases z : y.2 = e
    · rw [if_pos z, if_pos z]; omega
    · rw [if_neg z, if_neg z]; omega
  | case6 x l y m h0 h3 h4 ih =>
    rw [mergeP, if_neg h0, if_neg h3, if_neg h4, sumK_cons, ih, sumK_cons, sumK_cons]
    have q := cmp_mid h0 h3
    dsimp only
    rw [q]
    by_cases z : y.2 = e
    · rw [if_pos z, if_pos z, if_pos z]; omega
    · rw [if_neg z, if_neg z, if_neg z]; omega
/-- The reference's sum is the program's. -/
theorem fold_merge {l m : List Tm} (hl : VP l) (hm : VP m) : nzT (foldI l m) = mergeP l m := by
  have p1 := vp_parts hl
  have p2 := vp_parts hm
  refine rise_same (List.Pairwise.filter _ (rise_foldI l m p1.1)) (merge_rise l m p1.1 p2.1) (fun t ht => ?_) (merge_nz l m (fun t ht => (p1.2 t ht).1) (fun t ht => (p2.2 t ht).1)) (fun e => ?_)
  · have := (List.mem_filter.1 ht).2
    simpa using this
  · rw [sumK_nz, sumK_foldI, sumK_merge]
end Go.Proofs.YthakeeinhgfbbaaGreat
