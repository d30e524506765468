/-
  Ranges of models; values at corners.
-/
import Derived.Test.YtbfhmbadgbackaaGreatYi
namespace Go.Proofs.YtbfhmbadgbackaaGreat
open Go.ChangeShapes Go.WideShapes Go.ChangeAt Go.RowKit
set_option linter.unusedVariables false
set_option linter.unusedSimpArgs false

def pt1 (u : Int) : Int × Int := (u * 65536, u * 65536)
theorem pt1_of {v : Int} (h : -1 ≤ v ∧ v ≤ 1) : ptI (v * 65536) = pt1 v := by
  rcases (show v = -1 ∨ v = 0 ∨ v = 1 by omega) with rfl | rfl | rfl <;> decide
theorem pt1_mul {u v : Int} (hu : -1 ≤ u ∧ u ≤ 1) (hv : -1 ≤ v ∧ v ≤ 1) : mulI2 (pt1 u) (pt1 v) = pt1 (u * v) := by
  rcases (show u = -1 ∨ u = 0 ∨ u = 1 by omega) with rfl | rfl | rfl <;> rcases (show v = -1 ∨ v = 0 ∨ v = 1 by omega) with rfl | rfl | rfl <;> decide
theorem pt1_sq {u : Int} (hu : -1 ≤ u ∧ u ≤ 1) : sqI2 (pt1 u) = pt1 (u * u) := by
  rcases (show u = -1 ∨ u = 0 ∨ u = 1 by omega) with rfl | rfl | rfl <;> decide
theorem pow_pt1 {v : Int} (hv : -1 ≤ v ∧ v ≤ 1) : ∀ n : Nat, 1 ≤ n → powX (pt1 v) n = pt1 (v ^ n) := by
  intro n
  induction n using Nat.strongRecOn with
  | ind n ih =>
    intro h1
    by_cases hn : n ≤ 1
    · obtain rfl : n = 1 := by omega
      rw [powX_one, Int.pow_succ, Int.pow_zero, Int.one_mul]
    · by_cases h2 : n % 2 = 0
      · rw [powX_even _ (by omega) h2, ih (n / 2) (by omega) (by omega), pt1_sq (one_pow hv _), ← Int.pow_add, show n / 2 + n / 2 = n by omega]
      · rw [powX_odd _ (by omega) h2, ih (n - 1) (by omega) (by omega), pt1_mul (one_pow hv _) hv, ← Int.pow_succ, show (n - 1).succ = n by omega]
theorem pt_num {x : Int} (h : Num x) : ptI x = (x, x) := by
  unfold ptI mkLo mkHi
  rw [if_pos ⟨h, h⟩, if_pos ⟨h, h⟩]
theorem mul_pt {x v : Int} (hx : Num x) (hv : -1 ≤ v ∧ v ≤ 1) : mulI2 (x, x) (pt1 v) = (x * v, x * v) := by
  have hn : Num (x * v) := by
    unfold Num at *
    rcases (show v = -1 ∨ v = 0 ∨ v = 1 by omega) with rfl | rfl | rfl <;> omega
  have he : ¬ Ent x x := num_ent hx
  have he2 : ¬ Ent (v * 65536) (v * 65536) := by
    unfold Ent
    omega
  have hp : x * (v * 65536) = x * v * 65536 := by rw [Int.mul_assoc]
  have hm : mn4 x x (v * 65536) (v * 65536) = x * v * 65536 := by unfold mn4; rw [hp]; omega
  have hM : mx4 x x (v * 65536) (v * 65536) = x * v * 65536 := by unfold mx4; rw [hp]; omega
  have hd : dn (x * v * 65536) 65536 = x * v := dn_mul_self _ (by decide)
  have hu : up (x * v * 65536) 65536 = x * v := by
    rw [← (dn_eq_up (x * v * 65536) (d := 65536) (by decide)).2 (by omega)]
    exact hd
  unfold mulI2 mulLo mulHi pt1
  dsimp only
  rw [if_neg (by rintro (h | h); exact he h; exact he2 h), if_neg (by rintro (h | h); exact he h; exact he2 h), hm, hM, hd, hu]
  unfold mkLo mkHi
  rw [if_pos ⟨hn, hn⟩, if_pos ⟨hn, hn⟩]
theorem num_one {x v : Int} (hx : Num x) (hv : -1 ≤ v ∧ v ≤ 1) : Num (x * v) := by
  unfold Num at *
  rcases (show v = -1 ∨ v = 0 ∨ v = 1 by omega) with rfl | rfl | rfl <;> omega
theorem var_corner (s : List Int) {j : Nat} (h : j < 6) : varX (cornerB s) j = pt1 (cnr s j) := by
  unfold varX cornerB
  rw [List.getElem?_map, List.getElem?_range h]
  exact pt1_of (cnr_bd s j)
theorem val_corner (s : List Int) {t : Tm} (ht : TV t) (hn : Num t.1) : ∀ j, j ≤ 6 → valI (cornerB s) t j = (t.1 * pmC s t.2 j, t.1 * pmC s t.2 j)
  | 0, _ => by rw [valI_zero, pt_num hn, show pmC s t.2 0 = 1 from rfl, Int.mul_one]
  | j + 1, h => by
    have ih := val_corner s ht hn j (by omega)
    obtain ⟨x, hx⟩ : ∃ x, t.2[j]? = some x := ⟨_, List.getElem?_eq_getElem (by rw [ht.1.1]; omega)⟩
    have hx0 := (ht.1.2 x (List.mem_of_getElem? hx)).1
    have hpm : pmC s t.2 (j + 1) = pmC s t.2 j * cnr s j ^ x.toNat := by
      show pmC s t.2 j * _ = _
      rw [List.getD_eq_getElem?_getD, hx]
      rfl
    obtain ⟨n, rfl⟩ : ∃ n : Nat, x = n := ⟨x.toNat, by omega⟩
    rw [show ((n : Int)).toNat = n from rfl] at hpm
    have hnm := num_one hn (pmC_one s t.2 j)
    by_cases h0 : 0 < n
    · rw [valI_in hx h0, ih, var_corner s (by omega), pow_pt1 (cnr_bd s j) n h0, mul_pt hnm (one_pow (cnr_bd s j) n), hpm, Int.mul_assoc]
    · obtain rfl : n = 0 := by omega
      rw [valI_out hx, ih, hpm, Int.pow_zero, Int.mul_one]
theorem add_pts {x y : Int} : Ent (addI2 (x, x) (y, y)).1 (addI2 (x, x) (y, y)).2 ∨ addI2 (x, x) (y, y) = (x + y, x + y) := by
  by_cases h : Ent (addI2 (x, x) (y, y)).1 (addI2 (x, x) (y, y)).2
  · exact .inl h
  · exact .inr (addI2_fin h).2.2
theorem eval_corner (s : List Int) {l : List Tm} (hl : ∀ t ∈ l, TV t ∧ Num t.1) : Ent (evalP (cornerB s) l).1 (evalP (cornerB s) l).2 ∨ evalP (cornerB s) l = (cvS s l, cvS s l) := by
  have ent_add : ∀ (p q : Int × Int), Ent p.1 p.2 → Ent (addI2 p q).1 (addI2 p q).2 := fun p q h => by
    by_cases k : Ent (addI2 p q).1 (addI2 p q).2
    · exact k
    · exact absurd h (addI2_fin k).1
  have stay : ∀ (l : List Tm) (p : Int × Int), Ent p.1 p.2 → Ent (l.foldl (fun a t => addI2 a (valI (cornerB s) t 6)) p).1 (l.foldl (fun a t => addI2 a (valI (cornerB s) t 6)) p).2 := by
    intro l
    induction l with
    | nil => exact fun p h => h
    | cons t l ih => exact fun p h => ih _ (ent_add _ _ h)
  have go : ∀ (l : List Tm) (x : Int), (∀ t ∈ l, TV t ∧ Num t.1) → Ent (l.foldl (fun a t => addI2 a (valI (cornerB s) t 6)) (x, x)).1 (l.foldl (fun a t => addI2 a (valI (cornerB s) t 6)) (x, x)).2 ∨ l.foldl (fun a t => addI2 a (valI (cornerB s) t 6)) (x, x) = (x + cvS s l, x + cvS s l) := by
    intro l
    induction l with
    | nil => intro x _; exact .inr (by simp [cvS])
    | cons t l ih =>
      intro x hl
      rw [List.foldl_cons, val_corner s (hl t (by simp)).1 (hl t (by simp)).2 6 (Nat.le_refl _)]
      rcases add_pts (x := x) (y := t.1 * pmC s t.2 6) with h | h
      · exact .inl (stay l _ h)
      · rw [h]
        rcases ih (x + t.1 * pmC s t.2 6) (fun u hu => hl u (by simp [hu])) with q | q
        · exact .inl q
        · refine .inr (q.trans ?_)
          rw [cvS_cons, show cvT s t = t.1 * pmC s t.2 6 from rfl, Int.add_assoc]
  have := go l 0 hl
  rw [Int.zero_add] at this
  exact this
/-- Eval at a corner and Range hold a model's values. -/
theorem evalM_in (s : List Int) {a : Mo} {x : Int} (hl : ∀ t ∈ a.1, TV t ∧ Num t.1) (hx : a.2.1 ≤ x ∧ x ≤ a.2.2) : Ent (evalM a (cornerB s)).1 (evalM a (cornerB s)).2 ∨ (evalM a (cornerB s)).1 ≤ cvS s a.1 + x ∧ cvS s a.1 + x ≤ (evalM a (cornerB s)).2 := by
  by_cases h : Ent (evalM a (cornerB s)).1 (evalM a (cornerB s)).2
  · exact .inl h
  · refine .inr ?_
    unfold evalM at *
    obtain ⟨h1, _, h3⟩ := addI2_fin h
    have e := (eval_corner s hl).resolve_left h1
    rw [h3, e]
    dsimp only
    omega
theorem newR_fin {m : Int × Int} (h : ¬ Ent (newR m).1 (newR m).2) : newR m = m := by
  unfold newR mkLo mkHi at *
  by_cases q : Num m.1 ∧ Num m.2
  · rw [if_pos q, if_pos q]
  · rw [if_neg q, if_neg q] at h
    exact absurd ⟨rfl, rfl⟩ h
theorem rangeM_in (s : List Int) {a : Mo} {x : Int} (hl : ∀ t ∈ a.1, EV t.2) (hx : a.2.1 ≤ x ∧ x ≤ a.2.2) : Ent (rangeM a).1 (rangeM a).2 ∨ (rangeM a).1 ≤ cvS s a.1 + x ∧ cvS s a.1 + x ≤ (rangeM a).2 := by
  by_cases h : Ent (rangeM a).1 (rangeM a).2
  · exact .inl h
  · refine .inr ?_
    unfold rangeM rngP at *
    obtain ⟨h1, _, h3⟩ := addI2_fin h
    have e := newR_fin h1
    have f := foldR_cv s a.1 (0, 0) 0 ⟨Int.le_refl _, Int.le_refl _⟩ hl
    rw [h3, e]
    unfold sumR
    dsimp only
    omega
theorem add_ent_r {p q : Int × Int} (h : Ent q.1 q.2) : Ent (addI2 p q).1 (addI2 p q).2 := by
  by_cases k : Ent (addI2 p q).1 (addI2 p q).2
  · exact k
  · exact absurd h (addI2_fin k).2.1
/-- What a truncation leaves is a polynomial, whatever is truncated. -/
theorem trunc_vp2 {l : List Tm} {D : Int} {m : Int × Int} (hr : Rise l) (hz : ∀ t ∈ l, t.1 ≠ 0) (hD : D ≤ 6) : VP (truncP l D m).1 := by
  unfold truncP
  split
  · exact vp_nil
  · rename_i hn
    split
    · exact vp_nil
    · rename_i hc
      refine ⟨all_of_rise (rise_filter hr _) fun t ht => ⟨hz t (List.mem_filter.1 ht).1, ?_⟩, by dsimp only; omega, ?_⟩
      · have := (List.mem_filter.1 ht).2
        simp only [decide_eq_true_eq] at this
        omega
      · rw [List.any_eq_false]
        intro t ht hb
        exact hn (List.any_eq_true.2 ⟨t, (List.mem_filter.1 ht).1, hb⟩)
theorem mulR_vp (l m : List Tm) (D : Int) : VP (mulR l m D).1 := trunc_vp2 (rise_filter (coll_rise _) _) (fun t ht => by simpa using (List.mem_filter.1 ht).2) (by omega)
theorem merge_vp {l m : List Tm} (hl : VP l) (hm : VP m) : VP (truncP (mergeP l m) 6 (0, 0)).1 := by
  have p1 := vp_parts hl
  have p2 := vp_parts hm
  exact trunc_vp2 (merge_rise l m p1.1 p2.1) (merge_nz l m (fun t ht => (p1.2 t ht).1) (fun t ht => (p2.2 t ht).1)) (Int.le_refl _)
def FullM (a : Mo) : Prop := VP a.1 ∧ (∀ t ∈ a.1, TV t) ∧ VB2 a.2 ∧ (Ent a.2.1 a.2.2 → a.1 = [])
theorem fullM_ok {a : Mo} (h : FullM a) : VP a.1 ∧ VI a.2.1 a.2.2 ∧ (a.1 = [] ∨ ¬ Ent a.2.1 a.2.2) := ⟨h.1, h.2.2.1, by
  by_cases q : Ent a.2.1 a.2.2
  · exact .inl (h.2.2.2 q)
  · exact .inr q⟩
theorem addM_full {a b : Mo} (ha : VP a.1) (hb : VP b.1) (ta : ∀ t ∈ a.1, TV t ∧ Num t.1) (tb : ∀ t ∈ b.1, TV t ∧ Num t.1) (va : VB2 a.2) (vb : VB2 b.2) : FullM (addM a b) :=
  ⟨normM_vp (merge_vp ha hb), normM_tv (truncP_tvY (merge_tv ta tb)), normM_vbY (addI2_vb (merge_vb _ _) (addI2_vb va vb)), normM_emp⟩
theorem mulM_full {a b : Mo} (d : Int) (ta : ∀ t ∈ a.1, TV t ∧ Num t.1) (tb : ∀ t ∈ b.1, TV t ∧ Num t.1) (la : a.1.length ≤ 100) (lb : b.1.length ≤ 100) (va : VB2 a.2) (vb : VB2 b.2) : FullM (mulM a b d) :=
  ⟨normM_vp (mulR_vp _ _ _), mulM_tv ta tb la lb, normM_vbY (addI2_vb (addI2_vb (addI2_vb (mulR_vb _ _ _) (mulI2_vb _ _)) (mulI2_vb _ _)) (mulI2_vb _ _)), normM_emp⟩
theorem neg_vp {l : List Tm} (h : VP l) : VP (negT l) := by
  have p := vp_parts h
  refine ⟨all_of_rise ?_ fun t ht => ?_, by rw [neg_len]; exact h.2.1, ?_⟩
  · exact List.pairwise_map.2 p.1
  · obtain ⟨s, hs, rfl⟩ := List.mem_map.1 ht
    have := p.2 s hs
    exact ⟨by dsimp only; omega, this.2⟩
  · rw [List.any_eq_false]
    intro t ht
    obtain ⟨s, hs, rfl⟩ := List.mem_map.1 ht
    have := vp_num h s hs
    unfold Num at this
    have hn : Num (-s.1) := by unfold Num; omega
    simp [noNum, hn]
theorem negM_full {a : Mo} (ha : VP a.1) (ta : ∀ t ∈ a.1, TV t ∧ Num t.1) (va : VB2 a.2) (he : Ent a.2.1 a.2.2 → a.1 = []) : FullM (negM a) :=
  ⟨neg_vp ha, fun t ht => (neg_tn ta t ht).1, neg_vb va, fun q => by
    have : Ent a.2.1 a.2.2 := by
      unfold Ent negM negI2 at *
      dsimp only at q
      omega
    show negT a.1 = []
    rw [he this]
    rfl⟩
end Go.Proofs.YtbfhmbadgbackaaGreat
