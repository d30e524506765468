/-
  Ranges of models and values at corners; variables and constants as models, in full; a slice of eight-bit numbers, written to;
  sums and products of models hold the sums and products of their values at a corner.
-/
import Derived.Test.YtbfhmbadgbackaaGreatYi
namespace Go.Proofs.YtbfhmbadgbackaaGreat
open Go.ChangeShapes Go.WideShapes Go.ChangeAt Go.RowKit
set_option linter.unusedVariables false
set_option linter.unusedSimpArgs false

def pt1 (u : Int) : Int × Int := (u * 65536, u * 65536)
theorem pt1_of {v : Int} (h : -1 ≤ v ∧ v ≤ 1) : ptI (v * 65536) = pt1 v := by
  rcases (show v = -1 ∨ v = 0 ∨ v = 1 by omega) with rfl | rfl | rfl <;> decide
theorem pt1_mul {u v : Int} (hu : -1 ≤ u ∧ u ≤ 1) (hv : -1 ≤ v ∧ v ≤ 1) : mulI2 (pt1 u) (pt1 v) = pt1 (u * v) := by
  rcases (show u = -1 ∨ u = 0 ∨ u = 1 by omega) with rfl | rfl | rfl <;> rcases (show v = -1 ∨ v = 0 ∨ v = 1 by omega) with rfl | rfl | rfl <;> decide
theorem pt1_sq {u : Int} (hu : -1 ≤ u ∧ u ≤ 1) : sqI2 (pt1 u) = pt1 (u * u) := by
  rcases (show u = -1 ∨ u = 0 ∨ u = 1 by omega) with rfl | rfl | rfl <;> decide
theorem pow_pt1 {v : Int} (hv : -1 ≤ v ∧ v ≤ 1) : ∀ n : Nat, 1 ≤ n → powX (pt1 v) n = pt1 (v ^ n) := by
  intro n
  induction n using Nat.strongRecOn with
  | ind n ih =>
    intro h1
    by_cases hn : n ≤ 1
    · obtain rfl : n = 1 := by omega
      rw [powX_one, Int.pow_succ, Int.pow_zero, Int.one_mul]
    · by_cases h2 : n % 2 = 0
      · rw [powX_even _ (by omega) h2, ih (n / 2) (by omega) (by omega), pt1_sq (one_pow hv _), ← Int.pow_add, show n / 2 + n / 2 = n by omega]
      · rw [powX_odd _ (by omega) h2, ih (n - 1) (by omega) (by omega), pt1_mul (one_pow hv _) hv, ← Int.pow_succ, show (n - 1).succ = n by omega]
theorem pt_num {x : Int} (h : Num x) : ptI x = (x, x) := by
  unfold ptI mkLo mkHi
  rw [if_pos ⟨h, h⟩, if_pos ⟨h, h⟩]
theorem mul_pt {x v : Int} (hx : Num x) (hv : -1 ≤ v ∧ v ≤ 1) : mulI2 (x, x) (pt1 v) = (x * v, x * v) := by
  have hn : Num (x * v) := by
    unfold Num at *
    rcases (show v = -1 ∨ v = 0 ∨ v = 1 by omega) with rfl | rfl | rfl <;> omega
  have he : ¬ Ent x x := num_ent hx
  have he2 : ¬ Ent (v * 65536) (v * 65536) := by
    unfold Ent
    omega
  have hp : x * (v * 65536) = x * v * 65536 := by rw [Int.mul_assoc]
  have hm : mn4 x x (v * 65536) (v * 65536) = x * v * 65536 := by unfold mn4; rw [hp]; omega
  have hM : mx4 x x (v * 65536) (v * 65536) = x * v * 65536 := by unfold mx4; rw [hp]; omega
  have hd : dn (x * v * 65536) 65536 = x * v := dn_mul_self _ (by decide)
  have hu : up (x * v * 65536) 65536 = x * v := by
    rw [← (dn_eq_up (x * v * 65536) (d := 65536) (by decide)).2 (by omega)]
    exact hd
  unfold mulI2 mulLo mulHi pt1
  dsimp only
  rw [if_neg (by rintro (h | h); exact he h; exact he2 h), if_neg (by rintro (h | h); exact he h; exact he2 h), hm, hM, hd, hu]
  unfold mkLo mkHi
  rw [if_pos ⟨hn, hn⟩, if_pos ⟨hn, hn⟩]
theorem num_one {x v : Int} (hx : Num x) (hv : -1 ≤ v ∧ v ≤ 1) : Num (x * v) := by
  unfold Num at *
  rcases (show v = -1 ∨ v = 0 ∨ v = 1 by omega) with rfl | rfl | rfl <;> omega
theorem var_corner (s : List Int) {j : Nat} (h : j < 6) : varX (cornerB s) j = pt1 (cnr s j) := by
  unfold varX cornerB
  rw [List.getElem?_map, List.getElem?_range h]
  exact pt1_of (cnr_bd s j)
theorem val_corner (s : List Int) {t : Tm} (ht : TV t) (hn : Num t.1) : ∀ j, j ≤ 6 → valI (cornerB s) t j = (t.1 * pmC s t.2 j, t.1 * pmC s t.2 j)
  | 0, _ => by rw [valI_zero, pt_num hn, show pmC s t.2 0 = 1 from rfl, Int.mul_one]
  | j + 1, h => by
    have ih := val_corner s ht hn j (by omega)
    obtain ⟨x, hx⟩ : ∃ x, t.2[j]? = some x := ⟨_, List.getElem?_eq_getElem (by rw [ht.1.1]; omega)⟩
    have hx0 := (ht.1.2 x (List.mem_of_getElem? hx)).1
    have hpm : pmC s t.2 (j + 1) = pmC s t.2 j * cnr s j ^ x.toNat := by
      show pmC s t.2 j * _ = _
      rw [List.getD_eq_getElem?_getD, hx]
      rfl
    obtain ⟨n, rfl⟩ : ∃ n : Nat, x = n := ⟨x.toNat, by omega⟩
    rw [show ((n : Int)).toNat = n from rfl] at hpm
    have hnm := num_one hn (pmC_one s t.2 j)
    by_cases h0 : 0 < n
    · rw [valI_in hx h0, ih, var_corner s (by omega), pow_pt1 (cnr_bd s j) n h0, mul_pt hnm (one_pow (cnr_bd s j) n), hpm, Int.mul_assoc]
    · obtain rfl : n = 0 := by omega
      rw [valI_out hx, ih, hpm, Int.pow_zero, Int.mul_one]
theorem add_pts {x y : Int} : Ent (addI2 (x, x) (y, y)).1 (addI2 (x, x) (y, y)).2 ∨ addI2 (x, x) (y, y) = (x + y, x + y) := by
  by_cases h : Ent (addI2 (x, x) (y, y)).1 (addI2 (x, x) (y, y)).2
  · exact .inl h
  · exact .inr (addI2_fin h).2.2
theorem eval_corner (s : List Int) {l : List Tm} (hl : ∀ t ∈ l, TV t ∧ Num t.1) : Ent (evalP (cornerB s) l).1 (evalP (cornerB s) l).2 ∨ evalP (cornerB s) l = (cvS s l, cvS s l) := by
  have ent_add : ∀ (p q : Int × Int), Ent p.1 p.2 → Ent (addI2 p q).1 (addI2 p q).2 := fun p q h => by
    by_cases k : Ent (addI2 p q).1 (addI2 p q).2
    · exact k
    · exact absurd h (addI2_fin k).1
  have stay : ∀ (l : List Tm) (p : Int × Int), Ent p.1 p.2 → Ent (l.foldl (fun a t => addI2 a (valI (cornerB s) t 6)) p).1 (l.foldl (fun a t => addI2 a (valI (cornerB s) t 6)) p).2 := by
    intro l
    induction l with
    | nil => exact fun p h => h
    | cons t l ih => exact fun p h => ih _ (ent_add _ _ h)
  have go : ∀ (l : List Tm) (x : Int), (∀ t ∈ l, TV t ∧ Num t.1) → Ent (l.foldl (fun a t => addI2 a (valI (cornerB s) t 6)) (x, x)).1 (l.foldl (fun a t => addI2 a (valI (cornerB s) t 6)) (x, x)).2 ∨ l.foldl (fun a t => addI2 a (valI (cornerB s) t 6)) (x, x) = (x + cvS s l, x + cvS s l) := by
    intro l
    induction l with
    | nil => intro x _; exact .inr (by simp [cvS])
    | cons t l ih =>
      intro x hl
      rw [List.foldl_cons, val_corner s (hl t (by simp)).1 (hl t (by simp)).2 6 (Nat.le_refl _)]
      rcases add_pts (x := x) (y := t.1 * pmC s t.2 6) with h | h
      · exact .inl (stay l _ h)
      · rw [h]
        rcases ih (x + t.1 * pmC s t.2 6) (fun u hu => hl u (by simp [hu])) with q | q
        · exact .inl q
        · refine .inr (q.trans ?_)
          rw [cvS_cons, show cvT s t = t.1 * pmC s t.2 6 from rfl, Int.add_assoc]
  have := go l 0 hl
  rw [Int.zero_add] at this
  exact this
/-- Eval at a corner and Range hold a model's values. -/
theorem evalM_in (s : List Int) {a : Mo} {x : Int} (hl : ∀ t ∈ a.1, TV t ∧ Num t.1) (hx : a.2.1 ≤ x ∧ x ≤ a.2.2) : Ent (evalM a (cornerB s)).1 (evalM a (cornerB s)).2 ∨ (evalM a (cornerB s)).1 ≤ cvS s a.1 + x ∧ cvS s a.1 + x ≤ (evalM a (cornerB s)).2 := by
  by_cases h : Ent (evalM a (cornerB s)).1 (evalM a (cornerB s)).2
  · exact .inl h
  · refine .inr ?_
    unfold evalM at *
    obtain ⟨h1, _, h3⟩ := addI2_fin h
    have e := (eval_corner s hl).resolve_left h1
    rw [h3, e]
    dsimp only
    omega
theorem newR_fin {m : Int × Int} (h : ¬ Ent (newR m).1 (newR m).2) : newR m = m := by
  unfold newR mkLo mkHi at *
  by_cases q : Num m.1 ∧ Num m.2
  · rw [if_pos q, if_pos q]
  · rw [if_neg q, if_neg q] at h
    exact absurd ⟨rfl, rfl⟩ h
theorem rangeM_in (s : List Int) {a : Mo} {x : Int} (hl : ∀ t ∈ a.1, EV t.2) (hx : a.2.1 ≤ x ∧ x ≤ a.2.2) : Ent (rangeM a).1 (rangeM a).2 ∨ (rangeM a).1 ≤ cvS s a.1 + x ∧ cvS s a.1 + x ≤ (rangeM a).2 := by
  by_cases h : Ent (rangeM a).1 (rangeM a).2
  · exact .inl h
  · refine .inr ?_
    unfold rangeM rngP at *
    obtain ⟨h1, _, h3⟩ := addI2_fin h
    have e := newR_fin h1
    have f := foldR_cv s a.1 (0, 0) 0 ⟨Int.le_refl _, Int.le_refl _⟩ hl
    rw [h3, e]
    unfold sumR
    dsimp only
    omega
theorem add_ent_r {p q : Int × Int} (h : Ent q.1 q.2) : Ent (addI2 p q).1 (addI2 p q).2 := by
  by_cases k : Ent (addI2 p q).1 (addI2 p q).2
  · exact k
  · exact absurd h (addI2_fin k).2.1
/-- What a truncation leaves is a polynomial, whatever is truncated. -/
theorem trunc_vp2 {l : List Tm} {D : Int} {m : Int × Int} (hr : Rise l) (hz : ∀ t ∈ l, t.1 ≠ 0) (hD : D ≤ 6) : VP (truncP l D m).1 := by
  unfold truncP
  split
  · exact vp_nil
  · rename_i hn
    split
    · exact vp_nil
    · rename_i hc
      refine ⟨all_of_rise (rise_filter hr _) fun t ht => ⟨hz t (List.mem_filter.1 ht).1, ?_⟩, by dsimp only; omega, ?_⟩
      · have := (List.mem_filter.1 ht).2
        simp only [decide_eq_true_eq] at this
        omega
      · rw [List.any_eq_false]
        intro t ht hb
        exact hn (List.any_eq_true.2 ⟨t, (List.mem_filter.1 ht).1, hb⟩)
theorem mulR_vp (l m : List Tm) (D : Int) : VP (mulR l m D).1 := trunc_vp2 (rise_filter (coll_rise _) _) (fun t ht => by simpa using (List.mem_filter.1 ht).2) (by omega)
theorem merge_vp {l m : List Tm} (hl : VP l) (hm : VP m) : VP (truncP (mergeP l m) 6 (0, 0)).1 := by
  have p1 := vp_parts hl
  have p2 := vp_parts hm
  exact trunc_vp2 (merge_rise l m p1.1 p2.1) (merge_nz l m (fun t ht => (p1.2 t ht).1) (fun t ht => (p2.2 t ht).1)) (Int.le_refl _)
def FullM (a : Mo) : Prop := VP a.1 ∧ (∀ t ∈ a.1, TV t) ∧ VB2 a.2 ∧ (Ent a.2.1 a.2.2 → a.1 = [])
theorem fullM_ok {a : Mo} (h : FullM a) : VP a.1 ∧ VI a.2.1 a.2.2 ∧ (a.1 = [] ∨ ¬ Ent a.2.1 a.2.2) := ⟨h.1, h.2.2.1, by
  by_cases q : Ent a.2.1 a.2.2
  · exact .inl (h.2.2.2 q)
  · exact .inr q⟩
theorem addM_full {a b : Mo} (ha : VP a.1) (hb : VP b.1) (ta : ∀ t ∈ a.1, TV t ∧ Num t.1) (tb : ∀ t ∈ b.1, TV t ∧ Num t.1) (va : VB2 a.2) (vb : VB2 b.2) : FullM (addM a b) :=
  ⟨normM_vp (merge_vp ha hb), normM_tv (truncP_tvY (merge_tv ta tb)), normM_vbY (addI2_vb (merge_vb _ _) (addI2_vb va vb)), normM_emp⟩
theorem mulM_full {a b : Mo} (d : Int) (ta : ∀ t ∈ a.1, TV t ∧ Num t.1) (tb : ∀ t ∈ b.1, TV t ∧ Num t.1) (la : a.1.length ≤ 100) (lb : b.1.length ≤ 100) (va : VB2 a.2) (vb : VB2 b.2) : FullM (mulM a b d) :=
  ⟨normM_vp (mulR_vp _ _ _), mulM_tv ta tb la lb, normM_vbY (addI2_vb (addI2_vb (addI2_vb (mulR_vb _ _ _) (mulI2_vb _ _)) (mulI2_vb _ _)) (mulI2_vb _ _)), normM_emp⟩
theorem neg_vp {l : List Tm} (h : VP l) : VP (negT l) := by
  have p := vp_parts h
  refine ⟨all_of_rise ?_ fun t ht => ?_, by rw [neg_len]; exact h.2.1, ?_⟩
  · exact List.pairwise_map.2 p.1
  · obtain ⟨s, hs, rfl⟩ := List.mem_map.1 ht
    have := p.2 s hs
    exact ⟨by dsimp only; omega, this.2⟩
  · rw [List.any_eq_false]
    intro t ht
    obtain ⟨s, hs, rfl⟩ := List.mem_map.1 ht
    have := vp_num h s hs
    unfold Num at this
    have hn : Num (-s.1) := by unfold Num; omega
    simp [noNum, hn]
theorem negM_full {a : Mo} (ha : VP a.1) (ta : ∀ t ∈ a.1, TV t ∧ Num t.1) (va : VB2 a.2) (he : Ent a.2.1 a.2.2 → a.1 = []) : FullM (negM a) :=
  ⟨neg_vp ha, fun t ht => (neg_tn ta t ht).1, neg_vb va, fun q => by
    have : Ent a.2.1 a.2.2 := by
      unfold Ent negM negI2 at *
      dsimp only at q
      omega
    show negT a.1 = []
    rw [he this]
    rfl⟩

theorem truncP_id {l : List Tm} (h : ∀ t ∈ l, Num t.1 ∧ degE t.2 ≤ 6) (hl : l.length ≤ 100) : truncP l 6 (0, 0) = (l, (0, 0)) := by
  have hk : keptP 6 l = l := List.filter_eq_self.2 fun t ht => by simp [(h t ht).2]
  have hm : missP 6 (0, 0) l = (0, 0) := by
    unfold missP
    rw [List.filter_eq_nil_iff.2 fun t ht => by simp [(h t ht).2]]
    rfl
  have hn : l.any noNum = false := by
    rw [List.any_eq_false]
    intro t ht
    simp [noNum, (h t ht).1]
  unfold truncP
  rw [hn, hk, hm, if_neg (by decide), if_neg (by rintro (q | q); omega; exact absurd q (by decide))]
  rfl
def unitE (k : Nat) : List Int := ([0, 0, 0, 0, 0, 0] : List Int).set k 1
def lineT (k : Nat) (r : Int) : List Tm := if r = 0 then [] else [(r, unitE k)]
theorem unit_deg : ∀ k < 6, degE (unitE k) = 1 := by decide
theorem unit_add : ∀ k < 6, addE (unitE k) [0, 0, 0, 0, 0, 0] = unitE k := by decide
theorem unit_cmp : ∀ k < 6, cmpE [0, 0, 0, 0, 0, 0] (unitE k) = -1 := by decide
theorem unit_ev : ∀ k < 6, (unitE k).length = 6 ∧ ∀ x ∈ unitE k, 0 ≤ x ∧ x ≤ 6 := by decide
theorem line_deg {k : Nat} {r : Int} (hk : k < 6) (hr : Num r) : ∀ t ∈ lineT k r, Num t.1 ∧ degE t.2 ≤ 6 := by
  unfold lineT
  split
  · simp
  · intro t ht
    simp only [List.mem_singleton] at ht
    subst ht
    exact ⟨hr, by rw [unit_deg k hk]; decide⟩
theorem const_deg {c : Int} (hr : Num c) : ∀ t ∈ constT c, Num t.1 ∧ degE t.2 ≤ 6 := by
  unfold constT
  split
  · simp
  · intro t ht
    simp only [List.mem_singleton] at ht
    subst ht
    exact ⟨hr, show degE ([0, 0, 0, 0, 0, 0] : List Int) ≤ 6 from by decide⟩
theorem lin_eq {k : Nat} {r : Int} (hk : k < 6) (hr : Num r) : linM k r = (lineT k r, (0, 0)) := by
  have hv : varT k = [(65536, unitE k)] := by
    unfold varT unitE
    rw [if_pos (by omega)]
    rfl
  unfold linM mulR
  rw [hv, show min (6 : Int) 6 = 6 from rfl]
  by_cases h : r = 0
  · subst h
    rw [show constT 0 = [] from rfl, show lineT k 0 = [] from rfl, show mulP [(65536, unitE k)] [] = [] from rfl, show missM (pairsT [(65536, unitE k)] []) = (0, 0) from rfl]
    exact truncP_id (by simp) (by simp)
  · have hd : dn (65536 * r) 65536 = r := by rw [Int.mul_comm]; exact dn_mul_self r (by decide)
    have hu : up (65536 * r) 65536 = r := by
      rw [← (dn_eq_up (65536 * r) (d := 65536) (by decide)).2 (by omega)]
      exact hd
    have hc : constT r = [(r, [0, 0, 0, 0, 0, 0])] := by unfold constT; rw [if_neg h]
    have hl : lineT k r = [(r, unitE k)] := by unfold lineT; rw [if_neg h]
    have hp : pairsT [(65536, unitE k)] [(r, [0, 0, 0, 0, 0, 0])] = [((65536, unitE k), (r, [0, 0, 0, 0, 0, 0]))] := rfl
    have e1 : mulP [(65536, unitE k)] [(r, [0, 0, 0, 0, 0, 0])] = [(r, unitE k)] := by
      unfold mulP
      rw [hp]
      simp [prT, hd, unit_add k hk, collT, insT, h]
    have e2 : missM [((65536, unitE k), (r, [0, 0, 0, 0, 0, 0]))] = (0, 0) := by
      unfold missM
      simp [rndP, hd, hu]
    rw [hc, e1, hp, e2, hl]
    exact truncP_id (fun t ht => by simp only [List.mem_singleton] at ht; subst ht; exact ⟨hr, by rw [unit_deg k hk]; decide⟩) (by simp)
theorem merge_line {k : Nat} {c r : Int} (hk : k < 6) : mergeP (constT c) (lineT k r) = constT c ++ lineT k r := by
  unfold constT lineT
  by_cases h1 : c = 0
  · by_cases h2 : r = 0 <;> simp [mergeP, h1, h2]
  · by_cases h2 : r = 0 <;> simp [mergeP, h1, h2, unit_cmp k hk]
theorem half_num {a b : Int} (ha : Num a) (hb : Num b) (h : a ≤ b) : Num (midI (a, b)) ∧ Num (b - midI (a, b)) ∧ Num (a - midI (a, b)) ∧ midI (a, b) = a + (b - a) / 2 := by
  unfold Num midI at *
  dsimp only
  omega
/-- Var of an interval that is not the entire one. -/
theorem varM_eq {k : Nat} {a b : Int} (hk : k < 6) (ha : Num a) (hb : Num b) (h : a ≤ b) : varM k (a, b) = (constT (midI (a, b)) ++ lineT k (b - midI (a, b)), (0, 0)) := by
  obtain ⟨hm, hr, -, -⟩ := half_num ha hb h
  unfold varM
  dsimp only
  rw [pt_num hr, if_neg (by
    unfold Num at hr
    simp only [entR, Bool.and_eq_true, beq_iff_eq]
    omega), lin_eq hk hr]
  dsimp only
  rw [merge_line hk, truncP_id (fun t ht => by
    rcases List.mem_append.1 ht with q | q
    · exact const_deg hm t q
    · exact line_deg hk hr t q) (by
    rw [List.length_append]
    have h1 : (constT (midI (a, b))).length ≤ 1 := by unfold constT; split <;> simp
    have h2 : (lineT k (b - midI (a, b))).length ≤ 1 := by unfold lineT; split <;> simp
    omega)]
  rfl
theorem varM_ent (i : Int) : varM i (-2147483648, 2147483648) = ([], (-2147483648, 2147483648)) := by
  unfold varM
  rw [if_pos (by decide)]
theorem constM_ent : constM (-2147483648, 2147483648) = ([], (-2147483648, 2147483648)) := by decide
theorem constM_eq {a b : Int} (ha : Num a) (hb : Num b) (h : a ≤ b) : constM (a, b) = (constT (midI (a, b)), (a - midI (a, b), b - midI (a, b))) := by
  obtain ⟨hm, hr, hl, -⟩ := half_num ha hb h
  have e : addI2 (a, b) (-midI (a, b), -midI (a, b)) = (a - midI (a, b), b - midI (a, b)) := by
    unfold addI2 addLo addHi
    dsimp only
    have n1 : ¬ Ent a b := by unfold Ent Num at *; omega
    have n2 : ¬ Ent (-midI (a, b)) (-midI (a, b)) := by unfold Ent; omega
    rw [if_neg (by rintro (q | q); exact n1 q; exact n2 q), if_neg (by rintro (q | q); exact n1 q; exact n2 q)]
    unfold mkLo mkHi
    rw [← Int.sub_eq_add_neg, ← Int.sub_eq_add_neg, if_pos ⟨hl, hr⟩, if_pos ⟨hl, hr⟩]
  unfold constM
  rw [pt_num hm]
  show (_, addI2 (a, b) (-midI (a, b), -midI (a, b))) = _
  rw [e]
theorem cv_const (s : List Int) (c : Int) : cvS s (constT c) = c := by
  unfold constT
  split
  · rename_i h; subst h; rfl
  · simp [cvS, cvT, pmC]
theorem pow1 (x : Int) : x ^ 1 = x := by rw [Int.pow_succ, Int.pow_zero, Int.one_mul]
theorem cv_line (s : List Int) {k : Nat} (hk : k < 6) (r : Int) : cvS s (lineT k r) = r * cnr s k := by
  unfold lineT
  split
  · rename_i h; subst h; simp [cvS]
  · rcases (show k = 0 ∨ k = 1 ∨ k = 2 ∨ k = 3 ∨ k = 4 ∨ k = 5 by omega) with rfl | rfl | rfl | rfl | rfl | rfl <;> simp [cvS, cvT, pmC, unitE, pow1]
theorem cv_app (s : List Int) (l m : List Tm) : cvS s (l ++ m) = cvS s l + cvS s m := by simp [cvS, List.sum_append]
theorem cv_var (s : List Int) {k : Nat} (hk : k < 6) (c r : Int) : cvS s (constT c ++ lineT k r) = c + r * cnr s k := by rw [cv_app, cv_const, cv_line s hk]
theorem const_six {c : Int} (h : Num c) : ∀ t ∈ constT c, TV t ∧ Num t.1 ∧ ∀ x ∈ t.2, x ≤ 6 := by
  unfold constT
  split
  · simp
  · intro t ht
    simp only [List.mem_singleton] at ht
    subst ht
    unfold Num at h
    exact ⟨⟨⟨rfl, show ∀ x ∈ ([0, 0, 0, 0, 0, 0] : List Int), 0 ≤ x ∧ x ≤ 255 from by decide⟩, by dsimp only; omega⟩, h, show ∀ x ∈ ([0, 0, 0, 0, 0, 0] : List Int), x ≤ 6 from by decide⟩
theorem line_six {k : Nat} {r : Int} (hk : k < 6) (h : Num r) : ∀ t ∈ lineT k r, TV t ∧ Num t.1 ∧ ∀ x ∈ t.2, x ≤ 6 := by
  unfold lineT
  split
  · simp
  · intro t ht
    simp only [List.mem_singleton] at ht
    subst ht
    have e := unit_ev k hk
    unfold Num at h
    exact ⟨⟨⟨e.1, fun x hx => ⟨(e.2 x hx).1, by have := (e.2 x hx).2; omega⟩⟩, by dsimp only; omega⟩, h, fun x hx => (e.2 x hx).2⟩
theorem var_six {k : Nat} {c r : Int} (hk : k < 6) (hc : Num c) (h : Num r) : ∀ t ∈ constT c ++ lineT k r, TV t ∧ Num t.1 ∧ ∀ x ∈ t.2, x ≤ 6 := fun t ht => by
  rcases List.mem_append.1 ht with q | q
  · exact const_six hc t q
  · exact line_six hk h t q
theorem var_len (k : Nat) (c r : Int) : (constT c ++ lineT k r).length ≤ 100 := by
  rw [List.length_append]
  have h1 : (constT c).length ≤ 1 := by unfold constT; split <;> simp
  have h2 : (lineT k r).length ≤ 1 := by unfold lineT; split <;> simp
  omega
/-- A block of eight-bit numbers. -/
def I8C (W : World) (b : Nat) (l : List Int) : Prop := W.heap[b]? = some (.cells (l.map fun x => Value.int .i8 x).toArray 58 (0, 0))
theorem I8C.lt {W : World} {b : Nat} {l : List Int} (h : I8C W b l) : b < W.heap.size := (Array.getElem?_eq_some_iff.1 h).1
theorem I8C.grow {W W' : World} {b : Nat} {l : List Int} (h : I8C W b l) (hB : Below W.heap.size W W') : I8C W' b l := (hB.block b h.lt).trans h
theorem I8C.frozen {W : World} {b : Nat} {l : List Int} (h : I8C W b l) (o : Nat) : W.frozen? ⟨b, o, none⟩ = false := by simp [World.frozen?, show W.heap[b]? = _ from h]
theorem I8C.cell {W : World} {b k : Nat} {l : List Int} {x : Int} (h : I8C W b l) (hx : l[k]? = some x) : W.cell? ⟨b, k, none⟩ = some (.int .i8 x) := by
  simp [World.cell?, show W.heap[b]? = _ from h, hx]
theorem I8C.set {W : World} {b k : Nat} {l : List Int} (h : I8C W b l) (x : Int) : I8C (W.setCell ⟨b, k, none⟩ (.int .i8 x)) b (l.set k x) := by
  have := cellsT_set (o := k) (u := .int .i8 x) h
  unfold I8C
  rw [this, List.map_set]
  simp
theorem I8C.s8 {W : World} {b : Nat} {l : List Int} (h : I8C W b l) (hl : l.length = 6) : S8 W (.slice (some ⟨b, 0, none⟩) 6 6) l := by
  refine ⟨by rw [hl]; simp [maxLen], some ⟨b, 0, none⟩, 6, by rw [hl], fun k x hk => ⟨b, 0, rfl, h.lt, ?_⟩⟩
  rw [Nat.zero_add]
  exact h.cell hk
def unitS (k : Nat) (x : Int) : List Int := ([0, 0, 0, 0, 0, 0] : List Int).set k x
theorem unitS_cnr {k : Nat} (hk : k < 6) : cnr [0, 0, 0, 0, 0, 0] k = 0 ∧ cnr (unitS k 1) k = 1 ∧ cnr (unitS k (-1)) k = -1 := by
  rcases (show k = 0 ∨ k = 1 ∨ k = 2 ∨ k = 3 ∨ k = 4 ∨ k = 5 by omega) with rfl | rfl | rfl | rfl | rfl | rfl <;> decide
theorem unitS_bd {k : Nat} {x : Int} (hx : -128 ≤ x ∧ x ≤ 127) : ∀ y ∈ unitS k x, -128 ≤ y ∧ y ≤ 127 := fun y hy => by
  rcases List.mem_or_eq_of_mem_set hy with q | rfl
  · simp at q; omega
  · exact hx
theorem unitS_len (k : Nat) (x : Int) : (unitS k x).length = 6 := by simp [unitS]

theorem cvT_add (s : List Int) (x y : Int) (e : List Int) : cvT s (x + y, e) = cvT s (x, e) + cvT s (y, e) := Int.add_mul _ _ _
theorem merge_cv (p : List Int) (l m : List Tm) : cvS p (mergeP l m) = cvS p l + cvS p m := by
  induction l, m using mergeP.induct with
  | case1 m => rw [mergeP]; simp [cvS]
  | case2 x l => rw [mergeP]; simp [cvS]
  | case3 x l y m h0 ih => rw [mergeP, if_pos h0, cvS_cons, ih, cvS_cons p x l]; omega
  | case4 x l y m h0 h3 ih => rw [mergeP, if_neg h0, if_pos h3, cvS_cons, ih, cvS_cons p y]; omega
  | case5 x l y m h0 h3 h4 ih =>
    rw [mergeP, if_neg h0, if_neg h3, if_pos h4, ih, cvS_cons, cvS_cons]
    have e := cmp_mid h0 h3
    have h := cvT_add p x.1 y.1 x.2
    rw [h4] at h
    have z : cvT p (0, x.2) = 0 := by simp [cvT]
    rw [z] at h
    have e2 : cvT p (y.1, x.2) = cvT p y := by rw [e]
    have e1 : cvT p (x.1, x.2) = cvT p x := rfl
    omega
  | case6 x l y m h0 h3 h4 ih =>
    rw [mergeP, if_neg h0, if_neg h3, if_neg h4, cvS_cons, ih, cvS_cons, cvS_cons]
    have e := cmp_mid h0 h3
    have h := cvT_add p x.1 y.1 x.2
    have e2 : cvT p (y.1, x.2) = cvT p y := by rw [e]
    have e1 : cvT p (x.1, x.2) = cvT p x := rfl
    omega
theorem ins_cv (s : List Int) (x : Tm) : ∀ l : List Tm, cvS s (insT x l) = cvT s x + cvS s l
  | [] => by simp [insT, cvS]
  | q :: r => by
    have ih := ins_cv s x r
    unfold insT
    split
    · rw [cvS_cons, cvS_cons, ih]; omega
    · split
      · rename_i h0
        have e := cmp_zero h0
        rw [cvS_cons, cvS_cons]
        have h := cvT_add s x.1 q.1 x.2
        have e2 : cvT s (q.1, x.2) = cvT s q := by rw [← e]
        have e1 : cvT s (x.1, x.2) = cvT s x := rfl
        omega
      · rw [cvS_cons]
theorem coll_cv (s : List Int) (S : List Tm) : cvS s (collT S) = cvS s S := by
  have : ∀ (S l : List Tm), cvS s (S.foldl (fun l x => insT x l) l) = cvS s l + cvS s S := by
    intro S
    induction S with
    | nil => intro l; simp [cvS]
    | cons x S ih => intro l; rw [List.foldl_cons, ih, ins_cv, cvS_cons]; omega
  have h := this S []
  rw [show cvS s [] = 0 from rfl, Int.zero_add] at h
  exact h
theorem nz_cv (s : List Int) : ∀ l : List Tm, cvS s (l.filter fun t => t.1 != 0) = cvS s l
  | [] => rfl
  | t :: l => by
    have ih := nz_cv s l
    by_cases h : t.1 = 0
    · rw [List.filter_cons_of_neg (by simp [h]), ih, cvS_cons]
      have : cvT s t = 0 := by unfold cvT; rw [h, Int.zero_mul]
      omega
    · rw [List.filter_cons_of_pos (by simp [h]), cvS_cons, cvS_cons, ih]
theorem getD_addE {d e : List Int} {j : Nat} (hd : d.length = 6) (he : e.length = 6) (hj : j < 6) : (addE d e).getD j 0 = (d.getD j 0 + e.getD j 0) % 256 := by
  unfold addE
  simp only [List.getD_eq_getElem?_getD, List.getElem?_map, List.getElem?_zip_eq_some, List.zip]
  rw [List.getElem?_zipWith]
  rw [List.getElem?_eq_getElem (by omega), List.getElem?_eq_getElem (by omega)]
  rfl
theorem pm_add (s : List Int) {d e : List Int} (hd : EV d ∧ ∀ x ∈ d, x ≤ 6) (he : EV e ∧ ∀ x ∈ e, x ≤ 6) : ∀ j, j ≤ 6 → pmC s (addE d e) j = pmC s d j * pmC s e j
  | 0, _ => rfl
  | j + 1, h => by
    have ih := pm_add s hd he j (by omega)
    have gd : ∀ {l : List Int}, EV l ∧ (∀ x ∈ l, x ≤ 6) → 0 ≤ l.getD j 0 ∧ l.getD j 0 ≤ 6 := by
      intro l hl
      rw [List.getD_eq_getElem?_getD, List.getElem?_eq_getElem (by rw [hl.1.1]; omega)]
      exact ⟨(hl.1.2 _ (List.getElem_mem _)).1, hl.2 _ (List.getElem_mem _)⟩
    have a := gd hd
    have b := gd he
    show pmC s (addE d e) j * cnr s j ^ ((addE d e).getD j 0).toNat = pmC s d j * cnr s j ^ (d.getD j 0).toNat * (pmC s e j * cnr s j ^ (e.getD j 0).toNat)
    rw [ih, getD_addE hd.1.1 he.1.1 (by omega), show ((d.getD j 0 + e.getD j 0) % 256).toNat = (d.getD j 0).toNat + (e.getD j 0).toNat by omega, Int.pow_add]
    rw [Int.mul_assoc, Int.mul_assoc, Int.mul_left_comm (pmC s e j)]
def pS (s : List Int) (Q : List (Tm × Tm)) : Int := (Q.map fun p => cvT s p.1 * cvT s p.2).sum
theorem pS_cons (s : List Int) (p : Tm × Tm) (Q : List (Tm × Tm)) : pS s (p :: Q) = cvT s p.1 * cvT s p.2 + pS s Q := by simp [pS]
theorem pS_app (s : List Int) (P Q : List (Tm × Tm)) : pS s (P ++ Q) = pS s P + pS s Q := by simp [pS, List.sum_append]
theorem pS_row (s : List Int) (t : Tm) : ∀ m : List Tm, pS s (m.map fun u => (t, u)) = cvT s t * cvS s m
  | [] => by simp [pS, cvS]
  | u :: m => by rw [List.map_cons, pS_cons, pS_row s t m, cvS_cons, Int.mul_add]
theorem pairs_cv (s : List Int) (m : List Tm) : ∀ l : List Tm, pS s (pairsT l m) = cvS s l * cvS s m
  | [] => by simp [pairsT, pS, cvS]
  | t :: l => by
    have ih := pairs_cv s m l
    rw [show pairsT (t :: l) m = (m.map fun u => (t, u)) ++ pairsT l m from rfl, pS_app, pS_row, ih, cvS_cons, Int.add_mul]
theorem dn_bd (K : Int) : dn K 65536 * 65536 ≤ K ∧ K < dn K 65536 * 65536 + 65536 ∧ (dn K 65536 = up K 65536 → dn K 65536 * 65536 = K) := by
  rw [dn_eq_up K (d := 65536) (by decide), dn_pos K (by decide)]
  omega
theorem addE_ev {d e : List Int} (hd : EV d) (he : EV e) : EV (addE d e) := by
  refine ⟨by simp [addE, hd.1, he.1], fun x hx => ?_⟩
  obtain ⟨z, _, rfl⟩ := List.mem_map.1 hx
  omega
theorem pair_cv (s : List Int) (p : Tm × Tm) (h1 : EV p.1.2 ∧ ∀ x ∈ p.1.2, x ≤ 6) (h2 : EV p.2.2 ∧ ∀ x ∈ p.2.2, x ≤ 6) : 65536 * (cvT s (prT p) + (rndP p).1) ≤ cvT s p.1 * cvT s p.2 ∧ cvT s p.1 * cvT s p.2 ≤ 65536 * (cvT s (prT p) + (rndP p).2) := by
  have hu := pm_add s h1 h2 6 (Nat.le_refl _)
  have e : cvT s p.1 * cvT s p.2 = p.1.1 * p.2.1 * pmC s (addE p.1.2 p.2.2) 6 := by
    unfold cvT
    rw [hu, Int.mul_assoc, Int.mul_assoc, Int.mul_left_comm (pmC s p.1.2 6)]
  have f : cvT s (prT p) = dn (p.1.1 * p.2.1) 65536 * pmC s (addE p.1.2 p.2.2) 6 := rfl
  have g := dn_bd (p.1.1 * p.2.1)
  have ev := addE_ev h1.1 h2.1
  have hv := pmC_one s (addE p.1.2 p.2.2) 6
  have hev := pmC_even s ev
  rw [e, f]
  unfold rndP
  obtain ⟨n, hn⟩ : ∃ n, dn (p.1.1 * p.2.1) 65536 = n := ⟨_, rfl⟩
  obtain ⟨K, hK⟩ : ∃ K, p.1.1 * p.2.1 = K := ⟨_, rfl⟩
  obtain ⟨U, hU⟩ : ∃ U, up (p.1.1 * p.2.1) 65536 = U := ⟨_, rfl⟩
  rw [hn, hU, hK] at g
  rw [hn, hU, hK]
  by_cases q : n = U
  · rw [if_pos q]
    have := g.2.2 q
    rcases (show pmC s (addE p.1.2 p.2.2) 6 = -1 ∨ pmC s (addE p.1.2 p.2.2) 6 = 0 ∨ pmC s (addE p.1.2 p.2.2) 6 = 1 by omega) with h | h | h <;> rw [h] <;> dsimp only <;> omega
  · rw [if_neg q]
    unfold rndE
    by_cases ee : evenE (addE p.1.2 p.2.2) = true
    · rw [if_pos ee]
      have h01 := hev ee 6
      rcases (show pmC s (addE p.1.2 p.2.2) 6 = 0 ∨ pmC s (addE p.1.2 p.2.2) 6 = 1 by omega) with h | h <;> rw [h] <;> dsimp only <;> omega
    · rw [if_neg ee]
      rcases (show pmC s (addE p.1.2 p.2.2) 6 = -1 ∨ pmC s (addE p.1.2 p.2.2) 6 = 0 ∨ pmC s (addE p.1.2 p.2.2) 6 = 1 by omega) with h | h | h <;> rw [h] <;> dsimp only <;> omega
theorem miss_cv (s : List Int) : ∀ (Q : List (Tm × Tm)) (a : Int × Int) (z : Int), (∀ p ∈ Q, (EV p.1.2 ∧ ∀ x ∈ p.1.2, x ≤ 6) ∧ EV p.2.2 ∧ ∀ x ∈ p.2.2, x ≤ 6) → 65536 * a.1 ≤ z ∧ z ≤ 65536 * a.2 → 65536 * (Q.foldl (fun a p => (a.1 + (rndP p).1, a.2 + (rndP p).2)) a).1 ≤ z + pS s Q - 65536 * cvS s (Q.map prT) ∧ z + pS s Q - 65536 * cvS s (Q.map prT) ≤ 65536 * (Q.foldl (fun a p => (a.1 + (rndP p).1, a.2 + (rndP p).2)) a).2
  | [], a, z, _, h => by simpa [pS, cvS] using h
  | p :: Q, a, z, hQ, h => by
    have hp := hQ p (by simp)
    have k := pair_cv s p hp.1 hp.2
    have ih := miss_cv s Q (a.1 + (rndP p).1, a.2 + (rndP p).2) (z + cvT s p.1 * cvT s p.2 - 65536 * cvT s (prT p)) (fun q hq => hQ q (by simp [hq])) (by dsimp only; omega)
    rw [List.foldl_cons, List.map_cons, pS_cons, cvS_cons]
    omega
def Six (l : List Tm) : Prop := ∀ t ∈ l, TV t ∧ Num t.1 ∧ ∀ x ∈ t.2, x ≤ 6
theorem mulR_in (s : List Int) {l m : List Tm} {D : Int} (hl : Six l) (hm : Six m) (h1 : l.length ≤ 100) (h2 : m.length ≤ 100) (h : ¬ Ent (mulR l m D).2.1 (mulR l m D).2.2) : (cvS s (mulR l m D).1 + (mulR l m D).2.1) * 65536 ≤ cvS s l * cvS s m ∧ cvS s l * cvS s m ≤ (cvS s (mulR l m D).1 + (mulR l m D).2.2) * 65536 := by
  have hev : ∀ t ∈ mulP l m, EV t.2 := fun t ht => (mulP_tv (fun t ht => ⟨(hl t ht).1, (hl t ht).2.1⟩) (fun t ht => ⟨(hm t ht).1, (hm t ht).2.1⟩) (Nat.le_trans (Nat.mul_le_mul h1 h2) (by decide)) t ht).1
  have hpq : ∀ p ∈ pairsT l m, (EV p.1.2 ∧ ∀ x ∈ p.1.2, x ≤ 6) ∧ EV p.2.2 ∧ ∀ x ∈ p.2.2, x ≤ 6 := fun p hp => by
    obtain ⟨t, ht, hp⟩ := List.mem_flatMap.1 hp
    obtain ⟨u, hu, rfl⟩ := List.mem_map.1 hp
    exact ⟨⟨(hl t ht).1.1, (hl t ht).2.2⟩, (hm u hu).1.1, (hm u hu).2.2⟩
  have hms := miss_cv s (pairsT l m) (0, 0) 0 hpq ⟨Int.le_refl _, Int.le_refl _⟩
  have hsg := missM_sign (pairsT l m)
  have hmp : cvS s (mulP l m) = cvS s ((pairsT l m).map prT) := by
    unfold mulP
    rw [nz_cv, coll_cv]
  rw [pairs_cv] at hms
  unfold mulR at h ⊢
  obtain ⟨_, _, _, _, e⟩ := trunc_some h
  rw [e]
  dsimp only
  have k1 := cv_split s (fun t => decide (degE t.2 ≤ min D 6)) (mulP l m)
  have k2 := foldR_cv s ((mulP l m).filter fun t => !decide (degE t.2 ≤ min D 6)) (missM (pairsT l m)) (missM (pairsT l m)).1 ⟨Int.le_refl _, by omega⟩ fun t ht => hev t (List.mem_filter.1 ht).1
  have k3 := foldR_cv s ((mulP l m).filter fun t => !decide (degE t.2 ≤ min D 6)) (missM (pairsT l m)) (missM (pairsT l m)).2 ⟨by omega, Int.le_refl _⟩ fun t ht => hev t (List.mem_filter.1 ht).1
  have hms' : 65536 * (missM (pairsT l m)).1 ≤ 0 + cvS s l * cvS s m - 65536 * cvS s ((pairsT l m).map prT) ∧ 0 + cvS s l * cvS s m - 65536 * cvS s ((pairsT l m).map prT) ≤ 65536 * (missM (pairsT l m)).2 := hms
  unfold keptP missP
  omega
theorem prod_in6 {x y i j k l : Int} (h1 : i ≤ x) (h2 : x ≤ j) (h3 : k ≤ y) (h4 : y ≤ l) : mn4 i j k l ≤ x * y ∧ x * y ≤ mx4 i j k l := by
  obtain ⟨e1, e2, e3, e4, -, -, -, -⟩ := edges (a := i) (b := j) (c := k) (d := y) (by omega) h3
  obtain ⟨f1, f2, f3, f4, -, -, -, -⟩ := edges (a := i) (b := j) (c := y) (d := l) (by omega) h4
  have p : 0 ≤ y → i * y ≤ x * y ∧ x * y ≤ j * y := fun hy => ⟨Int.mul_le_mul_of_nonneg_right h1 hy, Int.mul_le_mul_of_nonneg_right h2 hy⟩
  have q : y ≤ 0 → x * y ≤ i * y ∧ j * y ≤ x * y := fun hy => ⟨Int.mul_le_mul_of_nonpos_right h1 hy, Int.mul_le_mul_of_nonpos_right h2 hy⟩
  unfold mn4 mx4
  rcases Int.le_total 0 y with hy | hy
  · have := p hy
    rcases Int.le_total 0 i with hi | hi
    · have := e1 hi; have := f1 hi
      rcases Int.le_total 0 j with hj | hj
      · have := e3 hj; have := f3 hj; omega
      · have := e4 hj; have := f4 hj; omega
    · have := e2 hi; have := f2 hi
      rcases Int.le_total 0 j with hj | hj
      · have := e3 hj; have := f3 hj; omega
      · have := e4 hj; have := f4 hj; omega
  · have := q hy
    rcases Int.le_total 0 i with hi | hi
    · have := e1 hi; have := f1 hi
      rcases Int.le_total 0 j with hj | hj
      · have := e3 hj; have := f3 hj; omega
      · have := e4 hj; have := f4 hj; omega
    · have := e2 hi; have := f2 hi
      rcases Int.le_total 0 j with hj | hj
      · have := e3 hj; have := f3 hj; omega
      · have := e4 hj; have := f4 hj; omega
theorem mulI2_in {p q : Int × Int} {x y : Int} (hx : p.1 ≤ x ∧ x ≤ p.2) (hy : q.1 ≤ y ∧ y ≤ q.2) (h : ¬ Ent (mulI2 p q).1 (mulI2 p q).2) : (mulI2 p q).1 * 65536 ≤ x * y ∧ x * y ≤ (mulI2 p q).2 * 65536 := by
  have k := prod_in6 hx.1 hx.2 hy.1 hy.2
  have d1 := dn_bd (mn4 p.1 p.2 q.1 q.2)
  have d2 := dn_bd (-mx4 p.1 p.2 q.1 q.2)
  unfold mulI2 mulLo mulHi at h ⊢
  dsimp only at h ⊢
  by_cases hc : Ent p.1 p.2 ∨ Ent q.1 q.2
  · rw [if_pos hc, if_pos hc] at h
    exact absurd ⟨rfl, rfl⟩ h
  · rw [if_neg hc, if_neg hc] at h ⊢
    unfold mkLo mkHi at h ⊢
    by_cases hn : Num (dn (mn4 p.1 p.2 q.1 q.2) 65536) ∧ Num (up (mx4 p.1 p.2 q.1 q.2) 65536)
    · rw [if_pos hn, if_pos hn]
      have hu : up (mx4 p.1 p.2 q.1 q.2) 65536 = -dn (-mx4 p.1 p.2 q.1 q.2) 65536 := rfl
      rw [hu]
      omega
    · rw [if_neg hn, if_neg hn] at h
      exact absurd ⟨rfl, rfl⟩ h
theorem addM_in (s : List Int) {a b : Mo} {x y : Int} (ha : ∀ t ∈ a.1, TV t ∧ Num t.1) (hb : ∀ t ∈ b.1, TV t ∧ Num t.1) (hx : a.2.1 ≤ x ∧ x ≤ a.2.2) (hy : b.2.1 ≤ y ∧ y ≤ b.2.2) : Ent (addM a b).2.1 (addM a b).2.2 ∨ cvS s (addM a b).1 + (addM a b).2.1 ≤ (cvS s a.1 + x) + (cvS s b.1 + y) ∧ (cvS s a.1 + x) + (cvS s b.1 + y) ≤ cvS s (addM a b).1 + (addM a b).2.2 := by
  by_cases h : Ent (addM a b).2.1 (addM a b).2.2
  · exact .inl h
  · refine .inr ?_
    unfold addM at *
    obtain ⟨e1, f1⟩ := normM_ent h
    obtain ⟨g1, g2, g3⟩ := addI2_fin f1
    obtain ⟨i1, i2, i3⟩ := addI2_fin g2
    have h2 := trunc_cv s (fun t ht => (merge_tv ha hb t ht).1) g1
    rw [merge_cv] at h2
    rw [e1, g3, i3]
    dsimp only
    omega
theorem rng_in (s : List Int) {l : List Tm} (hl : ∀ t ∈ l, EV t.2) (h : ¬ Ent (rngP l).1 (rngP l).2) : (rngP l).1 ≤ cvS s l ∧ cvS s l ≤ (rngP l).2 := by
  unfold rngP at *
  rw [newR_fin h]
  have f := foldR_cv s l (0, 0) 0 ⟨Int.le_refl _, Int.le_refl _⟩ hl
  unfold sumR
  omega
theorem mulI2_fin {p q : Int × Int} (h : ¬ Ent (mulI2 p q).1 (mulI2 p q).2) : ¬ Ent p.1 p.2 ∧ ¬ Ent q.1 q.2 := by
  unfold mulI2 mulLo mulHi at h
  dsimp only at h
  by_cases hc : Ent p.1 p.2 ∨ Ent q.1 q.2
  · rw [if_pos hc, if_pos hc] at h
    exact absurd ⟨rfl, rfl⟩ h
  · exact ⟨fun e => hc (.inl e), fun e => hc (.inr e)⟩
theorem mulM_in (s : List Int) {a b : Mo} {x y : Int} (d : Int) (ha : Six a.1) (hb : Six b.1) (h1 : a.1.length ≤ 100) (h2 : b.1.length ≤ 100) (hx : a.2.1 ≤ x ∧ x ≤ a.2.2) (hy : b.2.1 ≤ y ∧ y ≤ b.2.2) : Ent (mulM a b d).2.1 (mulM a b d).2.2 ∨ (cvS s (mulM a b d).1 + (mulM a b d).2.1) * 65536 ≤ (cvS s a.1 + x) * (cvS s b.1 + y) ∧ (cvS s a.1 + x) * (cvS s b.1 + y) ≤ (cvS s (mulM a b d).1 + (mulM a b d).2.2) * 65536 := by
  by_cases h : Ent (mulM a b d).2.1 (mulM a b d).2.2
  · exact .inl h
  · refine .inr ?_
    unfold mulM at *
    obtain ⟨e1, f1⟩ := normM_ent h
    obtain ⟨g1, g2, g3⟩ := addI2_fin f1
    obtain ⟨i1, i2, i3⟩ := addI2_fin g1
    obtain ⟨j1, j2, j3⟩ := addI2_fin i1
    have r1 := rng_in s (fun t ht => (ha t ht).1.1) (mulI2_fin j2).1
    have r2 := rng_in s (fun t ht => (hb t ht).1.1) (mulI2_fin i2).1
    have k1 := mulR_in s ha hb h1 h2 j1
    have k2 := mulI2_in r1 hy j2
    have k3 := mulI2_in r2 hx i2
    have k4 := mulI2_in hx hy g2
    rw [e1, g3, i3, j3]
    dsimp only
    have e : (cvS s a.1 + x) * (cvS s b.1 + y) = cvS s a.1 * cvS s b.1 + cvS s a.1 * y + cvS s b.1 * x + x * y := by
      rw [Int.add_mul, Int.mul_add, Int.mul_add, Int.mul_comm x (cvS s b.1)]
      omega
    rw [e]
    omega
end Go.Proofs.YtbfhmbadgbackaaGreat
