/-
  Lists of intervals: intersections, inflation, distances.
-/
import Derived.Test.YtpepgheocemjdaaBoxes
import Derived.Test.YtpepgheocemjdaaMag
import Derived.Test.YtpepgheocemjdaaIsoMath
namespace Go.Proofs.Ytpepgheocemjdaa
open Go.ChangeShapes Go.WideShapes Go.ChangeAt Go.RowKit
set_option linter.unusedVariables false
set_option linter.unusedSimpArgs false
set_option maxRecDepth 100000


/-! Lists that are zipped, element by element. -/
theorem zip_all {α β : Type} (f : α × β → Bool) (a : List α) (b : List β) : (a.zip b).all f = true ↔ ∀ (i : Nat) (x : α) (y : β), a[i]? = some x → b[i]? = some y → f (x, y) = true := by
  rw [List.all_eq_true]
  constructor
  · intro h i x y hx hy
    exact h (x, y) (List.mem_iff_getElem?.2 ⟨i, List.getElem?_zip_eq_some.2 ⟨hx, hy⟩⟩)
  · rintro h ⟨x, y⟩ hz
    obtain ⟨i, hi⟩ := List.mem_iff_getElem?.1 hz
    have := List.getElem?_zip_eq_some.1 hi
    exact h i x y this.1 this.2
theorem zip_map_at {α β γ : Type} (g : α × β → γ) (a : List α) (b : List β) (i : Nat) (z : γ) : ((a.zip b).map g)[i]? = some z ↔ ∃ x y, a[i]? = some x ∧ b[i]? = some y ∧ g (x, y) = z := by
  rw [List.getElem?_map, Option.map_eq_some_iff]
  constructor
  · rintro ⟨⟨x, y⟩, h, e⟩
    have := List.getElem?_zip_eq_some.1 h
    exact ⟨x, y, this.1, this.2, e⟩
  · rintro ⟨x, y, h1, h2, e⟩
    exact ⟨(x, y), List.getElem?_zip_eq_some.2 ⟨h1, h2⟩, e⟩
theorem map_at {α γ : Type} (g : α → γ) (a : List α) (i : Nat) (z : γ) : (a.map g)[i]? = some z ↔ ∃ x, a[i]? = some x ∧ g x = z := by
  rw [List.getElem?_map, Option.map_eq_some_iff]
theorem at_len {α β : Type} {a : List α} {b : List β} {i : Nat} {x : α} (h : b.length = a.length) (hx : a[i]? = some x) : ∃ y, b[i]? = some y := by
  have : i < a.length := (List.getElem?_eq_some_iff.1 hx).1
  exact ⟨b[i], List.getElem?_eq_getElem (by omega)⟩
theorem at_mem {α : Type} {a : List α} {i : Nat} {x : α} (hx : a[i]? = some x) : x ∈ a := List.mem_iff_getElem?.2 ⟨i, hx⟩
theorem all_zip_comm {α : Type} (f : α × α → Bool) (hf : ∀ x y, f (y, x) = f (x, y)) : ∀ a b : List α, (b.zip a).all f = (a.zip b).all f
  | [], [] => rfl
  | [], _ :: _ => rfl
  | _ :: _, [] => rfl
  | x :: a, y :: b => by rw [List.zip_cons_cons, List.zip_cons_cons, List.all_cons, List.all_cons, all_zip_comm f hf a b, hf x y]
theorem map_zip_comm {α γ : Type} (f : α × α → γ) (hf : ∀ x y, f (y, x) = f (x, y)) : ∀ a b : List α, (b.zip a).map f = (a.zip b).map f
  | [], [] => rfl
  | [], _ :: _ => rfl
  | _ :: _, [] => rfl
  | x :: a, y :: b => by rw [List.zip_cons_cons, List.zip_cons_cons, List.map_cons, List.map_cons, map_zip_comm f hf a b, hf x y]
theorem okM_iff (x y : Int × Int) : okM (x, y) = true ↔ x.1 ≤ x.2 ∨ True → max x.1 y.1 ≤ min x.2 y.2 := by simp [okM]
theorem okM_comm (x y : Int × Int) : okM (y, x) = okM (x, y) := by
  simp only [okM]
  exact decide_eq_decide.2 (by omega)
theorem meetI_comm (x y : Int × Int) : meetI (y, x) = meetI (x, y) := by
  simp only [meetI, Prod.mk.injEq]
  omega
theorem VB.dat {p : Int × Int} (h : VB p) : -2147483648 ≤ p.1 ∧ p.1 ≤ p.2 ∧ p.2 ≤ 2147483648 := by
  have := VI.bd h
  omega

/-! Intersections. -/
theorem meet_len (a b : List (Int × Int)) (h : b.length = a.length) : ((a.zip b).map meetI).length = a.length := by simp [h]
theorem meet_vb (a b : List (Int × Int)) (ha : ∀ p ∈ a, VB p) (hb : ∀ p ∈ b, VB p) (ho : (a.zip b).all okM = true) : ∀ p ∈ (a.zip b).map meetI, VB p := by
  intro p hp
  obtain ⟨i, hi⟩ := List.mem_iff_getElem?.1 hp
  obtain ⟨x, y, hx, hy, rfl⟩ := (zip_map_at _ _ _ _ _).1 hi
  have h1 := ha x (at_mem hx)
  have h2 := hb y (at_mem hy)
  have h3 := (zip_all _ _ _).1 ho i x y hx hy
  simp only [okM, decide_eq_true_eq] at h3
  show VI (max x.1 y.1) (min x.2 y.2)
  unfold VB VI Ent Num at h1 h2
  unfold VI Ent Num
  omega
theorem meet_left (a b : List (Int × Int)) : (((a.zip b).map meetI).zip a).all sub1 = true := by
  refine (zip_all _ _ _).2 fun i m x hm hx => ?_
  obtain ⟨x', y, hx', hy, rfl⟩ := (zip_map_at _ _ _ _ _).1 hm
  obtain rfl : x' = x := by rw [hx'] at hx; exact Option.some.inj hx
  show (decide (x'.1 ≤ max x'.1 y.1) && decide (min x'.2 y.2 ≤ x'.2)) = true
  rw [Bool.and_eq_true, decide_eq_true_eq, decide_eq_true_eq]
  omega
theorem meet_right (a b : List (Int × Int)) : (((a.zip b).map meetI).zip b).all sub1 = true := by
  rw [← map_zip_comm meetI meetI_comm a b]
  exact meet_left b a
theorem meet_glb (a b c : List (Int × Int)) (hv : ∀ p ∈ c, VB p) (ha : a.length = c.length) (hb : b.length = c.length) (h : (c.zip a).all sub1 = true) (g : (c.zip b).all sub1 = true) :
    (a.zip b).all okM = true ∧ (c.zip ((a.zip b).map meetI)).all sub1 = true := by
  constructor
  · refine (zip_all _ _ _).2 fun i x y hx hy => ?_
    obtain ⟨z, hz⟩ := at_len ha.symm hx
    have h1 := (zip_all _ _ _).1 h i z x hz hx
    have h2 := (zip_all _ _ _).1 g i z y hz hy
    have h3 := (hv z (at_mem hz)).dat
    simp only [sub1, Bool.and_eq_true, decide_eq_true_eq] at h1 h2
    simp only [okM, decide_eq_true_eq]
    omega
  · refine (zip_all _ _ _).2 fun i z m hz hm => ?_
    obtain ⟨x, y, hx, hy, rfl⟩ := (zip_map_at _ _ _ _ _).1 hm
    have h1 := (zip_all _ _ _).1 h i z x hz hx
    have h2 := (zip_all _ _ _).1 g i z y hz hy
    simp only [sub1, Bool.and_eq_true, decide_eq_true_eq] at h1 h2
    show (decide (max x.1 y.1 ≤ z.1) && decide (z.2 ≤ min x.2 y.2)) = true
    rw [Bool.and_eq_true, decide_eq_true_eq, decide_eq_true_eq]
    omega
theorem con1_iff {x : Int × Int} {p : Int} (hp : Num p) : con1 (x, p) = true ↔ x.1 ≤ p ∧ p ≤ x.2 := by
  unfold Num at hp
  have e : con1 (x, p) = true ↔ Ent x.1 x.2 ∨ (x.1 ≤ p ∧ p ≤ x.2) := by
    simp only [con1, Bool.or_eq_true, Bool.and_eq_true, decide_eq_true_eq]
  rw [e]
  unfold Ent
  omega
theorem meet_no (a b : List (Int × Int)) (m : List Int) (hb : b.length = a.length) (hm : m.length = a.length) (hn : ∀ p ∈ m, Num p) (h : (a.zip m).all con1 = true) (g : (b.zip m).all con1 = true) : (a.zip b).all okM = true := by
  refine (zip_all _ _ _).2 fun i x y hx hy => ?_
  obtain ⟨p, hp⟩ := at_len hm hx
  have h1 := (con1_iff (hn p (at_mem hp))).1 ((zip_all _ _ _).1 h i x p hx hp)
  have h2 := (con1_iff (hn p (at_mem hp))).1 ((zip_all _ _ _).1 g i y p hy hp)
  simp only [okM, decide_eq_true_eq]
  omega
theorem meet_con (a b : List (Int × Int)) (m : List Int) (hb : b.length = a.length) (hn : ∀ p ∈ m, Num p) (h : (a.zip m).all con1 = true) : (((a.zip b).map meetI).zip m).all con1 = (b.zip m).all con1 := by
  apply Bool.eq_iff_iff.2
  rw [zip_all, zip_all]
  constructor
  · intro k i y p hy hp
    obtain ⟨x, hx⟩ := at_len hb.symm hy
    have hq := hn p (at_mem hp)
    have h1 := (con1_iff hq).1 (k i _ p ((zip_map_at meetI a b i _).2 ⟨x, y, hx, hy, rfl⟩) hp)
    simp only [meetI] at h1
    exact (con1_iff hq).2 (by omega)
  · intro k i z p hz hp
    obtain ⟨x, y, hx, hy, rfl⟩ := (zip_map_at _ _ _ _ _).1 hz
    have hq := hn p (at_mem hp)
    have h1 := (con1_iff hq).1 (k i y p hy hp)
    have h2 := (con1_iff hq).1 ((zip_all _ _ _).1 h i x p hx hp)
    refine (con1_iff hq).2 ?_
    simp only [meetI]
    omega
theorem meet_comm (a b : List (Int × Int)) : (b.zip a).map meetI = (a.zip b).map meetI := map_zip_comm meetI meetI_comm a b
theorem okm_comm (a b : List (Int × Int)) : (b.zip a).all okM = (a.zip b).all okM := all_zip_comm okM okM_comm a b

/-! Inflation. -/
theorem inflI_vb (d : Int) (p : Int × Int) (h : VB p) (hd : 0 ≤ d) : VB (inflI d p) := by
  have := h.dat
  unfold inflI
  split
  · exact h
  · exact mk_vi (by omega)
theorem infl_vb (d : Int) (a : List (Int × Int)) (ha : ∀ p ∈ a, VB p) (hd : 0 ≤ d) : ∀ p ∈ a.map (inflI d), VB p := by
  intro p hp
  obtain ⟨x, hx, rfl⟩ := List.mem_map.1 hp
  exact inflI_vb d x (ha x hx) hd
theorem infl_sup (d : Int) (a : List (Int × Int)) (ha : ∀ p ∈ a, VB p) (hd : 0 ≤ d) : (a.zip (a.map (inflI d))).all sub1 = true := by
  refine (zip_all _ _ _).2 fun i x y hx hy => ?_
  obtain ⟨x', hx', rfl⟩ := (map_at _ _ _ _).1 hy
  obtain rfl : x' = x := by rw [hx'] at hx; exact Option.some.inj hx
  have h := (ha x' (at_mem hx)).dat
  simp only [sub1, Bool.and_eq_true, decide_eq_true_eq]
  by_cases he : Ent x'.1 x'.2
  · rw [show inflI d x' = x' by unfold inflI; rw [if_pos he]]
    omega
  · by_cases hk : Num (x'.1 - d) ∧ Num (x'.2 + d)
    · simp only [inflI, if_neg he, mkLo, mkHi, if_pos hk]
      omega
    · simp only [inflI, if_neg he, mkLo, mkHi, if_neg hk]
      omega
theorem infl_zero (a : List (Int × Int)) (ha : ∀ p ∈ a, VB p) : a.map (inflI 0) = a := by
  conv => rhs; rw [← List.map_id a]
  refine List.map_congr_left fun p hp => ?_
  have h := ha p hp
  unfold VB at h
  unfold inflI
  split
  · rfl
  · rename_i he
    have := mk_self h he
    rw [Int.sub_zero, Int.add_zero, this.1, this.2]
    rfl
theorem infl_add (m n : Int) (a : List (Int × Int)) (ha : ∀ p ∈ a, VB p) (hm : 0 ≤ m) (hn : 0 ≤ n) : (a.map (inflI m)).map (inflI n) = a.map (inflI (m + n)) := by
  rw [List.map_map]
  refine List.map_congr_left fun p hp => ?_
  have h := (ha p hp).dat
  show inflI n (inflI m p) = inflI (m + n) p
  obtain ⟨x, y⟩ := p
  simp only at h
  by_cases he : Ent x y
  · simp only [inflI, if_pos he]
  · by_cases hk : Num (x - m) ∧ Num (y + m)
    · have e1 : inflI m (x, y) = (x - m, y + m) := by simp only [inflI, if_neg he, mkLo, mkHi, if_pos hk]
      have he2 : ¬ Ent (x - m) (y + m) := by unfold Ent Num at *; omega
      rw [e1]
      simp only [inflI, if_neg he, if_neg he2]
      rw [show x - m - n = x - (m + n) by omega, show y + m + n = y + (m + n) by omega]
    · have e1 : inflI m (x, y) = (-2147483648, 2147483648) := by simp only [inflI, if_neg he, mkLo, mkHi, if_neg hk]
      have hk2 : ¬ (Num (x - (m + n)) ∧ Num (y + (m + n))) := by unfold Num at *; omega
      rw [e1]
      simp only [inflI, if_neg he, mkLo, mkHi, if_neg hk2]
      rw [if_pos ⟨rfl, rfl⟩]
theorem unb_no {a : List (Int × Int)} (h : unb a = false) : ∀ p ∈ a, ¬ Ent p.1 p.2 := by
  intro p hp he
  have : unb a = true := List.any_eq_true.2 ⟨p, hp, decide_eq_true he⟩
  rw [h] at this
  cases this
theorem infl_fin {d : Int} {p : Int × Int} (h : ¬ Ent (inflI d p).1 (inflI d p).2) : inflI d p = (p.1 - d, p.2 + d) := by
  unfold inflI at h ⊢
  by_cases he : Ent p.1 p.2
  · rw [if_pos he] at h
    exact absurd he h
  · rw [if_neg he] at h ⊢
    unfold mkLo mkHi at h ⊢
    by_cases hk : Num (p.1 - d) ∧ Num (p.2 + d)
    · rw [if_pos hk, if_pos hk]
    · rw [if_neg hk, if_neg hk] at h
      exact absurd ⟨rfl, rfl⟩ h
theorem infl_meet (d : Int) (a b : List (Int × Int)) (hd : 0 ≤ d) (ha : ∀ p ∈ a, VB p) (hb : ∀ p ∈ b, VB p) (h : unb (a.map (inflI d)) = false) (g : unb (b.map (inflI d)) = false) :
    ((a.map (inflI d)).zip b).all okM = (a.zip (b.map (inflI d))).all okM := by
  have E : ∀ x y : Int × Int, x ∈ a → y ∈ b → (okM (inflI d x, y) = true ↔ okM (x, inflI d y) = true) := fun x y hx hy => by
    rw [infl_fin (unb_no h _ (List.mem_map.2 ⟨x, hx, rfl⟩)), infl_fin (unb_no g _ (List.mem_map.2 ⟨y, hy, rfl⟩))]
    have h1 := (ha x hx).dat
    have h2 := (hb y hy).dat
    simp only [okM, decide_eq_true_eq]
    omega
  apply Bool.eq_iff_iff.2
  rw [zip_all, zip_all]
  constructor
  · intro k i x z hx hz
    obtain ⟨y, hy, rfl⟩ := (map_at _ _ _ _).1 hz
    exact (E x y (at_mem hx) (at_mem hy)).1 (k i _ y ((map_at _ _ _ _).2 ⟨x, hx, rfl⟩) hy)
  · intro k i z y hz hy
    obtain ⟨x, hx, rfl⟩ := (map_at _ _ _ _).1 hz
    exact (E x y (at_mem hx) (at_mem hy)).2 (k i x _ hx ((map_at _ _ _ _).2 ⟨y, hy, rfl⟩))
theorem infl_mono (d : Int) (a b : List (Int × Int)) (hd : 0 ≤ d) (ha : ∀ p ∈ a, VB p) (hb : ∀ p ∈ b, VB p) (h : (a.zip b).all sub1 = true) : ((a.map (inflI d)).zip (b.map (inflI d))).all sub1 = true := by
  refine (zip_all _ _ _).2 fun i u v hu hv => ?_
  obtain ⟨x, hx, rfl⟩ := (map_at _ _ _ _).1 hu
  obtain ⟨y, hy, rfl⟩ := (map_at _ _ _ _).1 hv
  have h1 := (ha x (at_mem hx)).dat
  have h2 := (hb y (at_mem hy)).dat
  have h3 := (zip_all _ _ _).1 h i x y hx hy
  have h4 := (inflI_vb d x (ha x (at_mem hx)) hd).dat
  simp only [sub1, Bool.and_eq_true, decide_eq_true_eq] at h3 ⊢
  have hy' := hb y (at_mem hy)
  by_cases hE : Ent y.1 y.2
  · rw [show inflI d y = y by unfold inflI; rw [if_pos hE]]
    unfold Ent at hE
    omega
  · have hF : ¬ Ent x.1 x.2 := by
      unfold VB VI Ent Num at *
      omega
    by_cases hk : Num (y.1 - d) ∧ Num (y.2 + d)
    · have hl : Num (x.1 - d) ∧ Num (x.2 + d) := by
        unfold Num at *
        omega
      simp only [inflI, if_neg hE, if_neg hF, mkLo, mkHi, if_pos hk, if_pos hl]
      omega
    · rw [show inflI d y = (-2147483648, 2147483648) by simp only [inflI, if_neg hE, mkLo, mkHi, if_neg hk]]
      simp only
      omega

/-! Distances. -/
theorem vi_neg' {a b : Int} (h : VI a b) : VI (-b) (-a) := by
  unfold VI Ent Num at *
  omega
theorem subI_comm (p q : Int × Int) : subI q p = (-(subI p q).2, -(subI p q).1) := by
  unfold subI addLo addHi
  by_cases h : Ent p.1 p.2 ∨ Ent (-q.2) (-q.1)
  · have h' : Ent q.1 q.2 ∨ Ent (-p.2) (-p.1) := by
      rcases h with h | h
      · exact .inr ((ent_neg _ _).2 h)
      · exact .inl ((ent_neg _ _).1 h)
    simp only [if_pos h, if_pos h']
    rfl
  · have h' : ¬ (Ent q.1 q.2 ∨ Ent (-p.2) (-p.1)) := by
      rintro (k | k)
      · exact h (.inr ((ent_neg _ _).2 k))
      · exact h (.inl ((ent_neg _ _).1 k))
    simp only [if_neg h, if_neg h']
    rw [show q.1 + -p.2 = -(p.2 + -q.1) by omega, show q.2 + -p.1 = -(p.1 + -q.2) by omega, (mk_neg _ _).1, (mk_neg _ _).2]
theorem sqsub_comm (p q : Int × Int) : sqI (subI q p) = sqI (subI p q) := by
  rw [subI_comm]
  unfold sqI
  simp only
  rw [(sq_neg2 _ _).1, (sq_neg2 _ _).2]
theorem fold_comm : ∀ (a b : List (Int × Int)) (s : Int × Int), (b.zip a).foldl step1 s = (a.zip b).foldl step1 s
  | [], [], _ => rfl
  | [], _ :: _, _ => rfl
  | _ :: _, [], _ => rfl
  | x :: a, y :: b, s => by
    rw [List.zip_cons_cons, List.zip_cons_cons, List.foldl_cons, List.foldl_cons, fold_comm a b]
    simp only [step1]
    rw [sqsub_comm]
theorem sdist_comm (a b : List (Int × Int)) : sdist (b.zip a) = sdist (a.zip b) := fold_comm a b _
theorem sq1_zero {a b : Int} (h : a ≤ 0) (g : 0 ≤ b) : sqLo a b ≤ 0 := by
  unfold sqLo
  split
  · decide
  · rw [show sq1 a b = 0 by unfold sq1; rw [if_pos ⟨h, g⟩], show dn 0 65536 = 0 by decide]
    unfold mkLo
    split <;> omega
theorem add_low {a b c d : Int} (h : a ≤ 0) (g : c ≤ 0) : addLo a b c d ≤ 0 := by
  unfold addLo mkLo
  split
  · decide
  · split <;> omega
theorem add_high {a b c d : Int} (h : 0 ≤ b) (g : 0 ≤ d) : 0 ≤ addHi a b c d := by
  unfold addHi mkHi
  split
  · decide
  · split <;> omega
theorem fold_low : ∀ (l : List ((Int × Int) × (Int × Int))) (s : Int × Int), l.all okM = true → (∀ z ∈ l, VB z.1 ∧ VB z.2) → s.1 ≤ 0 → (l.foldl step1 s).1 ≤ 0
  | [], _, _, _, h => h
  | z :: l, s, h, hv, hs => by
    rw [List.all_cons, Bool.and_eq_true] at h
    rw [List.foldl_cons]
    refine fold_low l _ h.2 (fun z hz => hv z (by simp [hz])) ?_
    have h1 := h.1
    have h2 := (hv z (by simp)).1.dat
    have h3 := (hv z (by simp)).2.dat
    simp only [okM, decide_eq_true_eq] at h1
    refine add_low hs (sq1_zero ?_ ?_)
    · simp only [subI, addLo, mkLo]
      split
      · decide
      · split <;> omega
    · simp only [subI, addHi, mkHi]
      split
      · decide
      · split <;> omega
theorem sdist_low (a b : List (Int × Int)) (ha : ∀ p ∈ a, VB p) (hb : ∀ p ∈ b, VB p) (h : (a.zip b).all okM = true) : (sdist (a.zip b)).1 ≤ 0 := fold_low _ _ h (vb_zip a b ha hb) (by decide)
theorem okm_self (a : List (Int × Int)) (ha : ∀ p ∈ a, VB p) : (a.zip a).all okM = true := by
  refine (zip_all _ _ _).2 fun i x y hx hy => ?_
  obtain rfl : x = y := by rw [hx] at hy; exact Option.some.inj hy
  have := (ha x (at_mem hx)).dat
  simp only [okM, decide_eq_true_eq]
  omega
theorem up_nn {n : Int} (h : 0 ≤ n) : 0 ≤ up n 65536 := by
  have := (up_mul n (d := 65536) (by decide)).1
  omega
theorem sep_low {d : Int} {s : Int × Int} (h : s.1 ≤ 0) : sepI d s = false := by
  have := up_nn (sq_nonneg d)
  unfold sepI
  rw [show decide (up (d * d) 65536 < s.1) = false from decide_eq_false (by omega), Bool.and_false]
theorem sep_iff {d : Int} {s : Int × Int} : sepI d s = true ↔ ¬ Ent s.1 s.2 ∧ up (d * d) 65536 < s.1 := by
  unfold sepI
  simp only [Bool.and_eq_true, Bool.not_eq_true', decide_eq_false_iff_not, decide_eq_true_eq]
theorem sep_mono {m n : Int} {s : Int × Int} (h0 : 0 ≤ n) (h : n ≤ m) (g : sepI m s = true) : sepI n s = true := by
  rw [sep_iff] at *
  have := up_mono (d := 65536) (by decide) (sq_le h0 h)
  exact ⟨g.1, by omega⟩
theorem fold_iso : ∀ (a b c d : List (Int × Int)) (s t : Int × Int), c.length = a.length → b.length = a.length → d.length = a.length → (∀ p ∈ a, VB p) → (∀ p ∈ b, VB p) → (∀ p ∈ c, VB p) → (∀ p ∈ d, VB p) →
    (a.zip c).all sub1 = true → (b.zip d).all sub1 = true → VB s → VB t → Sb s.1 s.2 t.1 t.2 → Sb ((a.zip b).foldl step1 s).1 ((a.zip b).foldl step1 s).2 ((c.zip d).foldl step1 t).1 ((c.zip d).foldl step1 t).2
  | [], _, [], _, _, _, _, _, _, _, _, _, _, _, _, _, _, h => by simpa using h
  | [], _, _ :: _, _, _, _, h, _, _, _, _, _, _, _, _, _, _, _ => by simp at h
  | _ :: _, _, [], _, _, _, h, _, _, _, _, _, _, _, _, _, _, _ => by simp at h
  | _ :: _, [], _, _, _, _, _, h, _, _, _, _, _, _, _, _, _, _ => by simp at h
  | _ :: _, _, _, [], _, _, _, _, h, _, _, _, _, _, _, _, _, _ => by simp at h
  | x :: a, y :: b, z :: c, u :: d, s, t, l1, l2, l3, va, vb, vc, vd, h, g, vs, vt, hs => by
    rw [List.zip_cons_cons, List.all_cons, Bool.and_eq_true] at h g
    rw [List.zip_cons_cons, List.zip_cons_cons, List.foldl_cons, List.foldl_cons]
    have vx : VB x := va x (by simp)
    have vy : VB y := vb y (by simp)
    have vz : VB z := vc z (by simp)
    have vu : VB u := vd u (by simp)
    have h1 := h.1
    have g1 := g.1
    simp only [sub1, Bool.and_eq_true, decide_eq_true_eq] at h1 g1
    have e1 : Sb (subI x y).1 (subI x y).2 (subI z u).1 (subI z u).2 := add_iso vx (vi_neg' vy) vz (vi_neg' vu) h1 (neg_iso g1)
    have e2 : Sb (sqI (subI x y)).1 (sqI (subI x y)).2 (sqI (subI z u)).1 (sqI (subI z u)).2 := sq_iso (sub_vb vx vy) (sub_vb vz vu) e1
    have e3 : Sb (step1 s (x, y)).1 (step1 s (x, y)).2 (step1 t (z, u)).1 (step1 t (z, u)).2 := add_iso vs (sq_vb _) vt (sq_vb _) hs e2
    exact fold_iso a b c d _ _ (by simpa using l1) (by simpa using l2) (by simpa using l3) (fun p hp => va p (by simp [hp])) (fun p hp => vb p (by simp [hp])) (fun p hp => vc p (by simp [hp])) (fun p hp => vd p (by simp [hp])) h.2 g.2 (add_vb vs (sq_vb _)) (add_vb vt (sq_vb _)) e3
theorem pt_vb (m : List Int) : ∀ p ∈ m.map ptI, VB p := by
  intro p hp
  obtain ⟨x, _, rfl⟩ := List.mem_map.1 hp
  exact mk_vi (Int.le_refl x)
theorem pt_num {x : Int} (h : Num x) : ptI x = (x, x) := by
  unfold ptI mkLo mkHi
  rw [if_pos ⟨h, h⟩, if_pos ⟨h, h⟩]
theorem pt_in (a : List (Int × Int)) (m : List Int) (hn : ∀ p ∈ m, Num p) (h : (a.zip m).all con1 = true) : ((m.map ptI).zip a).all sub1 = true := by
  refine (zip_all _ _ _).2 fun i z x hz hx => ?_
  obtain ⟨p, hp, rfl⟩ := (map_at _ _ _ _).1 hz
  have hq := hn p (at_mem hp)
  have h1 := (con1_iff hq).1 ((zip_all _ _ _).1 h i x p hx hp)
  rw [pt_num hq]
  simp only [sub1, Bool.and_eq_true, decide_eq_true_eq]
  omega
theorem in_pt (a : List (Int × Int)) (m : List Int) (hn : ∀ p ∈ m, Num p) (h : ((m.map ptI).zip a).all sub1 = true) : (a.zip m).all con1 = true := by
  refine (zip_all _ _ _).2 fun i x p hx hp => ?_
  have hq := hn p (at_mem hp)
  have h1 := (zip_all _ _ _).1 h i _ x ((map_at _ _ _ _).2 ⟨p, hp, rfl⟩) hx
  rw [pt_num hq] at h1
  simp only [sub1, Bool.and_eq_true, decide_eq_true_eq] at h1
  exact (con1_iff hq).2 (by omega)
theorem sep_points (d : Int) (a b : List (Int × Int)) (p q : List Int) (hb : b.length = a.length) (hp : p.length = a.length) (hq : q.length = a.length) (va : ∀ x ∈ a, VB x) (vb : ∀ x ∈ b, VB x) (np : ∀ x ∈ p, Num x) (nq : ∀ x ∈ q, Num x)
    (cp : (a.zip p).all con1 = true) (cq : (b.zip q).all con1 = true) (h : sepI d (sdist (a.zip b)) = true) : sepI d (sdist ((p.map ptI).zip (q.map ptI))) = true := by
  have i := fold_iso (p.map ptI) (q.map ptI) a b (0, 0) (0, 0) (by simp [hp]) (by simp [hp, hq]) (by simp [hp, hb]) (pt_vb p) (pt_vb q) va vb (pt_in a p np cp) (pt_in b q nq cq) vb_zero vb_zero ⟨by omega, by omega⟩
  rw [sep_iff] at *
  refine ⟨fun he => h.1 (ent_up (sdist_vb _) (sdist_vb _) i he), ?_⟩
  have := i.1
  unfold sdist at *
  omega

/-! Intersect, by whether the boxes meet. -/
theorem meet_t (va vb : Value) (la lb h : List (Int × Int)) (w : World) (hva : Bx w va la) (hvb : Bx w vb lb) (hlen : lb.length = la.length) (hv : ∀ z ∈ la.zip lb, VB z.1 ∧ VB z.2) (hsm : la.length ≤ 1000) (ho : (la.zip lb).all okM = true) (hh : (la.zip lb).map meetI = h) :
    Calls Try.prog 24 #[va, vb] w fun e W' => ∃ v, e = .returned (.tuple #[v, .bool true]) ∧ Bx W' v h ∧ Below w.heap.size w W' :=
  (box_meet va vb la lb w hva hvb hlen hv hsm).mono fun e W' ⟨v, he, h1, _, hB⟩ => ⟨v, by rw [he, ho], hh ▸ h1 ho, hB⟩
theorem meet_f (va vb : Value) (la lb : List (Int × Int)) (w : World) (hva : Bx w va la) (hvb : Bx w vb lb) (hlen : lb.length = la.length) (hv : ∀ z ∈ la.zip lb, VB z.1 ∧ VB z.2) (hsm : la.length ≤ 1000) (ho : (la.zip lb).all okM = false) :
    Calls Try.prog 24 #[va, vb] w fun e W' => e = .returned (.tuple #[.slice none 0 0, .bool false]) ∧ Below w.heap.size w W' :=
  (box_meet va vb la lb w hva hvb hlen hv hsm).mono fun e W' ⟨v, he, _, h2, hB⟩ => ⟨by rw [he, ho, h2 ho], hB⟩
end Go.Proofs.Ytpepgheocemjdaa
