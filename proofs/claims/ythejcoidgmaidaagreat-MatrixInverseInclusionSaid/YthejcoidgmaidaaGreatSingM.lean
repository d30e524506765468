/-
  What the law on singular matrices needs.
-/
import Derived.Test.YthejcoidgmaidaaGreatDiag
import Derived.Test.YthejcoidgmaidaaGreatIncMath
import Derived.Test.YthejcoidgmaidaaGreatK4
namespace Go.Proofs.YthejcoidgmaidaaGreat
open Go.ChangeShapes Go.WideShapes Go.ChangeAt Go.RowKit
set_option linter.unusedVariables false
set_option linter.unusedSimpArgs false
set_option maxRecDepth 100000

attribute [local irreducible] Calls
theorem own_rowc {B : Nat} {w : World} {O n c' : Nat} {us : List Value} {M : List (List (Int × Int))} (h : OwnM B w (.slice (some ⟨O, 0, none⟩) n c') us M) {i : Nat} {r : List (Int × Int)} (hr : M[i]? = some r) : ∃ R c, us[i]? = some (Value.slice (some ⟨R, 0, none⟩) r.length c) ∧ B ≤ O ∧ O < w.heap.size ∧ B ≤ R ∧ R < w.heap.size ∧ O ≠ R ∧
    w.cell? ⟨O, i, none⟩ = some (Value.slice (some ⟨R, 0, none⟩) r.length c) ∧ w.ownsRow B 52 2 (.slice (some ⟨R, 0, none⟩) r.length c) r.length (cz r) := by
  obtain ⟨O', R, c'', c, hv, hu, h1, h2, h3, h4, h5, h6, h7⟩ := h.at hr
  simp only [Value.slice.injEq, Option.some.injEq, Addr.mk.injEq, and_true] at hv
  obtain ⟨e1, e2⟩ := hv
  rw [← e1] at h1 h2 h5 h6
  exact ⟨R, c, hu, h1, h2, h3, h4, h5, h6, h7⟩
theorem own_cut {B n : Nat} {w : World} {v : Value} {us : List Value} {M : List (List (Int × Int))} (h : OwnM B w v us M) (hn : M.length = n) (h1 : 1 ≤ n) : ∃ O c', v = .slice (some ⟨O, 0, none⟩) n c' := by
  obtain ⟨O, R, c', c, hv, _⟩ := h.at (List.getElem?_eq_getElem (show 0 < M.length by omega))
  rw [hn] at hv
  exact ⟨O, c', hv⟩
/-- A number matrix stays where a block older than its own is written. -/
theorem OwnN.off {B R R2 c k : Nat} {w : World} {v z : Value} {us : List Value} {P : List (List Int)} {t : TypeId} {s n : Nat} {xs : List Value} (h : OwnN B w v us P) (hR : R < B) (hrow : w.ownsRow R2 t s (.slice (some ⟨R, 0, none⟩) n c) n xs) : OwnN B (w.setCell ⟨R, k, none⟩ z) v us P := by
  have hg := (hrow.stored k z).2
  have no : ∀ {t' : TypeId} {s' : Nat} {n' : Nat} {u : Value} {ys : List Value}, w.ownsRow B t' s' u n' ys → (w.setCell ⟨R, k, none⟩ z).ownsRow B t' s' u n' ys := fun {t' s' n' u ys} hu => by
    refine hu.kept hg ?_
    rcases hu.2 with ⟨e, _⟩ | ⟨g, cap, cur, e, hg2, _⟩
    · exact .inl (by rw [e]; rfl)
    · right
      rw [e]
      simp only [Value.ownBlock, ne_eq, Option.some.injEq]
      omega
  exact ⟨no h.out, fun i r hr => by
    obtain ⟨R', c', h1, h2⟩ := h.row i r hr
    exact ⟨R', c', h1, no h2⟩⟩
theorem mat_set {α : Type} {F : Nat → Nat → α} {k i j : Nat} (x : α) (hi : i < k) (hj : j < k) : (matOf F k).set i ((rowOf F k i).set j x) = matOf (fun a b => if a = i ∧ b = j then x else F a b) k := by
  apply List.ext_getElem (by simp [matOf])
  intro a h1 h2
  have ha : a < k := by simp [matOf] at h2; exact h2
  by_cases e : a = i
  · subst e
    rw [List.getElem_set_self]
    apply List.ext_getElem (by simp [matOf, rowOf])
    intro b g1 g2
    by_cases f : b = j
    · subst f
      rw [List.getElem_set_self]
      simp [matOf, rowOf]
    · rw [List.getElem_set_ne (fun q => f q.symm)]
      simp [matOf, rowOf, f]
  · rw [List.getElem_set_ne (fun q => e q.symm)]
    simp only [matOf, List.getElem_map, List.getElem_range, rowOf]
    apply List.map_congr_left
    intro b _
    rw [if_neg (fun q => e q.1)]
theorem mat_el {k : Nat} {A : List (List (Int × Int))} (h : A.length = k ∧ ∀ r ∈ A, r.length = k) : matOf (elI A) k = A := by
  refine sq_ext ⟨by simp [matOf], fun r hr => ?_⟩ h fun i j hi hj => el_mat hi hj
  obtain ⟨i, _, rfl⟩ := mem_matOf hr
  simp [rowOf]
theorem mat_row {α : Type} {F : Nat → Nat → α} {k i : Nat} (hi : i < k) : (matOf F k)[i]? = some (rowOf F k i) := by
  unfold matOf; rw [List.getElem?_map, List.getElem?_range hi, Option.map_some]
theorem row_at {α : Type} {F : Nat → Nat → α} {k i j : Nat} (hj : j < k) : (rowOf F k i)[j]? = some (F i j) := by
  unfold rowOf; rw [List.getElem?_map, List.getElem?_range hj, Option.map_some]
theorem qm_mat {Pr : Int × Int → Prop} {F : Nat → Nat → Int × Int} {k : Nat} (h : ∀ i j, i < k → j < k → Pr (F i j)) : QM Pr k (matOf F k) := by
  refine ⟨by simp [matOf], fun r hr => ?_⟩
  obtain ⟨i, hi, rfl⟩ := mem_matOf hr
  refine ⟨by simp [rowOf], fun p hp => ?_⟩
  unfold rowOf at hp
  rw [List.mem_map] at hp
  obtain ⟨j, hj, rfl⟩ := hp
  exact h i j hi (List.mem_range.1 hj)
def elP (P : List (List Int)) (i j : Nat) : Int := ((P[i]?).bind fun r => r[j]?).getD 0
theorem elP_in {k i j : Nat} {A : List (List (Int × Int))} {P : List (List Int)} (hA : QM Sm k A) (hP : P.length = k) (hS : SampM k A P) (hi : i < k) (hj : j < k) : (elI A i j).1 ≤ elP P i j ∧ elP P i j ≤ (elI A i j).2 := by
  have ha : i < A.length := by rw [hA.1]; exact hi
  have hp : i < P.length := by omega
  have hr := List.getElem?_eq_getElem ha
  have hm := List.getElem?_eq_getElem hp
  obtain ⟨hml, hmi⟩ := hS i _ _ hr hm
  have hrl := (hA.2 A[i] (List.getElem_mem ha)).1
  have hbj := List.getElem?_eq_getElem (show j < A[i].length by rw [hrl]; exact hj)
  have hmj := List.getElem?_eq_getElem (show j < P[i].length by rw [hml]; exact hj)
  have := hmi j _ _ hmj hbj
  rw [el_some hr hbj]
  unfold elP
  rw [hm, Option.bind_some, hmj, Option.getD_some]
  exact this
theorem elP_bd {k : Nat} {A : List (List (Int × Int))} {P : List (List Int)} (hA : QM Sm k A) (hP : P.length = k) (hS : SampM k A P) (i j : Nat) : -16777216 < elP P i j ∧ elP P i j < 16777216 := by
  by_cases hi : i < k
  · by_cases hj : j < k
    · have h := elP_in hA hP hS hi hj
      have s := el_sm hA hi hj
      have s1 := s.1
      have s2 := s.2.2
      omega
    · have hp : i < P.length := by omega
      have ha : i < A.length := by rw [hA.1]; exact hi
      have hml := (hS i _ _ (List.getElem?_eq_getElem ha) (List.getElem?_eq_getElem hp)).1
      unfold elP
      rw [List.getElem?_eq_getElem hp, Option.bind_some, List.getElem?_eq_none (by omega)]
      show -16777216 < (0 : Int) ∧ (0 : Int) < 16777216
      decide
  · unfold elP
    rw [List.getElem?_eq_none (by omega)]
    show -16777216 < (0 : Int) ∧ (0 : Int) < 16777216
    decide
theorem samp_at {k i j : Nat} {A : List (List (Int × Int))} {P : List (List Int)} (hA : QM Sm k A) (hP : P.length = k) (hS : SampM k A P) (hi : i < k) (hj : j < k) : ∃ m, P[i]? = some m ∧ m.length = k ∧ m[j]? = some (elP P i j) := by
  have ha : i < A.length := by rw [hA.1]; exact hi
  have hp : i < P.length := by omega
  have hm := List.getElem?_eq_getElem hp
  have hml := (hS i _ _ (List.getElem?_eq_getElem ha) hm).1
  have hmj := List.getElem?_eq_getElem (show j < P[i].length by rw [hml]; exact hj)
  refine ⟨_, hm, hml, ?_⟩
  rw [hmj]
  unfold elP
  rw [hm, Option.bind_some, hmj, Option.getD_some]
theorem load_i64c {T : TypeId} {w0 : World} {b o : Nat} {x : Int} (hT : ∀ w : World, w.cell? ⟨b, o, none⟩ = some (.int .i64 x) → (Instr.loadAt T (.pointer (some ⟨b, o, none⟩))).run Tryz.prog w = .ok (.int .i64 x) w) (hb : b < w0.heap.size) (h0 : w0.cell? ⟨b, o, none⟩ = some (.int .i64 x)) :
    ∀ g : Grown w0, (Instr.loadAt T (.pointer (some ⟨b, o, none⟩))).run Tryz.prog g.w = .ok (.int .i64 x) g.w := fun g => hT g.w ((g.cell (o := o) hb).trans h0)
def tgt (P : List (List Int)) (i0 k0 j : Nat) : Int := if i0 = k0 then 0 else elP P k0 j
def hlF (A : List (List (Int × Int))) (i0 : Nat) (T : Nat → Int) (c i j : Nat) : Int × Int := if i = i0 ∧ j < c then hullI (elI A i j, (T j, T j)) else elI A i j
theorem hl_next {A : List (List (Int × Int))} {i0 c : Nat} {T : Nat → Int} : (fun a b => if a = i0 ∧ b = c then hullI (elI A i0 c, (T c, T c)) else hlF A i0 T c a b) = hlF A i0 T (c + 1) := by
  funext a b
  unfold hlF
  by_cases e : a = i0
  · subst e
    by_cases f : b = c
    · subst f
      rw [if_pos ⟨rfl, rfl⟩, if_pos ⟨rfl, by omega⟩]
    · rw [if_neg (fun q => f q.2)]
      by_cases g : b < c
      · rw [if_pos ⟨rfl, g⟩, if_pos ⟨rfl, by omega⟩]
      · rw [if_neg (fun q => g q.2), if_neg (fun q => by have := q.2; omega)]
  · rw [if_neg (fun q => e q.1), if_neg (fun q => e q.1), if_neg (fun q => e q.1)]
theorem hl_sm {k : Nat} {A : List (List (Int × Int))} {i0 c : Nat} {T : Nat → Int} (hA : QM Sm k A) (hT : ∀ j, -16777216 < T j ∧ T j < 16777216) : ∀ i j, i < k → j < k → Sm (hlF A i0 T c i j) := fun i j hi hj => by
  have s := el_sm hA hi hj
  unfold hlF
  split
  · have t := hT j
    have s1 := s.1
    have s2 := s.2.1
    have s3 := s.2.2
    unfold hullI Sm
    dsimp only
    omega
  · exact s
/-- The hulls contain a matrix with two equal rows or a zero row: no inverse. -/
theorem sing_none {k : Nat} {A : List (List (Int × Int))} {P : List (List Int)} {i0 k0 : Nat} (hA : QM Sm k A) (hP : P.length = k) (hS : SampM k A P) (hi : i0 < k) (hk : k0 < k) : invV (matOf (hlF A i0 (tgt P i0 k0) k) k) k = none := by
  have hT : ∀ j, -16777216 < tgt P i0 k0 j ∧ tgt P i0 k0 j < 16777216 := fun j => by
    unfold tgt
    split
    · decide
    · exact elP_bd hA hP hS k0 j
  have sc : ∀ x : Int, 65536 * ((x : Rat) / 65536) = x := fun x => by grind
  refine inv_none (X := fun i j => if i = i0 then (tgt P i0 k0 j : Rat) / 65536 else (elP P i j : Rat) / 65536) (u := fun i => if i = i0 then 1 else if i = k0 then -1 else 0) (qm_sq (qm_mat (hl_sm hA hT))) (fun i j hi' hj => ?_) ⟨i0, hi, by simp only [if_pos]; grind⟩ (fun j hj => ?_)
  · rw [el_mat hi' hj]
    right
    unfold hlF
    dsimp only
    by_cases e : i = i0
    · subst e
      rw [if_pos ⟨rfl, hj⟩, if_pos rfl, sc]
      unfold hullI
      exact ⟨ic_le (by dsimp only; omega), ic_le (by dsimp only; omega)⟩
    · rw [if_neg (fun q => e q.1), if_neg e, sc]
      have := elP_in hA hP hS hi' hj
      exact ⟨ic_le this.1, ic_le this.2⟩
  · have h1 := sumR_one k (fun i => (if i = i0 then 1 else if i = k0 then -1 else 0) * (if i = i0 then (tgt P i0 k0 j : Rat) / 65536 else (elP P i j : Rat) / 65536)) i0 hi
    try dsimp only at h1
    rw [h1, if_pos rfl, if_pos rfl]
    by_cases e : i0 = k0
    · rw [sumR_zero k (fun i _ => by
        by_cases a : i = i0
        · rw [if_pos a]
        · rw [if_neg a, if_neg a, if_neg (by omega)]; grind)]
      unfold tgt
      rw [if_pos e]
      grind
    · have h2 := sumR_one k (fun i => if i = i0 then 0 else (if i = i0 then 1 else if i = k0 then -1 else 0) * (if i = i0 then (tgt P i0 k0 j : Rat) / 65536 else (elP P i j : Rat) / 65536)) k0 hk
      try dsimp only at h2
      rw [h2, if_neg (fun q => e q.symm), if_neg (fun q => e q.symm), if_pos rfl, if_neg (fun q => e q.symm)]
      rw [sumR_zero k (fun i _ => by
        by_cases b : i = k0
        · rw [if_pos b]
        · by_cases a : i = i0
          · rw [if_neg b, if_pos a]
          · rw [if_neg b, if_neg a, if_neg a, if_neg b]; grind)]
      unfold tgt
      rw [if_neg e]
      grind
def dia (P : List (List Int)) (i : Nat) : Int := max (elP P i i) (-elP P i i) + 4
theorem dia_bd {k : Nat} {A : List (List (Int × Int))} {P : List (List Int)} (hA : QM Sm k A) (hP : P.length = k) (hS : SampM k A P) (i : Nat) : 4 ≤ dia P i ∧ dia P i ≤ 33554432 := by
  have := elP_bd hA hP hS i i
  unfold dia
  omega
def dgC (D : Nat → Int) (c i j : Nat) : Int × Int := if i = j then (if i < c then (D i, D i) else (65536, 65536)) else (0, 0)
theorem dgC_zero (D : Nat → Int) : dgC D 0 = idF := by
  funext i j
  unfold dgC idF
  simp
theorem dgC_next (D : Nat → Int) (c : Nat) : (fun a b => if a = c ∧ b = c then (D c, D c) else dgC D c a b) = dgC D (c + 1) := by
  funext a b
  unfold dgC
  by_cases e : a = b
  · subst e
    rw [if_pos rfl, if_pos rfl]
    by_cases f : a = c
    · subst f
      rw [if_pos ⟨rfl, rfl⟩, if_pos (by omega)]
    · rw [if_neg (fun q => f q.1)]
      by_cases g : a < c
      · rw [if_pos g, if_pos (by omega)]
      · rw [if_neg g, if_neg (by omega)]
  · rw [if_neg e, if_neg e, if_neg (fun q => e (q.1.trans q.2.symm))]
theorem dgC_end (D : Nat → Int) (k : Nat) : matOf (dgC D k) k = matOf (dgF D) k := by
  unfold matOf
  apply List.map_congr_left
  intro i hi
  unfold rowOf
  apply List.map_congr_left
  intro j hj
  have := List.mem_range.1 hi
  unfold dgC dgF
  rw [if_pos this]
theorem point_num {x : Int} (h : Num x) (w : World) :
    Calls Tryz.prog 36 #[.int .i64 x] w fun e w' => e = .returned (.agg #[.int .i64 x, .int .i64 x]) ∧ Below w.heap.size w w' := by
  have := r2point x w
  unfold mkLo mkHi at this
  rw [if_pos ⟨h, h⟩, if_pos ⟨h, h⟩] at this
  exact this
attribute [local go_sem ↓] run_max_two run_min_two run_max_three
end Go.Proofs.YthejcoidgmaidaaGreat
