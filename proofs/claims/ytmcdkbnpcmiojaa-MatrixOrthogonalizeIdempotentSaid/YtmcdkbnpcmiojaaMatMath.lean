/-
  Mathematics of square matrices of intervals: transposition, products, the identity.
-/
import Derived.Test.YtmcdkbnpcmiojaaInv
import Derived.Test.YtmcdkbnpcmiojaaL4A
import Derived.Test.YtmcdkbnpcmiojaaIvMath
namespace Go.Proofs.Ytmcdkbnpcmiojaa
open Go.ChangeShapes Go.WideShapes Go.ChangeAt Go.RowKit
set_option linter.unusedVariables false
set_option linter.unusedSimpArgs false
set_option maxRecDepth 100000

def trM (k : Nat) (X : List (List (Int × Int))) : List (List (Int × Int)) := matOf (trF (0, 0) X) k
def mulT (k : Nat) (X Y : List (List (Int × Int))) : List (List (Int × Int)) := mulM X (trM k Y)
def dotK (k : Nat) (f : Nat → (Int × Int) × (Int × Int)) : Int × Int := dotI ((List.range k).map f)
theorem sq_trM {k : Nat} {X : List (List (Int × Int))} (h : Sq k X) : Sq k (trM k X) := sqm_tr h
theorem sq_mulT {k : Nat} {X Y : List (List (Int × Int))} (h : Sq k X) (g : Sq k Y) : Sq k (mulT k X Y) := sqm_mul h (sqm_tr g)
theorem el_some {X : List (List (Int × Int))} {i j : Nat} {r : List (Int × Int)} {x : Int × Int} (hr : X[i]? = some r) (hx : r[j]? = some x) : elI X i j = x := by
  unfold elI; rw [hr, Option.bind_some, hx, Option.getD_some]
theorem el_mat {F : Nat → Nat → Int × Int} {k i j : Nat} (hi : i < k) (hj : j < k) : elI (matOf F k) i j = F i j := by
  refine el_some (r := rowOf F k i) ?_ ?_
  · unfold matOf; rw [List.getElem?_map, List.getElem?_range hi]; rfl
  · unfold rowOf; rw [List.getElem?_map, List.getElem?_range hj]; rfl
theorem trF_el (X : List (List (Int × Int))) (i j : Nat) : trF (0, 0) X i j = elI X j i := by
  unfold trF elI
  cases X[j]? <;> simp
theorem el_tr {X : List (List (Int × Int))} {k i j : Nat} (hi : i < k) (hj : j < k) : elI (trM k X) i j = elI X j i := by
  unfold trM; rw [el_mat hi hj, trF_el]
theorem sq_ext {k : Nat} {X Y : List (List (Int × Int))} (hX : X.length = k ∧ ∀ r ∈ X, r.length = k) (hY : Y.length = k ∧ ∀ r ∈ Y, r.length = k) (h : ∀ i j, i < k → j < k → elI X i j = elI Y i j) : X = Y := by
  apply List.ext_getElem (by rw [hX.1, hY.1])
  intro i h1 h2
  have l1 := hX.2 X[i] (List.getElem_mem h1)
  have l2 := hY.2 Y[i] (List.getElem_mem h2)
  apply List.ext_getElem (by rw [l1, l2])
  intro j g1 g2
  have e := h i j (by omega) (by omega)
  rw [el_some (List.getElem?_eq_getElem h1) (List.getElem?_eq_getElem g1), el_some (List.getElem?_eq_getElem h2) (List.getElem?_eq_getElem g2)] at e
  exact e
theorem sq_shape {k : Nat} {X : List (List (Int × Int))} (h : Sq k X) : X.length = k ∧ ∀ r ∈ X, r.length = k := ⟨h.1, fun r hr => (h.2 r hr).1⟩
theorem zip_range {α β : Type} {r : List α} {f : Nat → β} {k : Nat} (h : r.length = k) (d : α) : r.zip ((List.range k).map f) = (List.range k).map fun t => ((r[t]?).getD d, f t) := by
  apply List.ext_getElem (by simp [h])
  intro i h1 h2
  have hi : i < r.length := by simp at h1; omega
  simp [List.getElem?_eq_getElem hi]
theorem el_mul {k i j : Nat} {X Y : List (List (Int × Int))} (hX : Sq k X) (hi : i < k) (hj : j < k) : elI (mulT k X Y) i j = dotK k fun t => (elI X i t, elI Y t j) := by
  have hil : i < X.length := by rw [hX.1]; exact hi
  have hr := List.getElem?_eq_getElem hil
  have hrl := (hX.2 X[i] (List.getElem_mem hil)).1
  refine el_some (r := (trM k Y).map fun c => dotI (X[i].zip c)) ?_ ?_
  · unfold mulT mulM; rw [List.getElem?_map, hr]; rfl
  · have e : (trM k Y)[j]? = some (rowOf (trF (0, 0) Y) k j) := by unfold trM matOf; rw [List.getElem?_map, List.getElem?_range hj]; rfl
    rw [List.getElem?_map, e, Option.map_some]
    unfold rowOf dotK
    rw [zip_range hrl (0, 0)]
    congr 2
    apply List.map_congr_left
    intro t _
    rw [trF_el]
    congr 1
    unfold elI
    rw [hr, Option.bind_some]
theorem mulI_comm (p q : Int × Int) : mulI (p, q) = mulI (q, p) := by
  unfold mulI
  rw [(mul_comm2 q.1 q.2 p.1 p.2).1, (mul_comm2 q.1 q.2 p.1 p.2).2]
theorem dot_swap : ∀ (l : List ((Int × Int) × (Int × Int))), dotI (l.map fun z => (z.2, z.1)) = dotI l := by
  have : ∀ (l : List ((Int × Int) × (Int × Int))) (s : Int × Int), (l.map fun z => (z.2, z.1)).foldl dot1 s = l.foldl dot1 s := by
    intro l
    induction l with
    | nil => intro s; rfl
    | cons z l ih =>
      intro s
      rw [List.map_cons, List.foldl_cons, List.foldl_cons, ih]
      unfold dot1
      rw [mulI_comm z.2 z.1]
  exact fun l => this l _
theorem dotK_swap (k : Nat) (f g : Nat → Int × Int) : (dotK k fun t => (f t, g t)) = dotK k fun t => (g t, f t) := by
  unfold dotK
  rw [← dot_swap, List.map_map]
  rfl
theorem dotK_congr {k : Nat} {f g : Nat → (Int × Int) × (Int × Int)} (h : ∀ t, t < k → f t = g t) : dotK k f = dotK k g := by
  unfold dotK
  congr 1
  exact List.map_congr_left fun t ht => h t (List.mem_range.1 ht)
theorem tr_tr {k : Nat} {X : List (List (Int × Int))} (h : Sq k X) : trM k (trM k X) = X :=
  sq_ext (sq_shape (sq_trM (sq_trM h))) (sq_shape h) fun i j hi hj => by rw [el_tr hi hj, el_tr hj hi]
theorem tr_mul {k : Nat} {X Y : List (List (Int × Int))} (hX : Sq k X) (hY : Sq k Y) : trM k (mulT k X Y) = mulT k (trM k Y) (trM k X) :=
  sq_ext (sq_shape (sq_trM (sq_mulT hX hY))) (sq_shape (sq_mulT (sq_trM hY) (sq_trM hX))) fun i j hi hj => by
    rw [el_tr hi hj, el_mul hX hj hi, el_mul (sq_trM hY) hi hj, dotK_swap]
    exact dotK_congr fun t ht => by rw [el_tr hi ht, el_tr ht hj]
theorem sq_id (k : Nat) : Sq k (matOf idF k) := qm_ident k vb_one vb_zero
theorem tr_id (k : Nat) : trM k (matOf idF k) = matOf idF k :=
  sq_ext (sq_shape (sq_trM (sq_id k))) (sq_shape (sq_id k)) fun i j hi hj => by
    rw [el_tr hi hj, el_mat hj hi, el_mat hi hj]
    unfold idF
    by_cases e : i = j
    · rw [if_pos e, if_pos e.symm]
    · rw [if_neg e, if_neg (fun q => e q.symm)]
theorem sm_vb {p : Int × Int} (h : Sm p) : VB p := .inr ⟨⟨by have := h.1; omega, by have := h.2.1; have := h.2.2; omega⟩, ⟨by have := h.1; have := h.2.1; omega, by have := h.2.2; omega⟩, h.2.1⟩
theorem sm_no {p : Int × Int} (h : Sm p) : ¬ Ent p.1 p.2 := by
  intro e
  have := h.1
  have := e.1
  omega
theorem one_mulI {p : Int × Int} (h : VB p) : mulI ((65536, 65536), p) = p := by
  rw [mulI_comm]
  unfold mulI
  exact Prod.ext (mul_one2 h).1 (mul_one2 h).2
theorem zero_mulI {p : Int × Int} (h : ¬ Ent p.1 p.2) : mulI ((0, 0), p) = (0, 0) := by
  have h0 : ¬ (Ent 0 0 ∨ Ent p.1 p.2) := by
    rintro (e | e)
    · have := e.1; omega
    · exact h e
  have m1 : mn4 0 0 p.1 p.2 = 0 := by unfold mn4; simp
  have m2 : mx4 0 0 p.1 p.2 = 0 := by unfold mx4; simp
  unfold mulI mulLo mulHi
  simp only [if_neg h0, m1, m2]
  decide
theorem zero_addI {p : Int × Int} (h : VB p) : addI (0, 0) p = p := by
  unfold addI
  rw [(add_comm2 p.1 p.2 0 0).1, (add_comm2 p.1 p.2 0 0).2, (add_zero2 h).1, (add_zero2 h).2]
theorem addI_zero {p : Int × Int} (h : VB p) : addI p (0, 0) = p := by
  unfold addI
  rw [(add_zero2 h).1, (add_zero2 h).2]
theorem dot_one (i : Nat) (f : Nat → Int × Int) : ∀ m, (∀ t, t < m → Sm (f t)) → (dotK m fun t => (idF i t, f t)) = if i < m then f i else (0, 0)
  | 0, _ => by simp [dotK, dotI]
  | m + 1, hf => by
    have ih := dot_one i f m fun t ht => hf t (by omega)
    unfold dotK at ih ⊢
    rw [List.range_succ, List.map_append, List.map_singleton, dotI_snoc, ih]
    show addI _ (mulI (idF i m, f m)) = _
    unfold idF
    by_cases e : i = m
    · subst e
      rw [if_pos rfl, one_mulI (sm_vb (hf _ (by omega))), if_neg (by omega), if_pos (by omega), zero_addI (sm_vb (hf _ (by omega)))]
    · rw [if_neg e, zero_mulI (sm_no (hf _ (by omega)))]
      by_cases h : i < m
      · rw [if_pos h, if_pos (by omega), addI_zero (sm_vb (hf _ (by omega)))]
      · rw [if_neg h, if_neg (by omega)]
        decide
theorem el_sm {k i j : Nat} {X : List (List (Int × Int))} (h : QM Sm k X) (hi : i < k) (hj : j < k) : Sm (elI X i j) := by
  have hi' : i < X.length := by rw [h.1]; exact hi
  obtain ⟨h3, h4⟩ := h.2 X[i] (List.getElem_mem hi')
  have hj' : j < X[i].length := by rw [h3]; exact hj
  rw [el_some (List.getElem?_eq_getElem hi') (List.getElem?_eq_getElem hj')]
  exact h4 _ (List.getElem_mem _)
theorem qm_sq {k : Nat} {X : List (List (Int × Int))} (h : QM Sm k X) : Sq k X := ⟨h.1, fun r hr => ⟨(h.2 r hr).1, fun p hp => sm_vb ((h.2 r hr).2 p hp)⟩⟩
theorem one_mul {k : Nat} {X : List (List (Int × Int))} (h : QM Sm k X) : mulT k (matOf idF k) X = X :=
  sq_ext (sq_shape (sq_mulT (sq_id k) (qm_sq h))) (sq_shape (qm_sq h)) fun i j hi hj => by
    rw [el_mul (sq_id k) hi hj]
    rw [show (dotK k fun t => (elI (matOf idF k) i t, elI X t j)) = dotK k fun t => (idF i t, elI X t j) from dotK_congr fun t ht => by rw [el_mat hi ht]]
    rw [dot_one i (fun t => elI X t j) k fun t ht => el_sm h ht hj, if_pos hi]
theorem mul_one {k : Nat} {X : List (List (Int × Int))} (h : QM Sm k X) : mulT k X (matOf idF k) = X :=
  sq_ext (sq_shape (sq_mulT (qm_sq h) (sq_id k))) (sq_shape (qm_sq h)) fun i j hi hj => by
    rw [el_mul (qm_sq h) hi hj, dotK_swap]
    rw [show (dotK k fun t => (elI (matOf idF k) t j, elI X i t)) = dotK k fun t => (idF j t, elI X i t) from dotK_congr fun t ht => by
      rw [el_mat ht hj]
      unfold idF
      by_cases e : t = j
      · rw [if_pos e, if_pos e.symm]
      · rw [if_neg e, if_neg (fun q => e q.symm)]]
    rw [dot_one j (fun t => elI X i t) k fun t ht => el_sm h hi ht, if_pos hj]
theorem one_ap {k : Nat} {d : List (Int × Int)} (hl : d.length = k) (h : ∀ p ∈ d, Sm p) : ((matOf idF k).map fun r => dotI (r.zip d)) = d := by
  apply List.ext_getElem (by simp [matOf, hl])
  intro i h1 h2
  have hi : i < k := by omega
  simp only [matOf, List.getElem_map, List.getElem_range]
  have e : (rowOf idF k i).zip d = (List.range k).map fun t => (idF i t, (d[t]?).getD (0, 0)) := by
    apply List.ext_getElem (by simp [rowOf, hl])
    intro t g1 g2
    have ht : t < d.length := by simp [rowOf] at g1; omega
    simp [rowOf, List.getElem?_eq_getElem ht]
  rw [e]
  have := dot_one i (fun t => (d[t]?).getD (0, 0)) k fun t ht => by
    have ht' : t < d.length := by omega
    rw [List.getElem?_eq_getElem ht', Option.getD_some]
    exact h _ (List.getElem_mem ht')
  unfold dotK at this
  rw [this, if_pos hi, List.getElem?_eq_getElem h2, Option.getD_some]
end Go.Proofs.Ytmcdkbnpcmiojaa
