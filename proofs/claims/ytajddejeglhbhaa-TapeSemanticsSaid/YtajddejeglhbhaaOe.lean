/-
  The values of expressions as trees, and what compiling and optimizing leave of them.
-/
import Derived.Test.YtajddejeglhbhaaUC
namespace Go.Proofs.Ytajddejeglhbhaa
open Go.ChangeShapes Go.WideShapes Go.ChangeAt Go.RowKit
set_option linter.unusedVariables false
set_option linter.unusedSimpArgs false
/-- The value of an expression. -/
def evT (X : List (Int × Int)) (t : Int × Int) : Ex → Int × Int
  | .e0 x => if x.op = 1 then (x.lo, x.hi) else if x.op = 2 then X.getD x.n.toNat (0, 0) else t
  | .e1 x a => opI x.op (evT X t a) (evT X t a)
  | .e2 x a b => opI x.op (evT X t a) (evT X t b)
theorem evT_one (X : List (Int × Int)) (t : Int × Int) (x : Nd) (a : Ex) : evT X t (.e1 x a) = opI x.op (evT X t a) (evT X t a) := by rw [evT]
theorem evT_two (X : List (Int × Int)) (t : Int × Int) (x : Nd) (a b : Ex) : evT X t (.e2 x a b) = opI x.op (evT X t a) (evT X t b) := by rw [evT]
theorem opI_six (p q : Int × Int) : opI 6 p q = rtI p := by
  unfold opI
  rw [if_neg (by decide), if_neg (by decide), if_pos rfl]
theorem opI_un {op : Int} (h : op = 4 ∨ op = 5 ∨ op = 6) (p q q' : Int × Int) : opI op p q = opI op p q' := by
  rcases h with rfl | rfl | rfl <;> rfl
theorem evL_grow (X : List (Int × Int)) (t : Int × Int) (L S : List Is) : ∃ r, evL X t (L ++ S) = evL X t L ++ r := by
  have key : ∀ (S : List Is) (v : List (Int × Int)), ∃ r, S.foldl (fun vals x => vals ++ [evI X t vals x]) v = v ++ r := by
    intro S
    induction S with
    | nil => intro v; exact ⟨[], by simp⟩
    | cons x S ih =>
      intro v
      obtain ⟨r, hr⟩ := ih (v ++ [evI X t v x])
      exact ⟨evI X t v x :: r, by rw [List.foldl_cons, hr]; simp⟩
  unfold evL
  rw [List.foldl_append]
  exact key S _
theorem evL_pre (X : List (Int × Int)) (t : Int × Int) (T : List Is) (k i : Nat) (h : i < k) (hk : k ≤ T.length) : (evL X t (T.take k)).getD i (0, 0) = (evL X t T).getD i (0, 0) := by
  obtain ⟨r, hr⟩ := evL_grow X t (T.take k) (T.drop k)
  rw [List.take_append_drop] at hr
  rw [hr, List.getD_eq_getElem?_getD, List.getD_eq_getElem?_getD, List.getElem?_append_left (by rw [evL_len, List.length_take]; omega)]
theorem evL_at {X : List (Int × Int)} {t : Int × Int} {T : List Is} {k : Nat} {x : Is} (h : T[k]? = some x) : (evL X t T).getD k (0, 0) = evI X t (evL X t (T.take k)) x := by
  have hk : k < T.length := (List.getElem?_eq_some_iff.1 h).1
  have := evL_pre X t T (k + 1) k (by omega) (by omega)
  rw [← this, evL_snoc h, List.getD_eq_getElem?_getD, List.getElem?_append_right (by rw [evL_len, List.length_take]; omega), evL_len, List.length_take, show k - min k T.length = 0 by omega]
  rfl
theorem ar0_op {N : Int} {x : Nd} (h0 : arI x.op = 0) (h : vnB N x = true) : x.op = 1 ∨ x.op = 2 ∨ x.op = 3 := by
  unfold vnB at h
  by_cases h1 : x.op = 1
  · exact .inl h1
  rw [if_neg h1] at h
  by_cases h2 : x.op = 2
  · exact .inr (.inl h2)
  rw [if_neg h2] at h
  by_cases h3 : 3 ≤ x.op ∧ x.op ≤ 10
  · refine .inr (.inr ?_)
    unfold arI at h0
    split at h0
    · omega
    split at h0
    · omega
    omega
  · rw [if_neg h3] at h
    cases h
theorem rep_ev {X : List (Int × Int)} {t : Int × Int} {N : Int} {T : List Is} (hv : VL N T) : ∀ {e : Ex} {k : Nat}, EV N e → Rep e T k → (evL X t T).getD k (0, 0) = evT X t e
  | .e0 x, k, he, hr => by
    have hr : T[k]? = some ⟨x.op, x.n, 0, x.lo, x.hi⟩ := hr
    rw [evL_at hr]
    unfold evI evT
    dsimp only
    rcases ar0_op he.1 he.2 with h | h | h
    · simp [h]
    · simp [h]
    · simp [h]
  | .e1 x a, k, he, hr => by
    obtain ⟨i, ha, hr⟩ := hr
    have hk : k < T.length := (List.getElem?_eq_some_iff.1 hr).1
    have hvi := vin_cases (hv k _ hr)
    dsimp only at hvi
    have hop := ar_one he.1.1
    have hi : i < k := by omega
    have ih := rep_ev hv he.2 ha (X := X) (t := t)
    rw [evL_at hr]
    unfold evI evT
    dsimp only
    rw [if_neg (by omega), if_neg (by omega), if_neg (by omega), show ((i : Nat) : Int).toNat = i from rfl, evL_pre X t T k i hi (by omega), ih]
    exact opI_un hop _ _ _
  | .e2 x a b, k, he, hr => by
    obtain ⟨i, j, ha, hb, hr⟩ := hr
    have hk : k < T.length := (List.getElem?_eq_some_iff.1 hr).1
    have hvi := vin_cases (hv k _ hr)
    dsimp only at hvi
    have hop := ar_two he.1.1
    have iha := rep_ev hv he.2.1 ha (X := X) (t := t)
    have ihb := rep_ev hv he.2.2 hb (X := X) (t := t)
    rw [evL_at hr]
    unfold evI evT
    dsimp only
    rw [if_neg (by omega), if_neg (by omega), if_neg (by omega), show ((i : Nat) : Int).toNat = i from rfl, show ((j : Nat) : Int).toNat = j from rfl, evL_pre X t T k i (by omega) (by omega), evL_pre X t T k j (by omega) (by omega), iha, ihb]
theorem comp_val {X : List (Int × Int)} {t : Int × Int} {N : Int} {ts : List Ex} (ht : ∀ e ∈ ts, EV N e) : outV (evL X t (compT ts []).1) (compT ts []).2 = ts.map (evT X t) := by
  have hv : VL N (compT ts []).1 := compT_vl ht (fun k x hx => by simp at hx)
  refine List.ext_getElem? fun i => ?_
  unfold outV
  rw [List.getElem?_map, List.getElem?_map]
  cases e : ts[i]? with
  | none =>
    have : (compT ts []).2[i]? = none := by
      rw [List.getElem?_eq_none_iff, comp_len]
      exact List.getElem?_eq_none_iff.1 e
    rw [this]
    rfl
  | some x =>
    obtain ⟨k, h1, h2⟩ := comp_rep ts [] i x e
    rw [h1]
    exact congrArg some (rep_ev hv (ht x (List.mem_of_getElem? e)) h2)
theorem opt_val {X : List (Int × Int)} {t : Int × Int} {N : Int} {L : List Is} {out : List Int} (hv : VL N L) (ho : ∀ y ∈ out, 0 ≤ y ∧ y < L.length) : outV (evL X t (optL L out).1) (optL L out).2 = outV (evL X t L) out := by
  unfold optL
  rw [comp_val (opt_ev hv ho), List.map_map]
  unfold outV
  refine List.map_congr_left fun y hy => ?_
  have := ho y hy
  obtain ⟨i, rfl⟩ : ∃ i : Nat, y = i := ⟨y.toNat, by omega⟩
  obtain ⟨h1, h2, _⟩ := tr_all hv L.length i (by omega) (by omega)
  exact (rep_ev hv h2 h1).symm
theorem evT_vi {X : List (Int × Int)} {t : Int × Int} {N : Int} (hX : ∀ p ∈ X, VI p.1 p.2) (ht : VI t.1 t.2) : ∀ {e : Ex}, EV N e → VI (evT X t e).1 (evT X t e).2
  | .e0 x, he => by
    unfold evT
    split
    · next h =>
      have := he.2
      unfold vnB at this
      rw [if_pos h] at this
      simp only [Bool.and_eq_true, decide_eq_true_eq] at this
      exact this.2
    split
    · rw [List.getD_eq_getElem?_getD]
      cases e : X[x.n.toNat]? with
      | none => exact .inr (by decide)
      | some p => exact hX p (List.mem_of_getElem? e)
    · exact ht
  | .e1 x a, he => opI_vi _ (evT_vi hX ht he.2) (evT_vi hX ht he.2)
  | .e2 x a b, he => opI_vi _ (evT_vi hX ht he.2.1) (evT_vi hX ht he.2.2)
end Go.Proofs.Ytajddejeglhbhaa
