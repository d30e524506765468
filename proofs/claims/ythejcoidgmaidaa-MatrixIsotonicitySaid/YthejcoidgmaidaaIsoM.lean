/-
  What the law of isotonicity of matrices needs: products of larger matrices; matrices whose rows are replaced.
-/
import Derived.Test.YthejcoidgmaidaaMade4
import Derived.Test.YthejcoidgmaidaaR3Q
import Derived.Test.YthejcoidgmaidaaIsoMath
import Derived.Test.YthejcoidgmaidaaK4
namespace Go.Proofs.Ythejcoidgmaidaa
open Go.ChangeShapes Go.WideShapes Go.ChangeAt Go.RowKit
set_option linter.unusedVariables false
set_option linter.unusedSimpArgs false
set_option maxRecDepth 100000

attribute [local irreducible] Calls
def SbP (p q : Int × Int) : Prop := Sb p.1 p.2 q.1 q.2
theorem dot1_iso {s s' : Int × Int} {z z' : (Int × Int) × (Int × Int)} (hs : VB s) (hs' : VB s') (hz : VB z.1 ∧ VB z.2) (hz' : VB z'.1 ∧ VB z'.2) (h : SbP s s') (h1 : SbP z.1 z'.1) (h2 : SbP z.2 z'.2) : SbP (dot1 s z) (dot1 s' z') :=
  add_iso hs (mul_vb z) hs' (mul_vb z') h (mul_iso hz.1 hz.2 hz'.1 hz'.2 h1 h2)
theorem fold_iso : ∀ (l l' : List ((Int × Int) × (Int × Int))) (s s' : Int × Int), VB s → VB s' → SbP s s' → l.length = l'.length → (∀ (i : Nat) z z', l[i]? = some z → l'[i]? = some z' → (VB z.1 ∧ VB z.2) ∧ (VB z'.1 ∧ VB z'.2) ∧ SbP z.1 z'.1 ∧ SbP z.2 z'.2) → SbP (l.foldl dot1 s) (l'.foldl dot1 s')
  | [], [], s, s', _, _, h, _, _ => h
  | [], _ :: _, _, _, _, _, _, hl, _ => by simp at hl
  | _ :: _, [], _, _, _, _, _, hl, _ => by simp at hl
  | z :: l, z' :: l', s, s', v, v', h, hl, hz => by
    obtain ⟨h1, h2, h3, h4⟩ := hz 0 z z' rfl rfl
    have hs := dot1_iso v v' h1 h2 h h3 h4
    rw [List.foldl_cons, List.foldl_cons]
    exact fold_iso l l' _ _ (add_vi v.le (mul_vb z).le) (add_vi v'.le (mul_vb z').le) hs (by simpa using hl) fun i a a' g g' => hz (i + 1) a a' (by simpa using g) (by simpa using g')
/-- Rows, element by element. -/
def SbL (r r' : List (Int × Int)) : Prop := r.length = r'.length ∧ ∀ (i : Nat) p q, r[i]? = some p → r'[i]? = some q → SbP p q
def VL (r : List (Int × Int)) : Prop := ∀ p ∈ r, VB p
theorem dot_iso {r d r' d' : List (Int × Int)} (vr : VL r) (vd : VL d) (vr' : VL r') (vd' : VL d') (hr : SbL r r') (hd : SbL d d') (hl : r.length = d.length) : SbP (dotI (r.zip d)) (dotI (r'.zip d')) := by
  have h1 := hr.1
  have h2 := hd.1
  refine fold_iso _ _ _ _ vb_zero vb_zero ⟨Int.le_refl _, Int.le_refl _⟩ (by simp; omega) fun i z z' hz hz' => ?_
  obtain ⟨a1, a2⟩ := List.getElem?_zip_eq_some.1 hz
  obtain ⟨b1, b2⟩ := List.getElem?_zip_eq_some.1 hz'
  exact ⟨⟨vr _ (List.mem_of_getElem? a1), vd _ (List.mem_of_getElem? a2)⟩, ⟨vr' _ (List.mem_of_getElem? b1), vd' _ (List.mem_of_getElem? b2)⟩, hr.2 i _ _ a1 b1, hd.2 i _ _ a2 b2⟩
theorem sub_all {r r' : List (Int × Int)} (h : SbL r r') : (r.zip r').all sub1 = true := by
  rw [List.all_eq_true]
  intro z hz
  obtain ⟨i, hi⟩ := List.getElem?_of_mem hz
  obtain ⟨a, b⟩ := List.getElem?_zip_eq_some.1 hi
  have := h.2 i _ _ a b
  unfold sub1
  simp [this.1, this.2]
def hullL (a b : List (Int × Int)) : List (Int × Int) := (a.zip b).map hullI
theorem hullL_len {a b : List (Int × Int)} (h : b.length = a.length) : (hullL a b).length = a.length := by simp [hullL, h]
theorem hull_vb {p q : Int × Int} (h : VB p) (k : VB q) : VB (hullI (p, q)) := by
  unfold hullI VB VI Ent Num at *
  dsimp only at *
  omega
theorem hullL_vl {a b : List (Int × Int)} (h : VL a) (k : VL b) : VL (hullL a b) := by
  intro p hp
  unfold hullL at hp
  rw [List.mem_map] at hp
  obtain ⟨z, hz, rfl⟩ := hp
  have := List.of_mem_zip hz
  exact hull_vb (h _ this.1) (k _ this.2)
theorem hullL_sb {a b : List (Int × Int)} (h : b.length = a.length) : SbL a (hullL a b) := by
  refine ⟨by rw [hullL_len h], fun i p q hp hq => ?_⟩
  unfold hullL at hq
  rw [List.getElem?_map] at hq
  obtain ⟨z, hz, rfl⟩ := Option.map_eq_some_iff.1 hq
  obtain ⟨a1, a2⟩ := List.getElem?_zip_eq_some.1 hz
  rw [hp] at a1
  have := Option.some.inj a1
  subst this
  unfold SbP Sb hullI
  dsimp only
  omega
/-- The rows of A, each with the row of D. -/
def hullM (A D : List (List (Int × Int))) (k i : Nat) : List (Int × Int) := hullL (A[i]?.getD []) (D[i]?.getD [])
def hulM (A D : List (List (Int × Int))) (k : Nat) : List (List (Int × Int)) := (List.range k).map (hullM A D k)
theorem hulM_at {A D : List (List (Int × Int))} {k i : Nat} (hi : i < k) : (hulM A D k)[i]? = some (hullM A D k i) := by
  unfold hulM; rw [List.getElem?_map, List.getElem?_range hi, Option.map_some]
theorem hullM_eq {A D : List (List (Int × Int))} {k i : Nat} {a d : List (Int × Int)} (ha : A[i]? = some a) (hd : D[i]? = some d) : hullM A D k i = hullL a d := by
  unfold hullM; rw [ha, hd]; rfl
theorem sq_hul {A D : List (List (Int × Int))} {k : Nat} (hA : Sq k A) (hD : Sq k D) : Sq k (hulM A D k) := by
  refine ⟨by simp [hulM], fun r hr => ?_⟩
  unfold hulM at hr
  rw [List.mem_map] at hr
  obtain ⟨i, hi, rfl⟩ := hr
  have hik := List.mem_range.1 hi
  have ha := List.getElem?_eq_getElem (show i < A.length by rw [hA.1]; exact hik)
  have hd := List.getElem?_eq_getElem (show i < D.length by rw [hD.1]; exact hik)
  obtain ⟨l1, v1⟩ := hA.2 _ (List.mem_of_getElem? ha)
  obtain ⟨l2, v2⟩ := hD.2 _ (List.mem_of_getElem? hd)
  rw [hullM_eq ha hd]
  exact ⟨by rw [hullL_len (by rw [l1, l2]), l1], hullL_vl v1 v2⟩
theorem hul_row {A D : List (List (Int × Int))} {k i : Nat} {a : List (Int × Int)} (hA : Sq k A) (hD : Sq k D) (hi : i < k) (ha : A[i]? = some a) : SbL a (hullM A D k i) := by
  have hd := List.getElem?_eq_getElem (show i < D.length by rw [hD.1]; exact hi)
  rw [hullM_eq ha hd]
  exact hullL_sb (by rw [(hA.2 _ (List.mem_of_getElem? ha)).1, (hD.2 _ (List.mem_of_getElem? hd)).1])
theorem hul_el {A D : List (List (Int × Int))} {k i j : Nat} (hA : Sq k A) (hD : Sq k D) (hi : i < k) (hj : j < k) : SbP (elI A i j) (elI (hulM A D k) i j) := by
  have hal : i < A.length := by rw [hA.1]; exact hi
  have ha := List.getElem?_eq_getElem hal
  have hl := (hA.2 A[i] (List.getElem_mem hal)).1
  have hb := hul_row hA hD hi ha
  have h1 := List.getElem?_eq_getElem (show j < A[i].length by rw [hl]; exact hj)
  have h2 := List.getElem?_eq_getElem (show j < (hullM A D k i).length by rw [← hb.1, hl]; exact hj)
  rw [el_some ha h1, el_some (hulM_at hi) h2]
  exact hb.2 j _ _ h1 h2
theorem col_vl {k j : Nat} {B : List (List (Int × Int))} (h : Sq k B) (hj : j < k) : VL (rowOf (trF (0, 0) B) k j) := by
  intro q hq
  unfold rowOf at hq
  rw [List.mem_map] at hq
  obtain ⟨t, ht, rfl⟩ := hq
  have htk := List.mem_range.1 ht
  rw [trF_el]
  have hb : t < B.length := by rw [h.1]; exact htk
  have hl := (h.2 B[t] (List.getElem_mem hb)).1
  have hbj := List.getElem?_eq_getElem (show j < B[t].length by rw [hl]; exact hj)
  rw [el_some (List.getElem?_eq_getElem hb) hbj]
  exact (h.2 B[t] (List.getElem_mem hb)).2 _ (List.mem_of_getElem? hbj)
theorem mul_row {k i : Nat} {A B : List (List (Int × Int))} {r : List (Int × Int)} (hr : A[i]? = some r) : (mulT k A B)[i]? = some (rowOf (fun _ j => dotI (r.zip (rowOf (trF (0, 0) B) k j))) k i) := by
  unfold mulT mulM
  rw [List.getElem?_map, hr, Option.map_some]
  congr 1
  unfold trM matOf rowOf
  rw [List.map_map]
  rfl
/-- The rows of the products. -/
theorem mul_iso_row {k i : Nat} {A B D E : List (List (Int × Int))} (hA : Sq k A) (hB : Sq k B) (hD : Sq k D) (hE : Sq k E) (hi : i < k) {p q : List (Int × Int)} (hp : (mulT k A B)[i]? = some p) (hq : (mulT k (hulM A D k) (hulM B E k))[i]? = some q) : SbL p q := by
  have hal : i < A.length := by rw [hA.1]; exact hi
  have ha := List.getElem?_eq_getElem hal
  have hAl := hA.2 A[i] (List.getElem_mem hal)
  have hr := hul_row hA hD hi ha
  have sD := sq_hul hA hD
  have sE := sq_hul hB hE
  have hv' := (sD.2 _ (List.mem_of_getElem? (hulM_at (A := A) (D := D) hi))).2
  rw [mul_row ha] at hp
  rw [mul_row (hulM_at hi)] at hq
  rw [← Option.some.inj hp, ← Option.some.inj hq]
  refine ⟨by simp [rowOf], fun j x y hx hy => ?_⟩
  have hj : j < k := by have := (List.getElem?_eq_some_iff.1 hx).1; simpa [rowOf] using this
  unfold rowOf at hx hy
  rw [List.getElem?_map, List.getElem?_range hj, Option.map_some] at hx hy
  rw [← Option.some.inj hx, ← Option.some.inj hy]
  have hcol : SbL (rowOf (trF (0, 0) B) k j) (rowOf (trF (0, 0) (hulM B E k)) k j) := by
    refine ⟨by simp [rowOf], fun t x y hx hy => ?_⟩
    have ht : t < k := by have := (List.getElem?_eq_some_iff.1 hx).1; simpa [rowOf] using this
    unfold rowOf at hx hy
    rw [List.getElem?_map, List.getElem?_range ht, Option.map_some] at hx hy
    rw [← Option.some.inj hx, ← Option.some.inj hy, trF_el, trF_el]
    exact hul_el hB hE ht hj
  exact dot_iso hAl.2 (col_vl hB hj) hv' (col_vl sE hj) hr hcol (by rw [hAl.1]; simp [rowOf])
theorem ap_iso {k : Nat} {A D : List (List (Int × Int))} {c f : List (Int × Int)} (hA : Sq k A) (hD : Sq k D) (hc : c.length = k) (hf : f.length = k) (vc : VL c) (vf : VL f) : SbL (apM A c) (apM (hulM A D k) (hullL c f)) := by
  have sD := sq_hul hA hD
  refine ⟨by simp [apM, hA.1, sD.1], fun i x y hx hy => ?_⟩
  have hi : i < k := by have := (List.getElem?_eq_some_iff.1 hx).1; simpa [apM, hA.1] using this
  have hal : i < A.length := by rw [hA.1]; exact hi
  have ha := List.getElem?_eq_getElem hal
  have hAl := hA.2 A[i] (List.getElem_mem hal)
  unfold apM at hx hy
  rw [List.getElem?_map, ha, Option.map_some] at hx
  rw [List.getElem?_map, hulM_at hi, Option.map_some] at hy
  rw [← Option.some.inj hx, ← Option.some.inj hy]
  exact dot_iso hAl.2 vc (sD.2 _ (List.mem_of_getElem? (hulM_at (A := A) (D := D) hi))).2 (hullL_vl vc vf) (hul_row hA hD hi ha) (hullL_sb (by rw [hc, hf])) (by rw [hAl.1, hc])
/-- A matrix whose outer row is the call's own. -/
structure OutM (B : Nat) (w : World) (v : Value) (us : List Value) (M : List (List (Int × Int))) : Prop where
  out : w.ownsRow B 22 1 v M.length us
  row : ∀ (i : Nat) (u : Value) (r : List (Int × Int)), us[i]? = some u → M[i]? = some r → Bx w u r
theorem OutM.kept {B : Nat} {w w' : World} {v : Value} {us : List Value} {M : List (List (Int × Int))} (h : OutM B w v us M) (hb : Below w.heap.size w w') : OutM B w' v us M :=
  ⟨h.out.kept (grown_below hb) (by rcases h.out.2 with ⟨e, _⟩ | ⟨O, c', cur, e, _⟩; exact .inl (by rw [e]; rfl); exact .inr (by rw [e]; simp [Value.ownBlock])),
   fun i u r hu hr => (h.row i u r hu hr).grow hb⟩
theorem OutM.of {B : Nat} {w : World} {v : Value} {us : List Value} {M : List (List (Int × Int))} (h : OwnM B w v us M) (hl : ∀ r ∈ M, r.length ≤ maxLen) : OutM B w v us M :=
  ⟨h.out, fun i u r hu hr => by
    obtain ⟨R, c, h1, h2⟩ := h.row i r hr
    rw [h1] at hu
    rw [← Option.some.inj hu]
    exact Bx.own h2 (hl r (List.mem_of_getElem? hr))⟩
theorem OutM.mx {B : Nat} {w : World} {v : Value} {us : List Value} {M : List (List (Int × Int))} (h : OutM B w v us M) (hl : M.length ≤ maxLen) : Mx w v M :=
  Lx.own h.out hl fun k u x hu hx => h.row k u x hu hx
/-- A store into a cell that held a slice touches no interval. -/
theorem bx_off {w : World} {O i : Nat} {z0 z u : Value} {l : List (Int × Int)} (h : Bx w u l) (hc : w.cell? ⟨O, i, none⟩ = some z0) (hs : IsSl z0) : Bx (w.setCell ⟨O, i, none⟩ z) u l := by
  obtain ⟨hl, p, cap, rfl, hp⟩ := h
  refine ⟨hl, p, cap, rfl, fun k x hx => ?_⟩
  obtain ⟨b, o, rfl, h1, h2, h3⟩ := hp k x hx
  have ne : ∀ (q : Nat) (n : Int), w.cell? ⟨b, q, none⟩ = some (.int .i64 n) → (w.setCell ⟨O, i, none⟩ z).cell? ⟨b, q, none⟩ = some (.int .i64 n) := fun q n hq => by
    rw [World.cell?_setCell_other]
    · exact hq
    · intro e
      simp only [Addr.mk.injEq, and_true] at e
      obtain ⟨rfl, rfl⟩ := e
      rw [hq] at hc
      obtain ⟨p', n', c', e2⟩ := hs
      rw [e2] at hc
      cases hc
  exact ⟨b, o, rfl, by rw [size_set]; exact h1, ne _ _ h2, ne _ _ h3⟩
theorem OutM.slot {B O k c : Nat} {w : World} {us : List Value} {M : List (List (Int × Int))} (h : OutM B w (.slice (some ⟨O, 0, none⟩) k c) us M) (hk : M.length = k) {i : Nat} {r : List (Int × Int)} (hr : M[i]? = some r) : ∃ u, us[i]? = some u ∧ w.cell? ⟨O, i, none⟩ = some u ∧ Bx w u r ∧ IsSl u := by
  have hi := (List.getElem?_eq_some_iff.1 hr).1
  have ho := h.out
  rw [hk] at ho hi
  have hul : us.length = k := by have := ho.1; omega
  have hu := List.getElem?_eq_getElem (show i < us.length by omega)
  have hc := ho.cellAt i (by omega)
  rw [hu] at hc
  have hb := h.row i _ r hu hr
  exact ⟨_, hu, hc, hb, bx_sl hb⟩
theorem OutM.set {B O k c i : Nat} {w : World} {us : List Value} {M : List (List (Int × Int))} {u' : Value} {r0 r' : List (Int × Int)} (h : OutM B w (.slice (some ⟨O, 0, none⟩) k c) us M) (hk : M.length = k) (hr : M[i]? = some r0) (hu : Bx w u' r') : OutM B (w.setCell ⟨O, i, none⟩ u') (.slice (some ⟨O, 0, none⟩) k c) (us.set i u') (M.set i r') := by
  obtain ⟨u0, h1, h2, h3, h4⟩ := h.slot hk hr
  have ho := h.out
  rw [hk] at ho
  refine ⟨by rw [List.length_set, hk]; exact (ho.stored i u').1, fun j u r gu gr => ?_⟩
  by_cases e : j = i
  · subst e
    rw [List.getElem?_set_self (List.getElem?_eq_some_iff.1 h1).1] at gu
    rw [List.getElem?_set_self (List.getElem?_eq_some_iff.1 hr).1] at gr
    rw [← Option.some.inj gu, ← Option.some.inj gr]
    exact bx_off hu h2 h4
  · rw [List.getElem?_set_ne (fun q => e q.symm)] at gu gr
    exact bx_off (h.row j u r gu gr) h2 h4
theorem OutM.off {B B2 O O2 k c k2 c2 i : Nat} {w : World} {us us2 : List Value} {M M2 : List (List (Int × Int))} {u' : Value} {r0 : List (Int × Int)} (h : OutM B w (.slice (some ⟨O, 0, none⟩) k c) us M) (g : OutM B2 w (.slice (some ⟨O2, 0, none⟩) k2 c2) us2 M2) (hk2 : M2.length = k2) (hr : M2[i]? = some r0) (hne : O ≠ O2) : OutM B (w.setCell ⟨O2, i, none⟩ u') (.slice (some ⟨O, 0, none⟩) k c) us M := by
  obtain ⟨u0, h1, h2, h3, h4⟩ := g.slot hk2 hr
  have go := g.out
  rw [hk2] at go
  exact ⟨h.out.kept (go.stored i u').2 (.inr (by simpa [Value.ownBlock] using hne)), fun j u r gu gr => bx_off (h.row j u r gu gr) h2 h4⟩
end Go.Proofs.Ythejcoidgmaidaa
