/-
  Mathematics of the laws of inclusion over matrices.
-/
import Derived.Test.YthejcoidgmaidaaGreatMatMath
import Derived.Test.YthejcoidgmaidaaGreatIsoMath
import Derived.Test.YthejcoidgmaidaaGreatSubMath
import Derived.Test.YthejcoidgmaidaaGreatRef4
namespace Go.Proofs.YthejcoidgmaidaaGreat
open Go.ChangeShapes Go.WideShapes Go.ChangeAt Go.RowKit
set_option linter.unusedVariables false
set_option linter.unusedSimpArgs false
set_option maxRecDepth 100000

theorem cont_mul {p q : Int × Int} {x y : Int} (hp : ¬ Ent p.1 p.2) (hq : ¬ Ent q.1 q.2) (h1 : p.1 ≤ x) (h2 : x ≤ p.2) (h3 : q.1 ≤ y) (h4 : y ≤ q.2) : contS (mulI (p, q)) (x * y) := by
  by_cases he : Ent (mulI (p, q)).1 (mulI (p, q)).2
  · exact .inl he
  · right
    obtain ⟨e1, e2⟩ := mul_not_ent (a := p.1) (b := p.2) (c := q.1) (d := q.2) he
    have hb := prod_in h1 h2 h3 h4
    have d1 := (dn_mul (mn4 p.1 p.2 q.1 q.2) (d := 65536) (by decide)).1
    have d2 := (up_mul (mx4 p.1 p.2 q.1 q.2) (d := 65536) (by decide)).1
    show mulLo p.1 p.2 q.1 q.2 * 65536 ≤ x * y ∧ x * y ≤ mulHi p.1 p.2 q.1 q.2 * 65536
    rw [e1, e2]
    omega
theorem cont_add {p q : Int × Int} {s t : Int} (hp : contS p s) (hq : contS q t) : contS (addI p q) (s + t) := by
  by_cases he : Ent (addI p q).1 (addI p q).2
  · exact .inl he
  · right
    obtain ⟨n1, n2, _, _, e1, e2⟩ := add_not_ent (c := p.1) (d := p.2) (e := q.1) (f := q.2) he
    show addLo p.1 p.2 q.1 q.2 * 65536 ≤ s + t ∧ s + t ≤ addHi p.1 p.2 q.1 q.2 * 65536
    rw [e1, e2]
    rcases hp with hp | hp
    · exact absurd hp n1
    rcases hq with hq | hq
    · exact absurd hq n2
    omega
def InZ (l : List ((Int × Int) × (Int × Int))) (z : List (Int × Int)) : Prop := l.length = z.length ∧ ∀ (i : Nat) a b, l[i]? = some a → z[i]? = some b → (¬ Ent a.1.1 a.1.2 ∧ ¬ Ent a.2.1 a.2.2) ∧ (a.1.1 ≤ b.1 ∧ b.1 ≤ a.1.2) ∧ a.2.1 ≤ b.2 ∧ b.2 ≤ a.2.2
theorem cont_fold : ∀ (l : List ((Int × Int) × (Int × Int))) (z : List (Int × Int)) (s : Int × Int) (S : Int), contS s S → InZ l z → contS (l.foldl dot1 s) (S + (z.map fun z => z.1 * z.2).sum)
  | [], [], s, S, h, _ => by simpa using h
  | [], _ :: _, s, S, h, ⟨hl, _⟩ => by simp at hl
  | _ :: _, [], s, S, h, ⟨hl, _⟩ => by simp at hl
  | a :: l, b :: z, s, S, h, ⟨hl, hz⟩ => by
    obtain ⟨⟨n1, n2⟩, ⟨c1, c2⟩, c3, c4⟩ := hz 0 a b rfl rfl
    have h1 : contS (dot1 s a) (S + b.1 * b.2) := cont_add h (cont_mul (p := a.1) (q := a.2) n1 n2 c1 c2 c3 c4)
    have := cont_fold l z _ _ h1 ⟨by simpa using hl, fun i a' b' h1 h2 => hz (i + 1) a' b' (by simpa using h1) (by simpa using h2)⟩
    rw [List.foldl_cons, List.map_cons, List.sum_cons, ← Int.add_assoc]
    exact this
theorem cont_dot {r d : List (Int × Int)} {m p : List Int} (h : InZ (r.zip d) (m.zip p)) : contS (dotI (r.zip d)) (dotN m p) := by
  have := cont_fold _ _ (0, 0) 0 (.inr (by decide)) h
  rw [Int.zero_add] at this
  exact this
theorem inz_of {r d : List (Int × Int)} {m p : List Int} (h1 : m.length = r.length) (h2 : d.length = r.length) (h3 : p.length = r.length) (hr : ∀ q ∈ r, Sm q) (hd : ∀ q ∈ d, Sm q) (hm : RowIn r m) (hp : RowIn d p) : InZ (r.zip d) (m.zip p) := by
  refine ⟨by simp [h1, h2, h3], fun i a b ha hb => ?_⟩
  obtain ⟨a1, a2⟩ := List.getElem?_zip_eq_some.1 ha
  obtain ⟨b1, b2⟩ := List.getElem?_zip_eq_some.1 hb
  exact ⟨⟨sm_no (hr _ (List.mem_of_getElem? a1)), sm_no (hd _ (List.mem_of_getElem? a2))⟩, hm i _ _ b1 a1, hp i _ _ b2 a2⟩
theorem row_in_bd {r : List (Int × Int)} {m : List Int} (hl : m.length ≤ r.length) (h : RowIn r m) (hr : ∀ q ∈ r, Sm q) : ∀ x ∈ m, -16777216 ≤ x ∧ x ≤ 16777216 := by
  intro x hx
  obtain ⟨i, hi⟩ := List.getElem?_of_mem hx
  have hil : i < r.length := by have := (List.getElem?_eq_some_iff.1 hi).1; omega
  have := h i x _ hi (List.getElem?_eq_getElem hil)
  have s := hr _ (List.getElem_mem hil)
  have s1 := s.1
  have s2 := s.2.2
  omega
theorem prod_bd24 {x y : Int} (hx : -16777216 ≤ x ∧ x ≤ 16777216) (hy : -16777216 ≤ y ∧ y ≤ 16777216) : -4503599627370496 ≤ x * y ∧ x * y ≤ 4503599627370496 := by
  have := prod_in hx.1 hx.2 hy.1 hy.2
  have e1 : mn4 (-16777216) 16777216 (-16777216) 16777216 = -281474976710656 := by decide
  have e2 : mx4 (-16777216) 16777216 (-16777216) 16777216 = 281474976710656 := by decide
  omega
theorem zip_bd24 {m p : List Int} (hm : ∀ x ∈ m, -16777216 ≤ x ∧ x ≤ 16777216) (hp : ∀ x ∈ p, -16777216 ≤ x ∧ x ≤ 16777216) : ∀ z ∈ m.zip p, -4503599627370496 ≤ z.1 * z.2 ∧ z.1 * z.2 ≤ 4503599627370496 := by
  intro z hz
  have := List.of_mem_zip hz
  exact prod_bd24 (hm _ this.1) (hp _ this.2)
theorem con_row {l : List (Int × Int)} {m : List Int} (h : (l.zip m).all con1 = true) (hn : ∀ p ∈ l, Sm p) : RowIn l m := by
  intro t x p hx hp
  have := List.all_eq_true.1 h (p, x) (List.mem_of_getElem? ((List.getElem?_zip_eq_some (z := (p, x))).2 ⟨hp, hx⟩))
  have hs := sm_no (hn p (List.mem_of_getElem? hp))
  simp only [con1, Bool.or_eq_true, decide_eq_true_eq, Bool.and_eq_true] at this
  rcases this with h | h
  · exact absurd h hs
  · exact h
theorem col_sm {k j : Nat} {B : List (List (Int × Int))} (h : QM Sm k B) (hj : j < k) : ∀ q ∈ rowOf (trF (0, 0) B) k j, Sm q := by
  intro q hq
  unfold rowOf at hq
  rw [List.mem_map] at hq
  obtain ⟨t, ht, rfl⟩ := hq
  rw [trF_el]
  exact el_sm h (List.mem_range.1 ht) hj
/-- A column of a sample lies in the column. -/
theorem col_in {k j : Nat} {B : List (List (Int × Int))} {P : List (List Int)} (h : QM Sm k B) (hP : P.length = k) (hS : SampM k B P) (hj : j < k) : RowIn (rowOf (trF (0, 0) B) k j) (colL P j) := by
  intro t x p hx hp
  unfold colL at hx
  rw [List.getElem?_map] at hx
  obtain ⟨m, hm, rfl⟩ := Option.map_eq_some_iff.1 hx
  have htk : t < k := by have := (List.getElem?_eq_some_iff.1 hm).1; omega
  unfold rowOf at hp
  rw [List.getElem?_map, List.getElem?_range htk, Option.map_some] at hp
  have hb : t < B.length := by rw [h.1]; exact htk
  have hr := List.getElem?_eq_getElem hb
  obtain ⟨hml, hmi⟩ := hS t _ m hr hm
  have hrl := (h.2 B[t] (List.getElem_mem hb)).1
  have hbj := List.getElem?_eq_getElem (show j < B[t].length by rw [hrl]; exact hj)
  have hmj := List.getElem?_eq_getElem (show j < m.length by rw [hml]; exact hj)
  rw [← Option.some.inj hp, trF_el, el_some hr hbj, hmj, Option.getD_some]
  exact hmi j _ _ hmj hbj
end Go.Proofs.YthejcoidgmaidaaGreat
