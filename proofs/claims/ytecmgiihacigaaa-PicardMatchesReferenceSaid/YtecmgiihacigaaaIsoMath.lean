/-
  Mathematics of isotony: larger operands, larger results.
-/
import Derived.Test.YtecmgiihacigaaaSubMath
namespace Go.Proofs.Ytecmgiihacigaaa
set_option linter.unusedVariables false
set_option linter.unusedSimpArgs false
set_option maxRecDepth 100000

/-- Nested: [a, b] in [i, j]. -/
def Sb (a b i j : Int) : Prop := i ≤ a ∧ b ≤ j
theorem ent_up {a b i j : Int} (hv : VI a b) (hu : VI i j) (h : Sb a b i j) (he : Ent a b) : Ent i j := by
  unfold Sb VI Ent Num at *; omega
theorem prod_in {x y i j k l : Int} (h1 : i ≤ x) (h2 : x ≤ j) (h3 : k ≤ y) (h4 : y ≤ l) : mn4 i j k l ≤ x * y ∧ x * y ≤ mx4 i j k l := by
  obtain ⟨e1, e2, e3, e4, -, -, -, -⟩ := edges (a := i) (b := j) (c := k) (d := y) (by omega) h3
  obtain ⟨f1, f2, f3, f4, -, -, -, -⟩ := edges (a := i) (b := j) (c := y) (d := l) (by omega) h4
  have p : 0 ≤ y → i * y ≤ x * y ∧ x * y ≤ j * y := fun hy => ⟨Int.mul_le_mul_of_nonneg_right h1 hy, Int.mul_le_mul_of_nonneg_right h2 hy⟩
  have q : y ≤ 0 → x * y ≤ i * y ∧ j * y ≤ x * y := fun hy => ⟨Int.mul_le_mul_of_nonpos_right h1 hy, Int.mul_le_mul_of_nonpos_right h2 hy⟩
  unfold mn4 mx4
  rcases Int.le_total 0 y with hy | hy
  · have := p hy
    rcases Int.le_total 0 i with hi | hi
    · have := e1 hi; have := f1 hi
      rcases Int.le_total 0 j with hj | hj
      · have := e3 hj; have := f3 hj; omega
      · have := e4 hj; have := f4 hj; omega
    · have := e2 hi; have := f2 hi
      rcases Int.le_total 0 j with hj | hj
      · have := e3 hj; have := f3 hj; omega
      · have := e4 hj; have := f4 hj; omega
  · have := q hy
    rcases Int.le_total 0 i with hi | hi
    · have := e1 hi; have := f1 hi
      rcases Int.le_total 0 j with hj | hj
      · have := e3 hj; have := f3 hj; omega
      · have := e4 hj; have := f4 hj; omega
    · have := e2 hi; have := f2 hi
      rcases Int.le_total 0 j with hj | hj
      · have := e3 hj; have := f3 hj; omega
      · have := e4 hj; have := f4 hj; omega
theorem mn4_iso {a b c d i j k l : Int} (hab : a ≤ b) (hcd : c ≤ d) (h : Sb a b i j) (g : Sb c d k l) : mn4 i j k l ≤ mn4 a b c d ∧ mx4 a b c d ≤ mx4 i j k l := by
  obtain ⟨h1, h2⟩ := h
  obtain ⟨g1, g2⟩ := g
  have p1 := prod_in h1 (Int.le_trans hab h2) g1 (Int.le_trans hcd g2)
  have p2 := prod_in h1 (Int.le_trans hab h2) (Int.le_trans g1 hcd) g2
  have p3 := prod_in (Int.le_trans h1 hab) h2 g1 (Int.le_trans hcd g2)
  have p4 := prod_in (Int.le_trans h1 hab) h2 (Int.le_trans g1 hcd) g2
  rw [show mn4 a b c d = min (min (a * c) (a * d)) (min (b * c) (b * d)) from rfl, show mx4 a b c d = max (max (a * c) (a * d)) (max (b * c) (b * d)) from rfl]
  omega
section
variable {a b c d i j k l : Int} (hv : VI a b) (hw : VI c d) (hi : VI i j) (hk : VI k l) (h : Sb a b i j) (g : Sb c d k l)
include hv hw hi hk h g
theorem add_iso : Sb (addLo a b c d) (addHi a b c d) (addLo i j k l) (addHi i j k l) := by
  have hvi := (add_vi hv.bd.2.2.2.2 hw.bd.2.2.2.2).wide
  unfold Sb at *
  by_cases he : Ent i j ∨ Ent k l
  · rw [show addLo i j k l = -2147483648 by unfold addLo; rw [if_pos he], show addHi i j k l = 2147483648 by unfold addHi; rw [if_pos he]]; exact hvi
  · have hn : ¬ (Ent a b ∨ Ent c d) := fun q => he (q.imp (ent_up hv hi h) (ent_up hw hk g))
    unfold addLo addHi
    rw [if_neg he, if_neg he, if_neg hn, if_neg hn]
    have := hv.bd; have := hw.bd
    exact mk_sub (by omega) (by omega) (by omega)
theorem mul_iso : Sb (mulLo a b c d) (mulHi a b c d) (mulLo i j k l) (mulHi i j k l) := by
  have hvi := (mul_vi a b c d).wide
  have hm := mn4_iso hv.bd.2.2.2.2 hw.bd.2.2.2.2 h g
  unfold Sb at *
  by_cases he : Ent i j ∨ Ent k l
  · rw [show mulLo i j k l = -2147483648 by unfold mulLo; rw [if_pos he], show mulHi i j k l = 2147483648 by unfold mulHi; rw [if_pos he]]; exact hvi
  · have hn : ¬ (Ent a b ∨ Ent c d) := fun q => he (q.imp (ent_up hv hi h) (ent_up hw hk g))
    unfold mulLo mulHi
    rw [if_neg he, if_neg he, if_neg hn, if_neg hn]
    exact mk_sub (dn_mono (by decide) hm.1) (dn_up_le (mn_mx a b c d)) (up_mono (by decide) hm.2)
end
theorem hull_iso {a b c d i j k l : Int} (h : Sb a b i j) (g : Sb c d k l) : Sb (min a c) (max b d) (min i k) (max j l) := by unfold Sb at *; omega
theorem neg_iso {a b i j : Int} (h : Sb a b i j) : Sb (-b) (-a) (-j) (-i) := by unfold Sb at *; omega
/-- A quotient of elements lies between the ends' quotients. -/
theorem quo_in {x y i j k l : Int} (h1 : i ≤ x) (h2 : x ≤ j) (h3 : k ≤ y) (h4 : y ≤ l) (hs : 0 < k ∨ l < 0) : dv1 i j k l ≤ dn (x * 65536) y ∧ up (x * 65536) y ≤ dv2 i j k l := by
  have hy : 0 < y ∨ y < 0 := by omega
  obtain ⟨a1, a2⟩ := dn_anti2 (x := i * 65536) (c := k) (d := y) (by omega) h3
  obtain ⟨a3, a4⟩ := dn_anti2 (x := i * 65536) (c := y) (d := l) (by omega) h4
  obtain ⟨a5, a6⟩ := dn_anti2 (x := j * 65536) (c := k) (d := y) (by omega) h3
  obtain ⟨a7, a8⟩ := dn_anti2 (x := j * 65536) (c := y) (d := l) (by omega) h4
  obtain ⟨b1, b2⟩ := up_anti2 (x := i * 65536) (c := k) (d := y) (by omega) h3
  obtain ⟨b3, b4⟩ := up_anti2 (x := i * 65536) (c := y) (d := l) (by omega) h4
  obtain ⟨b5, b6⟩ := up_anti2 (x := j * 65536) (c := k) (d := y) (by omega) h3
  obtain ⟨b7, b8⟩ := up_anti2 (x := j * 65536) (c := y) (d := l) (by omega) h4
  obtain ⟨m1, m2⟩ := dn_num (x := i * 65536) (y := x * 65536) (c := y) (by omega)
  obtain ⟨m3, m4⟩ := dn_num (x := x * 65536) (y := j * 65536) (c := y) (by omega)
  obtain ⟨n1, n2⟩ := up_num (x := i * 65536) (y := x * 65536) (c := y) (by omega)
  obtain ⟨n3, n4⟩ := up_num (x := x * 65536) (y := j * 65536) (c := y) (by omega)
  unfold dv1 dv2
  rcases Int.le_total 0 i with hi | hi
  · have := a1 (by omega); have := a3 (by omega); have := b1 (by omega); have := b3 (by omega)
    rcases Int.le_total 0 j with hj | hj
    · have := a5 (by omega); have := a7 (by omega); have := b5 (by omega); have := b7 (by omega)
      rcases hy with hy | hy
      · have := m1 hy; have := n3 hy; omega
      · have := m4 hy; have := n2 hy; omega
    · have := a6 (by omega); have := a8 (by omega); have := b6 (by omega); have := b8 (by omega)
      rcases hy with hy | hy
      · have := m1 hy; have := n3 hy; omega
      · have := m4 hy; have := n2 hy; omega
  · have := a2 (by omega); have := a4 (by omega); have := b2 (by omega); have := b4 (by omega)
    rcases Int.le_total 0 j with hj | hj
    · have := a5 (by omega); have := a7 (by omega); have := b5 (by omega); have := b7 (by omega)
      rcases hy with hy | hy
      · have := m1 hy; have := n3 hy; omega
      · have := m4 hy; have := n2 hy; omega
    · have := a6 (by omega); have := a8 (by omega); have := b6 (by omega); have := b8 (by omega)
      rcases hy with hy | hy
      · have := m1 hy; have := n3 hy; omega
      · have := m4 hy; have := n2 hy; omega
theorem div_iso {a b c d i j k l : Int} (hv : VI a b) (hw : VI c d) (hi : VI i j) (hk : VI k l) (h : Sb a b i j) (g : Sb c d k l) : Sb (divLo a b c d) (divHi a b c d) (divLo i j k l) (divHi i j k l) := by
  have hab := hv.bd.2.2.2.2
  have hcd := hw.bd.2.2.2.2
  have hvi := (div_vi (a := a) (b := b) hcd).wide
  by_cases he : Ent i j ∨ (k ≤ 0 ∧ 0 ≤ l)
  · unfold Sb
    rw [show divLo i j k l = -2147483648 by unfold divLo; rw [if_pos he], show divHi i j k l = 2147483648 by unfold divHi; rw [if_pos he]]; exact hvi
  · have hn : ¬ (Ent a b ∨ (c ≤ 0 ∧ 0 ≤ d)) := fun q => he (q.imp (ent_up hv hi h) (by unfold Sb at g; omega))
    have hs : 0 < k ∨ l < 0 := by have := hk.bd; omega
    unfold Sb at *
    unfold divLo divHi
    rw [if_neg he, if_neg he, if_neg hn, if_neg hn]
    have p1 := quo_in (x := a) (y := c) (i := i) (j := j) (k := k) (l := l) h.1 (by omega) g.1 (by omega) hs
    have p2 := quo_in (x := a) (y := d) (i := i) (j := j) (k := k) (l := l) h.1 (by omega) (by omega) g.2 hs
    have p3 := quo_in (x := b) (y := c) (i := i) (j := j) (k := k) (l := l) (by omega) h.2 g.1 (by omega) hs
    have p4 := quo_in (x := b) (y := d) (i := i) (j := j) (k := k) (l := l) (by omega) h.2 (by omega) g.2 hs
    refine mk_sub ?_ (dv_le (by omega)) ?_
    · exact Int.le_min.2 ⟨Int.le_min.2 ⟨p1.1, p2.1⟩, Int.le_min.2 ⟨p3.1, p4.1⟩⟩
    · exact Int.max_le.2 ⟨Int.max_le.2 ⟨p1.2, p2.2⟩, Int.max_le.2 ⟨p3.2, p4.2⟩⟩
theorem mr_iso {a b i j n d : Int} (hv : VI a b) (hi : VI i j) (h : Sb a b i j) (hd : 0 < d) : Sb (mrLo a b n d) (mrHi a b n d) (mrLo i j n d) (mrHi i j n d) := by
  have hab := hv.bd.2.2.2.2
  have hvi := (mr_vi (a := a) (b := b) (n := n) hd).wide
  by_cases he : Ent i j
  · unfold Sb
    rw [show mrLo i j n d = -2147483648 by unfold mrLo; rw [if_pos he], show mrHi i j n d = 2147483648 by unfold mrHi; rw [if_pos he]]; exact hvi
  · have hn : ¬ Ent a b := fun q => he (ent_up hv hi h q)
    unfold Sb at *
    have h1 : 0 ≤ n → i * n ≤ a * n ∧ b * n ≤ j * n := fun hn => ⟨Int.mul_le_mul_of_nonneg_right h.1 hn, Int.mul_le_mul_of_nonneg_right h.2 hn⟩
    have h2 : n ≤ 0 → a * n ≤ i * n ∧ j * n ≤ b * n := fun hn => ⟨Int.mul_le_mul_of_nonpos_right h.1 hn, Int.mul_le_mul_of_nonpos_right h.2 hn⟩
    have h3 : 0 ≤ n → a * n ≤ b * n := fun hn => Int.mul_le_mul_of_nonneg_right hab hn
    have h4 : n ≤ 0 → b * n ≤ a * n := fun hn => Int.mul_le_mul_of_nonpos_right hab hn
    unfold mrLo mrHi
    rw [if_neg he, if_neg he, if_neg hn, if_neg hn]
    refine mk_sub (dn_mono hd ?_) (mr_le hd) (up_mono hd ?_)
    · rcases Int.le_total 0 n with q | q
      · have := h1 q; have := h3 q; omega
      · have := h2 q; have := h4 q; omega
    · rcases Int.le_total 0 n with q | q
      · have := h1 q; have := h3 q; omega
      · have := h2 q; have := h4 q; omega
theorem sq_le_abs {x i j : Int} (h1 : i ≤ x) (h2 : x ≤ j) : x * x ≤ max (i * i) (j * j) := by
  by_cases hx : 0 ≤ x
  · have := sq_le hx h2; omega
  · have := sq_le (a := -x) (b := -i) (by omega) (by omega)
    rw [Int.neg_mul_neg, Int.neg_mul_neg] at this
    omega
theorem sq_iso {a b i j : Int} (hv : VI a b) (hi : VI i j) (h : Sb a b i j) : Sb (sqLo a b) (sqHi a b) (sqLo i j) (sqHi i j) := by
  have hab := hv.bd.2.2.2.2
  have hvi := (sq_vi a b).wide
  by_cases he : Ent i j
  · unfold Sb
    rw [show sqLo i j = -2147483648 by unfold sqLo; rw [if_pos he], show sqHi i j = 2147483648 by unfold sqHi; rw [if_pos he]]; exact hvi
  · have hn : ¬ Ent a b := fun q => he (ent_up hv hi h q)
    unfold Sb at *
    have q1 := sq_le_abs h.1 (Int.le_trans hab h.2)
    have q2 := sq_le_abs (Int.le_trans h.1 hab) h.2
    have n1 := sq_nonneg a
    have n2 := sq_nonneg b
    unfold sqLo sqHi
    rw [if_neg he, if_neg he, if_neg hn, if_neg hn]
    refine mk_sub (dn_mono (by decide) ?_) (Int.le_trans (dn_mono (by decide) (sq12 a b)) (up_dn _ (by decide)).1) (up_mono (by decide) (by unfold sq2; omega))
    unfold sq1
    by_cases hc : i ≤ 0 ∧ 0 ≤ j
    · rw [if_pos hc]; split <;> omega
    · rw [if_neg hc, if_neg (by omega)]
      by_cases hp : 0 < i
      · have r1 := sq_le (a := i) (b := a) (by omega) h.1
        have r2 := sq_le (a := i) (b := b) (by omega) (by omega)
        omega
      · have r1 := sq_le (a := -j) (b := -b) (by omega) (by omega)
        have r2 := sq_le (a := -j) (b := -a) (by omega) (by omega)
        rw [Int.neg_mul_neg, Int.neg_mul_neg] at r1 r2
        omega
theorem usq_mono {x y : Int} (h : 0 ≤ x) (hm : x ≤ y) : usq x ≤ usq y := by
  have hx := isq_spec h
  have hy := isq_spec (show 0 ≤ y by omega)
  have hi := isq_mono h hm
  unfold usq
  by_cases h1 : isq x * isq x = x
  · rw [if_pos h1]; split <;> omega
  · rw [if_neg h1]
    by_cases h2 : isq y * isq y = y
    · rw [if_pos h2]
      have : isq x < isq y := sq_lt (by omega) hy.1
      omega
    · rw [if_neg h2]; omega
theorem rt_iso {a b i j : Int} (hab : a ≤ b) (hb : 0 ≤ b) (h : Sb a b i j) : Sb (mkLo (rt1 a) (rt2 b)) (mkHi (rt1 a) (rt2 b)) (mkLo (rt1 i) (rt2 j)) (mkHi (rt1 i) (rt2 j)) := by
  unfold Sb at *
  refine mk_sub ?_ (rt_le hab hb) ?_
  · unfold rt1; exact isq_mono (by omega) (by omega)
  · unfold rt2; exact usq_mono (by omega) (by omega)
end Go.Proofs.Ytecmgiihacigaaa
