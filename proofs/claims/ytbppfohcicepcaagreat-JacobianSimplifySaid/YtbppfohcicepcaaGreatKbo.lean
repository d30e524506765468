/-
  IsoMath Oc Jb Jc
-/
import Derived.Test.YtbppfohcicepcaaGreatKbm
import Derived.Test.YtbppfohcicepcaaGreatKbn
namespace Go.Proofs.YtbppfohcicepcaaGreat
set_option linter.unusedVariables false
set_option linter.unusedSimpArgs false
set_option maxRecDepth 100000
/-- Nested: [a, b] in [i, j]. -/
def Sb (a b i j : Int) : Prop := i ≤ a ∧ b ≤ j
theorem ent_up {a b i j : Int} (hv : VI a b) (hu : VI i j) (h : Sb a b i j) (he : Ent a b) : Ent i j := by
  unfold Sb VI Ent Num at *; omega
theorem prod_in {x y i j k l : Int} (h1 : i ≤ x) (h2 : x ≤ j) (h3 : k ≤ y) (h4 : y ≤ l) : mn4 i j k l ≤ x * y ∧ x * y ≤ mx4 i j k l := by
  obtain ⟨e1, e2, e3, e4, -, -, -, -⟩ := edges (a := i) (b := j) (c := k) (d := y) (by omega) h3
  obtain ⟨f1, f2, f3, f4, -, -, -, -⟩ := edges (a := i) (b := j) (c := y) (d := l) (by omega) h4
  have p : 0 ≤ y → i * y ≤ x * y ∧ x * y ≤ j * y := fun hy => ⟨Int.mul_le_mul_of_nonneg_right h1 hy, Int.mul_le_mul_of_nonneg_right h2 hy⟩
  have q : y ≤ 0 → x * y ≤ i * y ∧ j * y ≤ x * y := fun hy => ⟨Int.mul_le_mul_of_nonpos_right h1 hy, Int.mul_le_mul_of_nonpos_right h2 hy⟩
  unfold mn4 mx4
  rcases Int.le_total 0 y with hy | hy
  · have := p hy
    rcases Int.le_total 0 i with hi | hi
    · have := e1 hi; have := f1 hi
      rcases Int.le_total 0 j with hj | hj
      · have := e3 hj; have := f3 hj; omega
      · have := e4 hj; have := f4 hj; omega
    · have := e2 hi; have := f2 hi
      rcases Int.le_total 0 j with hj | hj
      · have := e3 hj; have := f3 hj; omega
      · have := e4 hj; have := f4 hj; omega
  · have := q hy
    rcases Int.le_total 0 i with hi | hi
    · have := e1 hi; have := f1 hi
      rcases Int.le_total 0 j with hj | hj
      · have := e3 hj; have := f3 hj; omega
      · have := e4 hj; have := f4 hj; omega
    · have := e2 hi; have := f2 hi
      rcases Int.le_total 0 j with hj | hj
      · have := e3 hj; have := f3 hj; omega
      · have := e4 hj; have := f4 hj; omega
theorem mn4_iso {a b c d i j k l : Int} (hab : a ≤ b) (hcd : c ≤ d) (h : Sb a b i j) (g : Sb c d k l) : mn4 i j k l ≤ mn4 a b c d ∧ mx4 a b c d ≤ mx4 i j k l := by
  obtain ⟨h1, h2⟩ := h
  obtain ⟨g1, g2⟩ := g
  have p1 := prod_in h1 (Int.le_trans hab h2) g1 (Int.le_trans hcd g2)
  have p2 := prod_in h1 (Int.le_trans hab h2) (Int.le_trans g1 hcd) g2
  have p3 := prod_in (Int.le_trans h1 hab) h2 g1 (Int.le_trans hcd g2)
  have p4 := prod_in (Int.le_trans h1 hab) h2 (Int.le_trans g1 hcd) g2
  rw [show mn4 a b c d = min (min (a * c) (a * d)) (min (b * c) (b * d)) from rfl, show mx4 a b c d = max (max (a * c) (a * d)) (max (b * c) (b * d)) from rfl]
  omega
section
variable {a b c d i j k l : Int} (hv : VI a b) (hw : VI c d) (hi : VI i j) (hk : VI k l) (h : Sb a b i j) (g : Sb c d k l)
include hv hw hi hk h g
theorem add_iso : Sb (addLo a b c d) (addHi a b c d) (addLo i j k l) (addHi i j k l) := by
  have hvi := (add_vi hv.bd.2.2.2.2 hw.bd.2.2.2.2).wide
  unfold Sb at *
  by_cases he : Ent i j ∨ Ent k l
  · rw [show addLo i j k l = -2147483648 by unfold addLo; rw [if_pos he], show addHi i j k l = 2147483648 by unfold addHi; rw [if_pos he]]; exact hvi
  · have hn : ¬ (Ent a b ∨ Ent c d) := fun q => he (q.imp (ent_up hv hi h) (ent_up hw hk g))
    unfold addLo addHi
    rw [if_neg he, if_neg he, if_neg hn, if_neg hn]
    have := hv.bd; have := hw.bd
    exact mk_sub (by omega) (by omega) (by omega)
theorem mul_iso : Sb (mulLo a b c d) (mulHi a b c d) (mulLo i j k l) (mulHi i j k l) := by
  have hvi := (mul_vi a b c d).wide
  have hm := mn4_iso hv.bd.2.2.2.2 hw.bd.2.2.2.2 h g
  unfold Sb at *
  by_cases he : Ent i j ∨ Ent k l
  · rw [show mulLo i j k l = -2147483648 by unfold mulLo; rw [if_pos he], show mulHi i j k l = 2147483648 by unfold mulHi; rw [if_pos he]]; exact hvi
  · have hn : ¬ (Ent a b ∨ Ent c d) := fun q => he (q.imp (ent_up hv hi h) (ent_up hw hk g))
    unfold mulLo mulHi
    rw [if_neg he, if_neg he, if_neg hn, if_neg hn]
    exact mk_sub (dn_mono (by decide) hm.1) (dn_up_le (mn_mx a b c d)) (up_mono (by decide) hm.2)
end
theorem neg_iso {a b i j : Int} (h : Sb a b i j) : Sb (-b) (-a) (-j) (-i) := by unfold Sb at *; omega
/-- A quotient of elements lies between the ends' quotients. -/
theorem quo_in {x y i j k l : Int} (h1 : i ≤ x) (h2 : x ≤ j) (h3 : k ≤ y) (h4 : y ≤ l) (hs : 0 < k ∨ l < 0) : dv1 i j k l ≤ dn (x * 65536) y ∧ up (x * 65536) y ≤ dv2 i j k l := by
  have hy : 0 < y ∨ y < 0 := by omega
  obtain ⟨a1, a2⟩ := dn_anti2 (x := i * 65536) (c := k) (d := y) (by omega) h3
  obtain ⟨a3, a4⟩ := dn_anti2 (x := i * 65536) (c := y) (d := l) (by omega) h4
  obtain ⟨a5, a6⟩ := dn_anti2 (x := j * 65536) (c := k) (d := y) (by omega) h3
  obtain ⟨a7, a8⟩ := dn_anti2 (x := j * 65536) (c := y) (d := l) (by omega) h4
  obtain ⟨b1, b2⟩ := up_anti2 (x := i * 65536) (c := k) (d := y) (by omega) h3
  obtain ⟨b3, b4⟩ := up_anti2 (x := i * 65536) (c := y) (d := l) (by omega) h4
  obtain ⟨b5, b6⟩ := up_anti2 (x := j * 65536) (c := k) (d := y) (by omega) h3
  obtain ⟨b7, b8⟩ := up_anti2 (x := j * 65536) (c := y) (d := l) (by omega) h4
  obtain ⟨m1, m2⟩ := dn_num (x := i * 65536) (y := x * 65536) (c := y) (by omega)
  obtain ⟨m3, m4⟩ := dn_num (x := x * 65536) (y := j * 65536) (c := y) (by omega)
  obtain ⟨n1, n2⟩ := up_num (x := i * 65536) (y := x * 65536) (c := y) (by omega)
  obtain ⟨n3, n4⟩ := up_num (x := x * 65536) (y := j * 65536) (c := y) (by omega)
  unfold dv1 dv2
  rcases Int.le_total 0 i with hi | hi
  · have := a1 (by omega); have := a3 (by omega); have := b1 (by omega); have := b3 (by omega)
    rcases Int.le_total 0 j with hj | hj
    · have := a5 (by omega); have := a7 (by omega); have := b5 (by omega); have := b7 (by omega)
      rcases hy with hy | hy
      · have := m1 hy; have := n3 hy; omega
      · have := m4 hy; have := n2 hy; omega
    · have := a6 (by omega); have := a8 (by omega); have := b6 (by omega); have := b8 (by omega)
      rcases hy with hy | hy
      · have := m1 hy; have := n3 hy; omega
      · have := m4 hy; have := n2 hy; omega
  · have := a2 (by omega); have := a4 (by omega); have := b2 (by omega); have := b4 (by omega)
    rcases Int.le_total 0 j with hj | hj
    · have := a5 (by omega); have := a7 (by omega); have := b5 (by omega); have := b7 (by omega)
      rcases hy with hy | hy
      · have := m1 hy; have := n3 hy; omega
      · have := m4 hy; have := n2 hy; omega
    · have := a6 (by omega); have := a8 (by omega); have := b6 (by omega); have := b8 (by omega)
      rcases hy with hy | hy
      · have := m1 hy; have := n3 hy; omega
      · have := m4 hy; have := n2 hy; omega
theorem div_iso {a b c d i j k l : Int} (hv : VI a b) (hw : VI c d) (hi : VI i j) (hk : VI k l) (h : Sb a b i j) (g : Sb c d k l) : Sb (divLo a b c d) (divHi a b c d) (divLo i j k l) (divHi i j k l) := by
  have hab := hv.bd.2.2.2.2
  have hcd := hw.bd.2.2.2.2
  have hvi := (div_vi (a := a) (b := b) hcd).wide
  by_cases he : Ent i j ∨ (k ≤ 0 ∧ 0 ≤ l)
  · unfold Sb
    rw [show divLo i j k l = -2147483648 by unfold divLo; rw [if_pos he], show divHi i j k l = 2147483648 by unfold divHi; rw [if_pos he]]; exact hvi
  · have hn : ¬ (Ent a b ∨ (c ≤ 0 ∧ 0 ≤ d)) := fun q => he (q.imp (ent_up hv hi h) (by unfold Sb at g; omega))
    have hs : 0 < k ∨ l < 0 := by have := hk.bd; omega
    unfold Sb at *
    unfold divLo divHi
    rw [if_neg he, if_neg he, if_neg hn, if_neg hn]
    have p1 := quo_in (x := a) (y := c) (i := i) (j := j) (k := k) (l := l) h.1 (by omega) g.1 (by omega) hs
    have p2 := quo_in (x := a) (y := d) (i := i) (j := j) (k := k) (l := l) h.1 (by omega) (by omega) g.2 hs
    have p3 := quo_in (x := b) (y := c) (i := i) (j := j) (k := k) (l := l) (by omega) h.2 g.1 (by omega) hs
    have p4 := quo_in (x := b) (y := d) (i := i) (j := j) (k := k) (l := l) (by omega) h.2 (by omega) g.2 hs
    refine mk_sub ?_ (dv_le (by omega)) ?_
    · exact Int.le_min.2 ⟨Int.le_min.2 ⟨p1.1, p2.1⟩, Int.le_min.2 ⟨p3.1, p4.1⟩⟩
    · exact Int.max_le.2 ⟨Int.max_le.2 ⟨p1.2, p2.2⟩, Int.max_le.2 ⟨p3.2, p4.2⟩⟩
theorem sq_le_abs {x i j : Int} (h1 : i ≤ x) (h2 : x ≤ j) : x * x ≤ max (i * i) (j * j) := by
  by_cases hx : 0 ≤ x
  · have := sq_le hx h2; omega
  · have := sq_le (a := -x) (b := -i) (by omega) (by omega)
    rw [Int.neg_mul_neg, Int.neg_mul_neg] at this
    omega
theorem sq_iso {a b i j : Int} (hv : VI a b) (hi : VI i j) (h : Sb a b i j) : Sb (sqLo a b) (sqHi a b) (sqLo i j) (sqHi i j) := by
  have hab := hv.bd.2.2.2.2
  have hvi := (sq_vi a b).wide
  by_cases he : Ent i j
  · unfold Sb
    rw [show sqLo i j = -2147483648 by unfold sqLo; rw [if_pos he], show sqHi i j = 2147483648 by unfold sqHi; rw [if_pos he]]; exact hvi
  · have hn : ¬ Ent a b := fun q => he (ent_up hv hi h q)
    unfold Sb at *
    have q1 := sq_le_abs h.1 (Int.le_trans hab h.2)
    have q2 := sq_le_abs (Int.le_trans h.1 hab) h.2
    have n1 := sq_nonneg a
    have n2 := sq_nonneg b
    unfold sqLo sqHi
    rw [if_neg he, if_neg he, if_neg hn, if_neg hn]
    refine mk_sub (dn_mono (by decide) ?_) (Int.le_trans (dn_mono (by decide) (sq12 a b)) (up_dn _ (by decide)).1) (up_mono (by decide) (by unfold sq2; omega))
    unfold sq1
    by_cases hc : i ≤ 0 ∧ 0 ≤ j
    · rw [if_pos hc]; split <;> omega
    · rw [if_neg hc, if_neg (by omega)]
      by_cases hp : 0 < i
      · have r1 := sq_le (a := i) (b := a) (by omega) h.1
        have r2 := sq_le (a := i) (b := b) (by omega) (by omega)
        omega
      · have r1 := sq_le (a := -j) (b := -b) (by omega) (by omega)
        have r2 := sq_le (a := -j) (b := -a) (by omega) (by omega)
        rw [Int.neg_mul_neg, Int.neg_mul_neg] at r1 r2
        omega
theorem usq_mono {x y : Int} (h : 0 ≤ x) (hm : x ≤ y) : usq x ≤ usq y := by
  have hx := isq_spec h
  have hy := isq_spec (show 0 ≤ y by omega)
  have hi := isq_mono h hm
  unfold usq
  by_cases h1 : isq x * isq x = x
  · rw [if_pos h1]; split <;> omega
  · rw [if_neg h1]
    by_cases h2 : isq y * isq y = y
    · rw [if_pos h2]
      have : isq x < isq y := sq_lt (by omega) hy.1
      omega
    · rw [if_neg h2]; omega
theorem rt_iso {a b i j : Int} (hab : a ≤ b) (hb : 0 ≤ b) (h : Sb a b i j) : Sb (mkLo (rt1 a) (rt2 b)) (mkHi (rt1 a) (rt2 b)) (mkLo (rt1 i) (rt2 j)) (mkHi (rt1 i) (rt2 j)) := by
  unfold Sb at *
  refine mk_sub ?_ (rt_le hab hb) ?_
  · unfold rt1; exact isq_mono (by omega) (by omega)
  · unfold rt2; exact usq_mono (by omega) (by omega)
end Go.Proofs.YtbppfohcicepcaaGreat
namespace Go.Proofs.YtbppfohcicepcaaGreat
set_option linter.unusedVariables false
set_option linter.unusedSimpArgs false
set_option maxRecDepth 100000
/-- p lies in q. -/
def SbI (p q : Int × Int) : Prop := Sb p.1 p.2 q.1 q.2
theorem rtI_iso {p q : Int × Int} (hp : VI p.1 p.2) (hq : VI q.1 q.2) (h : SbI p q) : SbI (rtI p) (rtI q) := by
  have bp := hp.bd
  have h1 := rtI_vi hp
  have b1 := h1.bd
  have hs : q.1 ≤ p.1 ∧ p.2 ≤ q.2 := h
  by_cases hq0 : q.1 < 0
  · have e : rtI q = (-2147483648, 2147483648) := if_pos hq0
    rw [e]
    unfold SbI Sb
    dsimp only
    omega
  · have hp0 : ¬ p.1 < 0 := by omega
    have e1 : rtI p = (mkLo (rt1 p.1) (rt2 p.2), mkHi (rt1 p.1) (rt2 p.2)) := if_neg hp0
    have e2 : rtI q = (mkLo (rt1 q.1) (rt2 q.2), mkHi (rt1 q.1) (rt2 q.2)) := if_neg hq0
    rw [e1, e2]
    have hbp : p.1 ≤ p.2 := bp.2.2.2.2
    have h2 : 0 ≤ p.2 := by omega
    have hh : Sb p.1 p.2 q.1 q.2 := h
    have hr := rt_iso (a := p.1) (b := p.2) (i := q.1) (j := q.2) hbp h2 hh
    unfold SbI
    dsimp only
    exact hr
theorem opI_iso (op : Int) {p q p' q' : Int × Int} (hp : VI p.1 p.2) (hq : VI q.1 q.2) (hp' : VI p'.1 p'.2) (hq' : VI q'.1 q'.2) (h : SbI p p') (g : SbI q q') : SbI (opI op p q) (opI op p' q') := by
  unfold opI
  by_cases h4 : op = 4
  · rw [if_pos h4, if_pos h4]; exact neg_iso h
  rw [if_neg h4, if_neg h4]
  by_cases h5 : op = 5
  · rw [if_pos h5, if_pos h5]; exact sq_iso hp hp' h
  rw [if_neg h5, if_neg h5]
  by_cases h6 : op = 6
  · rw [if_pos h6, if_pos h6]; exact rtI_iso hp hp' h
  rw [if_neg h6, if_neg h6]
  by_cases h7 : op = 7
  · rw [if_pos h7, if_pos h7]; exact add_iso hp hq hp' hq' h g
  rw [if_neg h7, if_neg h7]
  by_cases h8 : op = 8
  · rw [if_pos h8, if_pos h8]; exact add_iso hp hq.neg hp' hq'.neg h (neg_iso g)
  rw [if_neg h8, if_neg h8]
  by_cases h9 : op = 9
  · rw [if_pos h9, if_pos h9]; exact mul_iso hp hq hp' hq' h g
  · rw [if_neg h9, if_neg h9]; exact div_iso hp hq hp' hq' h g
end Go.Proofs.YtbppfohcicepcaaGreat
namespace Go.Proofs.YtbppfohcicepcaaGreat
set_option linter.unusedVariables false
set_option linter.unusedSimpArgs false
set_option maxRecDepth 100000
theorem sbI_refl (p : Int × Int) : SbI p p := ⟨Int.le_refl _, Int.le_refl _⟩
theorem sbI_trans {p q r : Int × Int} (h : SbI p q) (g : SbI q r) : SbI p r := ⟨Int.le_trans g.1 h.1, Int.le_trans h.2 g.2⟩
theorem sbI_eq {p q : Int × Int} (h : p = q) : SbI p q := by subst h; exact sbI_refl p
theorem evT_pt (X : List (Int × Int)) (t : Int × Int) (c : Int) : evT X t (pt c) = (c, c) := rfl
theorem rt0 : rtI (0, 0) = (0, 0) := by
  have h1 : isq (0 * 65536) = 0 := isq_is (by decide) (by decide) (by decide)
  have h2 : isq (max 0 0 * 65536) = 0 := isq_is (by decide) (by decide) (by decide)
  unfold rtI rt1 rt2 usq
  rw [if_neg (by decide)]
  simp only [h1, h2]
  decide
theorem rt65536 : rtI (65536, 65536) = (65536, 65536) := by
  have h1 : isq (65536 * 65536) = 65536 := isq_is (by decide) (by decide) (by decide)
  have h2 : isq (max 65536 0 * 65536) = 65536 := isq_is (by decide) (by decide) (by decide)
  unfold rtI rt1 rt2 usq
  rw [if_neg (by decide)]
  simp only [h1, h2]
  decide
theorem sq0 : opI 5 (0, 0) (0, 0) = (0, 0) := by decide
theorem sq1' : opI 5 (65536, 65536) (65536, 65536) = (65536, 65536) := by decide
theorem opI_4 (p q : Int × Int) : opI 4 p q = (-p.2, -p.1) := by unfold opI; rw [if_pos rfl]
theorem opI_7 (p q : Int × Int) : opI 7 p q = (addLo p.1 p.2 q.1 q.2, addHi p.1 p.2 q.1 q.2) := by unfold opI; rw [if_neg (by decide), if_neg (by decide), if_neg (by decide), if_pos rfl]
theorem opI_8 (p q : Int × Int) : opI 8 p q = (addLo p.1 p.2 (-q.2) (-q.1), addHi p.1 p.2 (-q.2) (-q.1)) := by unfold opI; rw [if_neg (by decide), if_neg (by decide), if_neg (by decide), if_neg (by decide), if_pos rfl]
theorem opI_9 (p q : Int × Int) : opI 9 p q = (mulLo p.1 p.2 q.1 q.2, mulHi p.1 p.2 q.1 q.2) := by unfold opI; rw [if_neg (by decide), if_neg (by decide), if_neg (by decide), if_neg (by decide), if_neg (by decide), if_pos rfl]
theorem opI_10 (p q : Int × Int) : opI 10 p q = (divLo p.1 p.2 q.1 q.2, divHi p.1 p.2 q.1 q.2) := by unfold opI; rw [if_neg (by decide), if_neg (by decide), if_neg (by decide), if_neg (by decide), if_neg (by decide), if_neg (by decide)]
theorem add_0r {p : Int × Int} (h : VI p.1 p.2) : opI 7 p (0, 0) = p := by rw [opI_7, (add_zero2 h).1, (add_zero2 h).2]
theorem add_0l {p : Int × Int} (h : VI p.1 p.2) : opI 7 (0, 0) p = p := by
  have := add_comm2 p.1 p.2 0 0
  rw [opI_7]
  dsimp only
  rw [this.1, this.2, (add_zero2 h).1, (add_zero2 h).2]
theorem sub_0r {p : Int × Int} (h : VI p.1 p.2) : opI 8 p (0, 0) = p := by
  rw [opI_8]
  show (addLo p.1 p.2 (-0) (-0), addHi p.1 p.2 (-0) (-0)) = p
  rw [Int.neg_zero, (add_zero2 h).1, (add_zero2 h).2]
theorem vi_neg {a b : Int} (h : VI a b) : VI (-b) (-a) := by unfold VI Ent Num at *; omega
theorem sub_0l {p : Int × Int} (h : VI p.1 p.2) : opI 8 (0, 0) p = opI 4 p p := by
  have := add_comm2 (-p.2) (-p.1) 0 0
  rw [opI_8, opI_4]
  dsimp only
  rw [this.1, this.2, (add_zero2 (vi_neg h)).1, (add_zero2 (vi_neg h)).2]
theorem mul_1r {p : Int × Int} (h : VI p.1 p.2) : opI 9 p (65536, 65536) = p := by rw [opI_9, (mul_one2 h).1, (mul_one2 h).2]
theorem mul_1l {p : Int × Int} (h : VI p.1 p.2) : opI 9 (65536, 65536) p = p := by
  have := mul_comm2 p.1 p.2 65536 65536
  rw [opI_9]
  dsimp only
  rw [this.1, this.2, (mul_one2 h).1, (mul_one2 h).2]
theorem mul_0l (q : Int × Int) : SbI (0, 0) (opI 9 (0, 0) q) := by
  rw [opI_9]
  unfold SbI Sb mulLo mulHi
  dsimp only
  split
  · omega
  · have h1 : mn4 0 0 q.1 q.2 = 0 := by unfold mn4; simp
    have h2 : mx4 0 0 q.1 q.2 = 0 := by unfold mx4; simp
    rw [h1, h2]
    decide
theorem mul_0r (q : Int × Int) : SbI (0, 0) (opI 9 q (0, 0)) := by
  have h := mul_0l q
  have := mul_comm2 q.1 q.2 0 0
  rw [opI_9] at h ⊢
  dsimp only at h ⊢
  rw [this.1, this.2] at h
  exact h
theorem div_0l (q : Int × Int) : SbI (0, 0) (opI 10 (0, 0) q) := by
  rw [opI_10]
  unfold SbI Sb divLo divHi
  dsimp only
  split
  · omega
  · have h1 : dv1 0 0 q.1 q.2 = 0 := by unfold dv1 dn; simp
    have h2 : dv2 0 0 q.1 q.2 = 0 := by unfold dv2 up; simp
    rw [h1, h2]
    decide
theorem div_1r {p : Int × Int} (h : VI p.1 p.2) : opI 10 p (65536, 65536) = p := by
  rw [opI_10]
  unfold divLo divHi
  dsimp only
  by_cases he : Ent p.1 p.2
  · rw [if_pos (.inl he), if_pos (.inl he)]
    obtain ⟨a, b⟩ := p
    obtain ⟨rfl, rfl⟩ := he
    rfl
  · have hn : ¬ (Ent p.1 p.2 ∨ ((65536 : Int) ≤ 0 ∧ (0 : Int) ≤ 65536)) := by rintro (h1 | h1); exact he h1; omega
    rw [if_neg hn, if_neg hn]
    have h1 : ∀ x : Int, dn (x * 65536) 65536 = x := fun x => by rw [dn_pos _ (by decide)]; omega
    have h2 : ∀ x : Int, up (x * 65536) 65536 = x := fun x => by rw [up_pos _ (by decide)]; omega
    have h3 : p.1 ≤ p.2 := h.bd.2.2.2.2
    have h4 : dv1 p.1 p.2 65536 65536 = p.1 := by unfold dv1; rw [h1, h1]; omega
    have h5 : dv2 p.1 p.2 65536 65536 = p.2 := by unfold dv2; rw [h2, h2]; omega
    rw [h4, h5, (mk_self h he).1, (mk_self h he).2]
theorem ev_red1 {X : List (Int × Int)} {t : Int × Int} {N op : Int} {a r : Ex} (hX : ∀ p ∈ X, VI p.1 p.2) (ht : VI t.1 t.2) (hop : op = 4 ∨ op = 5 ∨ op = 6) (ha : EV N a) (h : red1 op a = some r) : SbI (evT X t r) (opI op (evT X t a) (evT X t a)) := by
  unfold red1 negR at h
  split at h
  · rename_i h4
    subst h4
    split at h
    · rename_i h1
      cases h
      obtain ⟨h2, _⟩ := isPt_pt ha h1
      rw [opI_4, evT_pt, h2, evT_pt]
      exact sbI_refl _
    · split at h
      · rename_i h1
        cases h
        obtain ⟨y, b, rfl, hy, hb⟩ := op4_arg ha h1
        rw [evT_one, hy, opI_4, opI_4]
        dsimp only
        rw [Int.neg_neg, Int.neg_neg]
        exact sbI_refl _
      · cases h
  · split at h
    · rename_i h4 h1
      cases h
      simp only [Bool.or_eq_true] at h1
      rcases h1 with h1 | h1
      · rw [isC_pt ha h1, evT_pt]
        rcases hop with rfl | rfl | rfl
        · exact absurd rfl h4
        · rw [sq0]; exact sbI_refl _
        · rw [opI_six, rt0]; exact sbI_refl _
      · rw [isC_pt ha h1, evT_pt]
        rcases hop with rfl | rfl | rfl
        · exact absurd rfl h4
        · rw [sq1']; exact sbI_refl _
        · rw [opI_six, rt65536]; exact sbI_refl _
    · cases h
theorem ev_s1 {X : List (Int × Int)} {t : Int × Int} {N : Int} {x : Nd} {a : Ex} (hX : ∀ p ∈ X, VI p.1 p.2) (ht : VI t.1 t.2) (hop : x.op = 4 ∨ x.op = 5 ∨ x.op = 6) (ha : EV N a) : SbI (evT X t (s1 x a)) (opI x.op (evT X t a) (evT X t a)) := by
  unfold s1
  cases h : red1 x.op a with
  | none => rw [Option.getD_none, evT_one]; exact sbI_refl _
  | some r => exact ev_red1 hX ht hop ha h
theorem ev_cmp {X : List (Int × Int)} {t : Int × Int} {N op : Int} {a b r : Ex} (ha : EV N a) (hb : EV N b) (h : cmpR op a b = some r) : evT X t r = opI op (evT X t a) (evT X t b) := by
  unfold cmpR at h
  split at h
  · rename_i h1
    simp only [Bool.and_eq_true, decide_eq_true_eq] at h1
    cases h
    obtain ⟨⟨h1, h2⟩, h3⟩ := h1
    have e1 : evT X t a = cI a := by
      have := (isPt_pt ha h1).1
      rw [this]; rfl
    have e2 : evT X t b = cI b := by
      have := (isPt_pt hb h2).1
      rw [this]; rfl
    rw [e1, e2, evT_pt]
    exact Prod.ext rfl h3
  · cases h
theorem ev_red2 {X : List (Int × Int)} {t : Int × Int} {N op : Int} {a b r : Ex} (hX : ∀ p ∈ X, VI p.1 p.2) (ht : VI t.1 t.2) (hop : op = 7 ∨ op = 8 ∨ op = 9 ∨ op = 10) (ha : EV N a) (hb : EV N b) (h : red2 op a b = some r) : SbI (evT X t r) (opI op (evT X t a) (evT X t b)) := by
  have va := evT_vi hX ht ha
  have vb := evT_vi hX ht hb
  unfold red2 at h
  split at h
  · rename_i h7
    subst h7
    split at h
    · rename_i h1
      cases h
      rw [isC_pt ha h1, evT_pt, add_0l vb]; exact sbI_refl _
    split at h
    · rename_i h1
      cases h
      rw [isC_pt hb h1, evT_pt, add_0r va]; exact sbI_refl _
    exact sbI_eq (ev_cmp ha hb h)
  split at h
  · rename_i h7
    subst h7
    split at h
    · rename_i h1
      cases h
      rw [isC_pt hb h1, evT_pt, sub_0r va]; exact sbI_refl _
    split at h
    · rename_i h1
      cases h
      rw [isC_pt ha h1, evT_pt, sub_0l vb]
      exact ev_s1 (x := ndo 4) hX ht (.inl rfl) hb
    exact sbI_eq (ev_cmp ha hb h)
  split at h
  · rename_i h7
    subst h7
    split at h
    · rename_i h1
      cases h
      rw [isC_pt ha h1, evT_pt]; exact mul_0l _
    split at h
    · rename_i h1
      cases h
      simp only [Bool.or_eq_true] at h1
      rcases h1 with h1 | h1
      · rw [isC_pt hb h1, evT_pt]; exact mul_0r _
      · rw [isC_pt ha h1, evT_pt, mul_1l vb]; exact sbI_refl _
    split at h
    · rename_i h1
      cases h
      rw [isC_pt hb h1, evT_pt, mul_1r va]; exact sbI_refl _
    exact sbI_eq (ev_cmp ha hb h)
  · obtain rfl : op = 10 := by omega
    split at h
    · rename_i h1
      cases h
      simp only [Bool.or_eq_true] at h1
      rcases h1 with h1 | h1
      · rw [isC_pt ha h1, evT_pt]; exact div_0l _
      · rw [isC_pt hb h1, evT_pt, div_1r va]; exact sbI_refl _
    · cases h
theorem ev_s2 {X : List (Int × Int)} {t : Int × Int} {N : Int} {x : Nd} {a b : Ex} (hX : ∀ p ∈ X, VI p.1 p.2) (ht : VI t.1 t.2) (hop : x.op = 7 ∨ x.op = 8 ∨ x.op = 9 ∨ x.op = 10) (ha : EV N a) (hb : EV N b) : SbI (evT X t (s2 x a b)) (opI x.op (evT X t a) (evT X t b)) := by
  unfold s2
  cases h : red2 x.op a b with
  | none => rw [Option.getD_none, evT_two]; exact sbI_refl _
  | some r => exact ev_red2 hX ht hop ha hb h
theorem ev_sT {X : List (Int × Int)} {t : Int × Int} {N : Int} (hX : ∀ p ∈ X, VI p.1 p.2) (ht : VI t.1 t.2) : ∀ {e : Ex}, EV N e → SbI (evT X t (sT e)) (evT X t e)
  | .e0 x, _ => sbI_refl _
  | .e1 x a, h => by
    have ih := ev_sT hX ht h.2
    have v1 := evT_vi hX ht (sT_ev h.2)
    have v2 := evT_vi hX ht h.2
    rw [evT_one]
    exact sbI_trans (ev_s1 hX ht (ar_one h.1.1) (sT_ev h.2)) (opI_iso x.op v1 v1 v2 v2 ih ih)
  | .e2 x a b, h => by
    have i1 := ev_sT hX ht h.2.1
    have i2 := ev_sT hX ht h.2.2
    rw [evT_two]
    exact sbI_trans (ev_s2 hX ht (ar_two h.1.1) (sT_ev h.2.1) (sT_ev h.2.2)) (opI_iso x.op (evT_vi hX ht (sT_ev h.2.1)) (evT_vi hX ht (sT_ev h.2.2)) (evT_vi hX ht h.2.1) (evT_vi hX ht h.2.2) i1 i2)
end Go.Proofs.YtbppfohcicepcaaGreat
namespace Go.Proofs.YtbppfohcicepcaaGreat
open Go.ChangeShapes Go.WideShapes Go.ChangeAt Go.RowKit
set_option linter.unusedVariables false
set_option linter.unusedSimpArgs false
set_option maxRecDepth 100000
attribute [local irreducible] Calls
/-- A term's block: its root and its operands. -/
def TmC (W : World) (b : Nat) (x : Nd) (S : Value) : Prop := W.heap[b]? = some (.cells #[.int .i64 x.op, .int .i64 x.n, .int .i64 x.lo, .int .i64 x.hi, S] 89 (0, 0))
section
variable {W W' : World} {b : Nat} {x : Nd} {S : Value}
theorem TmC.lt (h : TmC W b x S) : b < W.heap.size := (Array.getElem?_eq_some_iff.1 h).1
theorem TmC.c0 (h : TmC W b x S) : W.cell? ⟨b, 0, none⟩ = some (.int .i64 x.op) := by simp [World.cell?, show W.heap[b]? = _ from h]
theorem TmC.c1 (h : TmC W b x S) : W.cell? ⟨b, 1, none⟩ = some (.int .i64 x.n) := by simp [World.cell?, show W.heap[b]? = _ from h]
theorem TmC.c2 (h : TmC W b x S) : W.cell? ⟨b, 2, none⟩ = some (.int .i64 x.lo) := by simp [World.cell?, show W.heap[b]? = _ from h]
theorem TmC.c3 (h : TmC W b x S) : W.cell? ⟨b, 3, none⟩ = some (.int .i64 x.hi) := by simp [World.cell?, show W.heap[b]? = _ from h]
theorem TmC.c4 (h : TmC W b x S) : W.cell? ⟨b, 4, none⟩ = some S := by simp [World.cell?, show W.heap[b]? = _ from h]
theorem TmC.grow (h : TmC W b x S) (hB : Below W.heap.size W W') : TmC W' b x S := (hB.block b h.lt).trans h
theorem TmC.new (W : World) (x : Nd) (S : Value) : TmC (W.alloc (.cells #[.int .i64 x.op, .int .i64 x.n, .int .i64 x.lo, .int .i64 x.hi, S] 89)) W.heap.size x S := World.alloc_heap_new W _
end
variable {Fz : Nat}
/-- The pointer v leads to the term T, whose blocks lie from Fz on. -/
def TmP (Fz : Nat) (w : World) : Value → Ex → Prop
  | v, .e0 x => ∃ b p c, v = .pointer (some ⟨b, 0, none⟩) ∧ TmC w b x (.slice p 0 c) ∧ Fz ≤ b
  | v, .e1 x a => ∃ b r o c u, v = .pointer (some ⟨b, 0, none⟩) ∧ TmC w b x (.slice (some ⟨r, o, none⟩) 1 c) ∧ w.cell? ⟨r, o, none⟩ = some u ∧ TmP Fz w u a ∧ Fz ≤ b ∧ Fz ≤ r
  | v, .e2 x a a' => ∃ b r o c u u', v = .pointer (some ⟨b, 0, none⟩) ∧ TmC w b x (.slice (some ⟨r, o, none⟩) 2 c) ∧ w.cell? ⟨r, o, none⟩ = some u ∧ w.cell? ⟨r, o + 1, none⟩ = some u' ∧ TmP Fz w u a ∧ TmP Fz w u' a' ∧ Fz ≤ b ∧ Fz ≤ r
theorem cell_lt {w : World} {b o : Nat} {u : Value} (h : w.cell? ⟨b, o, none⟩ = some u) : b < w.heap.size := by
  unfold World.cell? at h
  cases hb : w.heap[b]? with
  | none => simp [hb] at h
  | some x => exact (Array.getElem?_eq_some_iff.1 hb).1
theorem cell_grow {w w' : World} {b o : Nat} {u : Value} (h : w.cell? ⟨b, o, none⟩ = some u) (hb : Below w.heap.size w w') : w'.cell? ⟨b, o, none⟩ = some u := (hb.cell (p := ⟨b, o, none⟩) (cell_lt h)).trans h
theorem TmP.grow {w w' : World} (hb : Below w.heap.size w w') : ∀ {T : Ex} {v : Value}, TmP Fz w v T → TmP Fz w' v T
  | .e0 x, v, h => by
    obtain ⟨b, p, c, e, h1, hf⟩ := h
    exact ⟨b, p, c, e, h1.grow hb, hf⟩
  | .e1 x a, v, h => by
    obtain ⟨b, r, o, c, u, e, h1, h2, h3, hf⟩ := h
    exact ⟨b, r, o, c, u, e, h1.grow hb, cell_grow h2 hb, h3.grow hb, hf⟩
  | .e2 x a a', v, h => by
    obtain ⟨b, r, o, c, u, u', e, h1, h2, h2', h3, h3', hf⟩ := h
    exact ⟨b, r, o, c, u, u', e, h1.grow hb, cell_grow h2 hb, cell_grow h2' hb, h3.grow hb, h3'.grow hb, hf⟩
theorem TmP.root {w : World} : ∀ {T : Ex} {v : Value}, TmP Fz w v T → ∃ b S, v = .pointer (some ⟨b, 0, none⟩) ∧ TmC w b (rtN T) S
  | .e0 x, v, ⟨b, p, c, e, h1, _⟩ => ⟨b, _, e, h1⟩
  | .e1 x a, v, ⟨b, r, o, c, u, e, h1, _⟩ => ⟨b, _, e, h1⟩
  | .e2 x a a', v, ⟨b, r, o, c, u, u', e, h1, _⟩ => ⟨b, _, e, h1⟩
theorem TmP.fz {w : World} : ∀ {T : Ex} {v : Value}, TmP Fz w v T → Fz ≤ w.heap.size
  | .e0 x, v, ⟨b, p, c, e, h1, hf⟩ => by have := h1.lt; omega
  | .e1 x a, v, ⟨b, r, o, c, u, e, h1, _, _, hf, _⟩ => by have := h1.lt; omega
  | .e2 x a a', v, ⟨b, r, o, c, u, u', e, h1, _, _, _, _, hf, _⟩ => by have := h1.lt; omega
theorem TmP.low {F : Nat} (hF : F ≤ Fz) {w : World} : ∀ {T : Ex} {v : Value}, TmP Fz w v T → TmP F w v T
  | .e0 x, v, ⟨b, p, c, e, h1, hf⟩ => ⟨b, p, c, e, h1, by omega⟩
  | .e1 x a, v, ⟨b, r, o, c, u, e, h1, h2, h3, hf, hf'⟩ => ⟨b, r, o, c, u, e, h1, h2, h3.low hF, by omega, by omega⟩
  | .e2 x a a', v, ⟨b, r, o, c, u, u', e, h1, h2, h2', h3, h3', hf, hf'⟩ => ⟨b, r, o, c, u, u', e, h1, h2, h2', h3.low hF, h3'.low hF, by omega, by omega⟩
/-- A store to a block below Fz, a row that grows there. -/
theorem TmP.keep {w w' : World} {row : Option Nat} (hg : w.grownBy w' row) (hr : ∀ k, row = some k → k < Fz) : ∀ {T : Ex} {v : Value}, TmP Fz w v T → TmP Fz w' v T := by
  have hb : ∀ {b : Nat} {x : Nd} {S : Value}, TmC w b x S → Fz ≤ b → TmC w' b x S := fun h hf => (hg.block _ h.lt (fun e => by have := hr _ e.symm; omega)).trans h
  have hc : ∀ {b o : Nat} {u : Value}, w.cell? ⟨b, o, none⟩ = some u → Fz ≤ b → w'.cell? ⟨b, o, none⟩ = some u := fun h hf => (World.cell?_of_block (a := ⟨_, _, none⟩) (hg.block _ (cell_lt h) (fun e => by have := hr _ e.symm; dsimp only at this; omega))).trans h
  intro T
  induction T with
  | e0 x => exact fun ⟨b, p, c, e, h1, hf⟩ => ⟨b, p, c, e, hb h1 hf, hf⟩
  | e1 x a ih => exact fun ⟨b, r, o, c, u, e, h1, h2, h3, hf, hf'⟩ => ⟨b, r, o, c, u, e, hb h1 hf, hc h2 hf', ih h3, hf, hf'⟩
  | e2 x a a' ih ih' => exact fun ⟨b, r, o, c, u, u', e, h1, h2, h2', h3, h3', hf, hf'⟩ => ⟨b, r, o, c, u, u', e, hb h1 hf, hc h2 hf', hc h2' hf', ih h3, ih' h3', hf, hf'⟩
theorem grows_tm : Grows (TmP Fz) := fun _ _ _ _ h hb => h.grow hb
/-- Operands in memory. -/
abbrev TmS (Fz : Nat) := Lx (TmP Fz)
theorem number_ok (c : Int) (w : World) (hc : Num c) (hF : Fz ≤ w.heap.size) : Calls Tryz.prog 55 #[.int .i64 c] w fun e w' => ∃ v, e = .returned v ∧ TmP Fz w' v (pt c) ∧ Below w.heap.size w w' := by
  have K := iv_point c w
  rw [show mkLo c c = c by unfold mkLo; rw [if_pos ⟨hc, hc⟩], show mkHi c c = c by unfold mkHi; rw [if_pos ⟨hc, hc⟩]] at K
  have K := Lib.hid K
  clear hc
  go_enter Tryz.func55, Tryz.ntmps55
  go_wp2_with (fail)
  refine K.out.mono ?_
  rintro e w1 ⟨rfl, hB⟩
  go_wp2_with (fail)
  go_ret
  exact ⟨_, rfl, ⟨_, none, 0, rfl, TmC.new w1 ⟨1, 0, c, c⟩ (.slice none 0 0), Nat.le_trans hF hB.size⟩, hB.alloc hB.size _⟩
theorem ispt_ok (v : Value) (T : Ex) (w : World) (h : TmP Fz w v T) : Calls Tryz.prog 127 #[v] w fun e w' => e = .returned (.bool (isPt T)) ∧ Below w.heap.size w w' := by
  obtain ⟨b, S, rfl, hc⟩ := h.root
  clear h
  have x0 := hc.c0
  have x2 := hc.c2
  have x3 := hc.c3
  unfold isPt
  generalize rtN T = x at *
  obtain ⟨op, n, lo, hi⟩ := x
  dsimp only at x0 x2 x3 ⊢
  clear hc
  by_cases h1 : op = 1
  · subst h1
    by_cases h2 : lo = hi
    · subst h2
      go_enter Tryz.func127, Tryz.ntmps127
      go_wp2_with (fail)
      go_quiet (fail)
      go_wp2_with (fail)
      go_ret
      exact ⟨by simp, below_drewN (Below.refl _ _) _⟩
    · have q : (lo == hi) = false := by simpa using h2
      go_enter Tryz.func127, Tryz.ntmps127
      go_wp2_with (fail)
      go_quiet (fail)
      go_wp2_with (fail)
      go_ret
      exact ⟨by simp [h2], below_drewN (Below.refl _ _) _⟩
  · have q : (op == 1) = false := by simpa using h1
    go_enter Tryz.func127, Tryz.ntmps127
    go_wp2_with (fail)
    go_quiet (fail)
    go_wp2_with (fail)
    go_ret
    exact ⟨by simp [h1], below_drewN (Below.refl _ _) _⟩
theorem isc_ok (c : Int) (v : Value) (T : Ex) (w : World) (h : TmP Fz w v T) : Calls Tryz.prog 99 #[v, .int .i64 c] w fun e w' => e = .returned (.bool (isC c T)) ∧ Below w.heap.size w w' := by
  have K := Lib.hid (ispt_ok v T w h)
  have H := Lib.hid h
  obtain ⟨b, S, rfl, hc⟩ := h.root
  clear h
  unfold isC
  generalize hq : isPt T = q at *
  clear hq hc
  generalize hlo : (rtN T).lo = lo
  have HL := Lib.hid hlo
  clear hlo
  go_enter Tryz.func99, Tryz.ntmps99
  go_wp2_with (fail)
  refine K.out.mono ?_
  rintro e w1 ⟨rfl, hB⟩
  obtain ⟨b', S', eb, hc⟩ := (H.out.grow hB).root
  cases eb
  have x2 := hc.c2
  rw [HL.out] at x2
  clear hc HL
  have HB := Lib.hid hB
  clear hB K H
  cases q
  · go_wp2_with (fail)
    go_ret
    exact ⟨by simp, HB.out⟩
  · by_cases h2 : lo = c
    · subst h2
      go_wp2_with (fail)
      go_ret
      exact ⟨by simp, HB.out⟩
    · have q : (lo == c) = false := by simpa using h2
      go_wp2_with (fail)
      go_ret
      exact ⟨by simp [h2], HB.out⟩
/-- A term or nil. -/
def TmO (Fz : Nat) (w : World) (v : Value) : Option Ex → Prop
  | none => v = .pointer none
  | some T => TmP Fz w v T
theorem rneg_ok (N : Int) (v : Value) (T : Ex) (w : World) (h : TmP Fz w v T) (he : EV N T) : Calls Tryz.prog 98 #[v] w fun e w' => ∃ u, e = .returned u ∧ TmO Fz w' u (negR T) ∧ Below w.heap.size w w' := by
  have K := Lib.hid (ispt_ok v T w h)
  have H := Lib.hid h
  have hF := h.fz
  unfold negR
  obtain ⟨b, S0, rfl, _⟩ := h.root
  clear h
  cases hp : isPt T with
  | true =>
    rw [hp] at K
    obtain ⟨_, hn⟩ := isPt_pt he hp
    have hn1 : -2147483648 < (rtN T).lo := hn.1
    have hn2 : (rtN T).lo < 2147483648 := hn.2
    have KN := Lib.hid (fun (w1 : World) (hB : Below w.heap.size w w1) => number_ok (Fz := Fz) (-(rtN T).lo) w1 (by unfold Num at *; omega) (Nat.le_trans hF hB.size))
    rw [if_pos rfl]
    clear hn hp he
    generalize hlo : (rtN T).lo = lo at *
    have HL := Lib.hid hlo
    clear hlo
    go_enter Tryz.func98, Tryz.ntmps98
    go_wp2_with (fail)
    refine K.out.mono ?_
    rintro e w1 ⟨rfl, hB⟩
    obtain ⟨b', S', eb, hc⟩ := (H.out.grow hB).root
    cases eb
    have x2 := hc.c2
    rw [HL.out] at x2
    have HB := Lib.hid hB
    clear hc H hB HL
    go_wp2_with (fail)
    refine (KN.out _ HB.out).mono ?_
    rintro e w2 ⟨u, rfl, hu, hB2⟩
    have HU := Lib.hid hu
    have HB2 := Lib.hid (below_then HB.out hB2)
    clear hu hB2
    go_wp2_with (fail)
    go_ret
    exact ⟨_, rfl, HU.out, HB2.out⟩
  | false =>
    rw [hp] at K
    rw [if_neg (by decide)]
    by_cases h4 : (rtN T).op = 4
    · obtain ⟨x, a, rfl, hx, ha⟩ := op4_arg he h4
      rw [if_pos h4]
      clear h4 he hp ha
      go_enter Tryz.func98, Tryz.ntmps98
      go_wp2_with (fail)
      refine K.out.mono ?_
      rintro e w1 ⟨rfl, hB⟩
      obtain ⟨b', r, o, c, u, eb, h1, h2, h3, _⟩ := H.out.grow hB
      cases eb
      have x0 := h1.c0
      have x4 := h1.c4
      rw [hx] at x0
      have H3 := Lib.hid h3
      have HB := Lib.hid hB
      clear h1 h3 H hx hB
      go_wp2_with (fail)
      go_ret
      exact ⟨_, rfl, H3.out, HB.out⟩
    · rw [if_neg h4]
      have q : ((rtN T).op == 4) = false := by simpa using h4
      clear h4 he hp
      go_enter Tryz.func98, Tryz.ntmps98
      go_wp2_with (fail)
      refine K.out.mono ?_
      rintro e w1 ⟨rfl, hB⟩
      obtain ⟨b', S', eb, hc⟩ := (H.out.grow hB).root
      cases eb
      have x0 := hc.c0
      have HB := Lib.hid hB
      clear hc H hB
      generalize (rtN T).op = op at *
      go_wp2_with (fail)
      go_ret
      exact ⟨_, rfl, rfl, HB.out⟩
end Go.Proofs.YtbppfohcicepcaaGreat
