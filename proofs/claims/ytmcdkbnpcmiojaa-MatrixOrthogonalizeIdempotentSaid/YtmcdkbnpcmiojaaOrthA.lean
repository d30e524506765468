/-
  Vectors of four integers: dot products, one step of the reduction and what its rounding leaves, the whole reduction, what is left of an axis.
  Orthogonalize on numbers below 2^24 in up to four dimensions: its columns are nearly of the length One and nearly at right angles.
-/
import Derived.Test.YtmcdkbnpcmiojaaMath
import Derived.Test.YtmcdkbnpcmiojaaVec
namespace Go.Proofs.Ytmcdkbnpcmiojaa
set_option linter.unusedVariables false
set_option linter.unusedSimpArgs false
structure V4 where
  a : Int
  b : Int
  c : Int
  d : Int
def V4.dot (v u : V4) : Int := v.a * u.a + v.b * u.b + v.c * u.c + v.d * u.d
/-- The part of w along u, as it is rounded. -/
def V4.al (w u : V4) : Int := dn (w.a * u.a) 65536 + dn (w.b * u.b) 65536 + dn (w.c * u.c) 65536 + dn (w.d * u.d) 65536
def V4.wo (w u : V4) : V4 := ⟨w.a - dn (w.al u * u.a) 65536, w.b - dn (w.al u * u.b) 65536, w.c - dn (w.al u * u.c) 65536, w.d - dn (w.al u * u.d) 65536⟩
theorem V4.dot_comm (v u : V4) : v.dot u = u.dot v := by unfold V4.dot; grind
theorem sq4_nn (x : Int) : 0 ≤ x * x := by
  rcases Int.le_total 0 x with h | h
  · exact Int.mul_nonneg h h
  · exact Int.mul_nonneg_of_nonpos_of_nonpos h h
theorem V4.self_nn (v : V4) : 0 ≤ v.dot v := by
  unfold V4.dot
  have := sq4_nn v.a
  have := sq4_nn v.b
  have := sq4_nn v.c
  have := sq4_nn v.d
  omega
/-- Lagrange's identity, as an inequality. -/
theorem V4.cs (v u : V4) : v.dot u * v.dot u ≤ v.dot v * u.dot u := by
  have h1 := sq4_nn (v.a * u.b - v.b * u.a)
  have h2 := sq4_nn (v.a * u.c - v.c * u.a)
  have h3 := sq4_nn (v.a * u.d - v.d * u.a)
  have h4 := sq4_nn (v.b * u.c - v.c * u.b)
  have h5 := sq4_nn (v.b * u.d - v.d * u.b)
  have h6 := sq4_nn (v.c * u.d - v.d * u.c)
  have e : v.dot v * u.dot u - v.dot u * v.dot u = (v.a * u.b - v.b * u.a) * (v.a * u.b - v.b * u.a) + (v.a * u.c - v.c * u.a) * (v.a * u.c - v.c * u.a) + (v.a * u.d - v.d * u.a) * (v.a * u.d - v.d * u.a) + (v.b * u.c - v.c * u.b) * (v.b * u.c - v.c * u.b) + (v.b * u.d - v.d * u.b) * (v.b * u.d - v.d * u.b) + (v.c * u.d - v.d * u.c) * (v.c * u.d - v.d * u.c) := by
    unfold V4.dot
    grind
  omega
theorem abs_sq {x y : Int} (hy : 0 ≤ y) (h : x * x ≤ y * y) : -y ≤ x ∧ x ≤ y := by
  constructor
  · refine Int.not_lt.1 fun q => ?_
    have h1 : y + 1 ≤ -x := by omega
    have h2 := Int.mul_le_mul h1 h1 (by omega) (by omega)
    have e : -x * -x = x * x := by grind
    have e2 : (y + 1) * (y + 1) = y * y + 2 * y + 1 := by grind
    omega
  · refine Int.not_lt.1 fun q => ?_
    have h1 : y + 1 ≤ x := by omega
    have h2 := Int.mul_le_mul h1 h1 (by omega) (by omega)
    have e2 : (y + 1) * (y + 1) = y * y + 2 * y + 1 := by grind
    omega
theorem mul_le_sq {x y a b : Int} (h1 : x ≤ a) (h2 : y ≤ b) (h3 : 0 ≤ y) (h4 : 0 ≤ a) : x * y ≤ a * b := Int.mul_le_mul h1 h2 h3 h4
/-- A dot product with a vector that is bounded, from the square roots of bounds. -/
theorem V4.cs_bd {v u : V4} {A B : Int} (hA : 0 ≤ A) (hB : 0 ≤ B) (h1 : v.dot v ≤ A * A) (h2 : u.dot u ≤ B * B) : -(A * B) ≤ v.dot u ∧ v.dot u ≤ A * B := by
  refine abs_sq (Int.mul_nonneg hA hB) (Int.le_trans (v.cs u) ?_)
  have := Int.mul_le_mul h1 h2 u.self_nn (Int.mul_nonneg hA hA)
  have e : A * A * (B * B) = A * B * (A * B) := by grind
  omega
/-- What rounding leaves: every component between 0 and E. -/
def V4.within (r : V4) (E : Int) : Prop := (0 ≤ r.a ∧ r.a ≤ E) ∧ (0 ≤ r.b ∧ r.b ≤ E) ∧ (0 ≤ r.c ∧ r.c ≤ E) ∧ (0 ≤ r.d ∧ r.d ≤ E)
theorem V4.within_sq {r : V4} {E : Int} (h : r.within E) : r.dot r ≤ (2 * E) * (2 * E) := by
  obtain ⟨⟨a1, a2⟩, ⟨b1, b2⟩, ⟨c1, c2⟩, ⟨d1, d2⟩⟩ := h
  have := Int.mul_le_mul a2 a2 a1 (by omega)
  have := Int.mul_le_mul b2 b2 b1 (by omega)
  have := Int.mul_le_mul c2 c2 c1 (by omega)
  have := Int.mul_le_mul d2 d2 d1 (by omega)
  have e : (2 * E) * (2 * E) = E * E + E * E + E * E + E * E := by grind
  unfold V4.dot
  omega
theorem dn_rest (n : Int) : 0 ≤ n - 65536 * dn n 65536 ∧ n - 65536 * dn n 65536 ≤ 65535 := by
  have := dn_mul n (d := 65536) (by decide)
  omega
/-- One step, without its rounding: c is the part, s what its sum leaves, r what the step leaves. -/
structure Stp (w u w' : V4) (c s : Int) (r : V4) : Prop where
  s0 : 0 ≤ s
  s1 : s ≤ 262140
  rw : r.within 65535
  hc : 65536 * c = w.dot u - s
  ha : 65536 * w'.a = 65536 * w.a - c * u.a + r.a
  hb : 65536 * w'.b = 65536 * w.b - c * u.b + r.b
  hcc : 65536 * w'.c = 65536 * w.c - c * u.c + r.c
  hd : 65536 * w'.d = 65536 * w.d - c * u.d + r.d
theorem stp (w u : V4) : ∃ c s r, Stp w u (w.wo u) c s r := by
  have a1 := dn_rest (w.a * u.a)
  have a2 := dn_rest (w.b * u.b)
  have a3 := dn_rest (w.c * u.c)
  have a4 := dn_rest (w.d * u.d)
  have b1 := dn_rest (w.al u * u.a)
  have b2 := dn_rest (w.al u * u.b)
  have b3 := dn_rest (w.al u * u.c)
  have b4 := dn_rest (w.al u * u.d)
  refine ⟨w.al u, w.dot u - 65536 * w.al u, ⟨w.al u * u.a - 65536 * dn (w.al u * u.a) 65536, w.al u * u.b - 65536 * dn (w.al u * u.b) 65536, w.al u * u.c - 65536 * dn (w.al u * u.c) 65536, w.al u * u.d - 65536 * dn (w.al u * u.d) 65536⟩, ?_, ?_, ⟨b1, b2, b3, b4⟩, by omega, ?_, ?_, ?_, ?_⟩
  · unfold V4.dot V4.al; omega
  · unfold V4.dot V4.al; omega
  · unfold V4.wo; dsimp only; omega
  · unfold V4.wo; dsimp only; omega
  · unfold V4.wo; dsimp only; omega
  · unfold V4.wo; dsimp only; omega
theorem Stp.dot {w u w' r : V4} {c s : Int} (h : Stp w u w' c s r) (q : V4) : 65536 * w'.dot q = 65536 * w.dot q - c * u.dot q + r.dot q := by
  have e1 := congrArg (· * q.a) h.ha
  have e2 := congrArg (· * q.b) h.hb
  have e3 := congrArg (· * q.c) h.hcc
  have e4 := congrArg (· * q.d) h.hd
  unfold V4.dot
  grind
/-- A column of the frame: nearly of the length One. -/
def V4.nrm (q : V4) : Prop := 4292345856 ≤ q.dot q ∧ q.dot q ≤ 4297588736
theorem V4.nrm_sq {q : V4} (h : q.nrm) : q.dot q ≤ 65556 * 65556 := Int.le_trans h.2 (by decide)
theorem Stp.rq {w u w' r : V4} {c s : Int} (h : Stp w u w' c s r) {q : V4} (hq : q.nrm) : -8592424920 ≤ r.dot q ∧ r.dot q ≤ 8592424920 := by
  have := V4.cs_bd (A := 2 * 65535) (B := 65556) (by decide) (by decide) (V4.within_sq h.rw) (V4.nrm_sq hq)
  omega
/-- The part that is left along u itself. -/
theorem Stp.self {w u w' r : V4} {c s A B : Int} (h : Stp w u w' c s r) (hu : u.nrm) (h1 : -A ≤ w.dot u) (h2 : w.dot u ≤ A) (hB : 40 * A + 25784000000 ≤ 65536 * B) : -B ≤ w'.dot u ∧ w'.dot u ≤ B := by
  have e := h.dot u
  have hr := h.rq hu
  have hc := h.hc
  obtain ⟨n1, n2⟩ := hu
  have s0 := h.s0
  have s1 := h.s1
  have e2 : 65536 * (65536 * w'.dot u) = w.dot u * (4294967296 - u.dot u) + s * u.dot u + 65536 * r.dot u := by
    have : 65536 * (c * u.dot u) = (w.dot u - s) * u.dot u := by rw [← hc]; grind
    grind
  generalize u.dot u = N at *
  generalize w.dot u = x at *
  generalize r.dot u = y at *
  generalize w'.dot u = z at *
  have m1 : -(A * 2621440) ≤ x * (4294967296 - N) ∧ x * (4294967296 - N) ≤ A * 2621440 := by
    have hA : 0 ≤ A := by omega
    have p1 := Int.mul_nonneg (show 0 ≤ A - x by omega) (show 0 ≤ 2621440 - (4294967296 - N) by omega)
    have p2 := Int.mul_nonneg (show 0 ≤ A + x by omega) (show 0 ≤ 2621440 - (4294967296 - N) by omega)
    have p3 := Int.mul_nonneg (show 0 ≤ A - x by omega) (show 0 ≤ 2621440 + (4294967296 - N) by omega)
    have p4 := Int.mul_nonneg (show 0 ≤ A + x by omega) (show 0 ≤ 2621440 + (4294967296 - N) by omega)
    grind
  have m2 : 0 ≤ s * N ∧ s * N ≤ 262140 * 4297588736 := ⟨Int.mul_nonneg s0 (by omega), Int.mul_le_mul s1 n2 (by omega) (by omega)⟩
  omega
/-- What a step changes along another column. -/
theorem Stp.other {w u w' r : V4} {c s A C D B : Int} (h : Stp w u w' c s r) {q : V4} (hq : q.nrm) (h1 : -A ≤ w.dot u) (h2 : w.dot u ≤ A) (g1 : -C ≤ w.dot q) (g2 : w.dot q ≤ C) (d1 : -(65536 * D) ≤ u.dot q) (d2 : u.dot q ≤ 65536 * D)
    (hB : 65536 * C + D * (A + 262140) + 8592424920 ≤ 65536 * B) : -B ≤ w'.dot q ∧ w'.dot q ≤ B := by
  have e := h.dot q
  have hr := h.rq hq
  have hc := h.hc
  have s0 := h.s0
  have s1 := h.s1
  have hA : 0 ≤ A := by omega
  have m : -(D * (A + 262140)) ≤ c * u.dot q ∧ c * u.dot q ≤ D * (A + 262140) := by
    have c1 : 65536 * c ≤ A + 262140 := by omega
    have c2 : -(A + 262140) ≤ 65536 * c := by omega
    generalize A + 262140 = F at *
    generalize u.dot q = y at *
    have p1 := Int.mul_nonneg (show 0 ≤ F - 65536 * c by omega) (show 0 ≤ 65536 * D - y by omega)
    have p2 := Int.mul_nonneg (show 0 ≤ F + 65536 * c by omega) (show 0 ≤ 65536 * D - y by omega)
    have p3 := Int.mul_nonneg (show 0 ≤ F - 65536 * c by omega) (show 0 ≤ 65536 * D + y by omega)
    have p4 := Int.mul_nonneg (show 0 ≤ F + 65536 * c by omega) (show 0 ≤ 65536 * D + y by omega)
    grind
  omega
/-- The length does not grow, up to rounding. -/
theorem Stp.norm {w u w' r : V4} {c s : Int} (h : Stp w u w' c s r) (hu : u.nrm) (hw : w.dot w ≤ 33554532 * 33554532) : w'.dot w' ≤ w.dot w + 134218240 := by
  have hr := h.rq hu
  have hwr := V4.cs_bd (v := w) (u := r) (A := 33554532) (B := 2 * 65535) (by decide) (by decide) hw (V4.within_sq h.rw)
  have hrr := V4.within_sq h.rw
  have hrn := r.self_nn
  have e : 65536 * (65536 * w'.dot w') = 65536 * (65536 * w.dot w) - 2 * 65536 * (c * w.dot u) + c * c * u.dot u + 2 * 65536 * w.dot r - 2 * (c * r.dot u) + r.dot r := by
    have e1 := congrArg (fun x => x * x) h.ha
    have e2 := congrArg (fun x => x * x) h.hb
    have e3 := congrArg (fun x => x * x) h.hcc
    have e4 := congrArg (fun x => x * x) h.hd
    unfold V4.dot
    grind
  have e2 : 2 * 65536 * (c * w.dot u) = 2 * 4294967296 * (c * c) + 2 * 65536 * (c * s) := by
    have : w.dot u = 65536 * c + s := by have := h.hc; omega
    rw [this]
    grind
  obtain ⟨n1, n2⟩ := hu
  have s0 := h.s0
  have s1 := h.s1
  have q1 := Int.mul_nonneg (sq4_nn c) (show 0 ≤ 4297588736 - u.dot u by omega)
  have q2 : c * c * (4297588736 - u.dot u) = 4297588736 * (c * c) - c * c * u.dot u := by grind
  -- the absolute value of c
  obtain ⟨k, hk0, hk1, hk2, hk3⟩ : ∃ k, 0 ≤ k ∧ c * c = k * k ∧ -(k * 262140) ≤ c * s ∧ -(k * 8592424920) ≤ c * r.dot u := by
    rcases Int.le_total 0 c with g | g
    · exact ⟨c, g, rfl, by
        have := Int.mul_nonneg g s0
        have := Int.mul_nonneg g (show (0 : Int) ≤ 262140 by decide)
        omega, by
        have := Int.mul_nonneg g (show 0 ≤ r.dot u + 8592424920 by omega)
        rw [Int.mul_add] at this
        omega⟩
    · exact ⟨-c, by omega, by grind, by
        have := Int.mul_nonneg (show 0 ≤ -c by omega) (show 0 ≤ 262140 - s by omega)
        grind, by
        have := Int.mul_nonneg (show 0 ≤ -c by omega) (show 0 ≤ 8592424920 - r.dot u by omega)
        grind⟩
  have q3 : 0 ≤ (k - 6) * (k - 7) := by
    rcases Int.le_total k 6 with g | g
    · have := Int.mul_nonneg (show 0 ≤ 6 - k by omega) (show 0 ≤ 7 - k by omega)
      grind
    · rcases Int.lt_or_le k 7 with g2 | g2
      · obtain rfl : k = 6 := by omega
        decide
      · exact Int.mul_nonneg (by omega) (by omega)
  have q4 : (k - 6) * (k - 7) = k * k - 13 * k + 42 := by grind
  generalize c * c = cc at *
  generalize hkk : k * k = kk at *
  generalize w.dot w = W at *
  generalize w'.dot w' = W' at *
  generalize c * s = cs at *
  generalize c * r.dot u = cr at *
  generalize w.dot r = wr at *
  generalize r.dot r = rr at *
  generalize cc * u.dot u = ku at *
  omega
/-- An inner product of at most A in magnitude. -/
def DB (w q : V4) (A : Int) : Prop := -A ≤ w.dot q ∧ w.dot q ≤ A
theorem self_bd {w u : V4} {A B : Int} (hu : u.nrm) (h : DB w u A) (hB : 40 * A + 25784000000 ≤ 65536 * B) : DB (w.wo u) u B := by
  obtain ⟨c, s, r, hs⟩ := stp w u
  exact hs.self hu h.1 h.2 hB
theorem other_bd {w u q : V4} {A C D B : Int} (hq : q.nrm) (h : DB w u A) (g : DB w q C) (d : DB u q (65536 * D)) (hB : 65536 * C + D * (A + 262140) + 8592424920 ≤ 65536 * B) : DB (w.wo u) q B := by
  obtain ⟨c, s, r, hs⟩ := stp w u
  exact hs.other hq h.1 h.2 g.1 g.2 d.1 d.2 hB
theorem norm_bd {w u : V4} {t : Int} (hu : u.nrm) (t0 : 0 ≤ t) (t1 : t ≤ 20) (h : w.dot w ≤ 1125899906842624 + t * 134218240) : (w.wo u).dot (w.wo u) ≤ 1125899906842624 + (t + 1) * 134218240 := by
  obtain ⟨c, s, r, hs⟩ := stp w u
  have := hs.norm hu (by omega)
  omega
theorem start_bd {w q : V4} (hq : q.nrm) (h : w.dot w ≤ 1125899906842624) : DB w q 2199700899792 := V4.cs_bd (A := 33554532) (B := 65556) (by decide) (by decide) (by omega) (V4.nrm_sq hq)
theorem DB.symm {w q : V4} {A : Int} (h : DB w q A) : DB q w A := by unfold DB at *; rw [V4.dot_comm]; exact h
theorem DB.mono {w q : V4} {A B : Int} (h : DB w q A) (hAB : A ≤ B) : DB w q B := ⟨by have := h.1; omega, by have := h.2; omega⟩
/-- One pass over the frame, and the reduction. -/
def pass4 (fs : List V4) (w : V4) : V4 := fs.foldl V4.wo w
def red4 (fs : List V4) (w : V4) : V4 := pass4 fs (pass4 fs (pass4 fs w))
theorem pass_1 {w q : V4} {A B : Int} (hq : q.nrm) (h : DB w q A) (hB : 40 * A + 25784000000 ≤ 65536 * B) : DB (pass4 [q] w) q B := self_bd hq h hB
theorem pass_2 {w p q : V4} {A B0 C1 B1 C0 : Int} (hp : p.nrm) (hq : q.nrm) (hd : DB p q 9830400) (h0 : DB w p A) (h1 : DB w q A) (e1 : 40 * A + 25784000000 ≤ 65536 * B0) (e2 : 65536 * A + 150 * (A + 262140) + 8592424920 ≤ 65536 * C1)
    (e3 : 40 * C1 + 25784000000 ≤ 65536 * B1) (e4 : 65536 * B0 + 150 * (C1 + 262140) + 8592424920 ≤ 65536 * C0) : DB (pass4 [p, q] w) p C0 ∧ DB (pass4 [p, q] w) q B1 := by
  have a0 := self_bd hp h0 e1
  have a1 := other_bd (D := 150) hq h0 h1 hd e2
  exact ⟨other_bd (D := 150) hp a1 a0 hd.symm e4, self_bd hq a1 e3⟩
theorem pass_3 {w p q s : V4} {A a0 a1 b0 b1 b2 c0 c1 c2 : Int} (hp : p.nrm) (hq : q.nrm) (hs : s.nrm) (hd : DB p q 9830400) (hd2 : DB p s 9830400) (hd3 : DB q s 9830400) (h0 : DB w p A) (h1 : DB w q A) (h2 : DB w s A)
    (e1 : 40 * A + 25784000000 ≤ 65536 * a0) (e2 : 65536 * A + 150 * (A + 262140) + 8592424920 ≤ 65536 * a1)
    (e3 : 40 * a1 + 25784000000 ≤ 65536 * b1) (e4 : 65536 * a0 + 150 * (a1 + 262140) + 8592424920 ≤ 65536 * b0) (e5 : 65536 * a1 + 150 * (a1 + 262140) + 8592424920 ≤ 65536 * b2)
    (e6 : 40 * b2 + 25784000000 ≤ 65536 * c2) (e7 : 65536 * b0 + 150 * (b2 + 262140) + 8592424920 ≤ 65536 * c0) (e8 : 65536 * b1 + 150 * (b2 + 262140) + 8592424920 ≤ 65536 * c1) :
    DB (pass4 [p, q, s] w) p c0 ∧ DB (pass4 [p, q, s] w) q c1 ∧ DB (pass4 [p, q, s] w) s c2 := by
  have x0 := self_bd hp h0 e1
  have x1 := other_bd (D := 150) hq h0 h1 hd e2
  have x2 := other_bd (D := 150) hs h0 h2 hd2 e2
  have y0 := other_bd (D := 150) hp x1 x0 hd.symm e4
  have y1 := self_bd hq x1 e3
  have y2 := other_bd (D := 150) hs x1 x2 hd3 e5
  exact ⟨other_bd (D := 150) hp y2 y0 hd2.symm e7, other_bd (D := 150) hq y2 y1 hd3.symm e8, self_bd hs y2 e6⟩
theorem red_1 {w q : V4} (hq : q.nrm) (h : w.dot w ≤ 1125899906842624) : DB (red4 [q] w) q 394174 :=
  pass_1 hq (pass_1 hq (pass_1 hq (start_bd hq h) (B := 1342984314) (by decide)) (B := 1213126) (by decide)) (by decide)
theorem red_2 {w p q : V4} (hp : p.nrm) (hq : q.nrm) (hd : DB p q 9830400) (h : w.dot w ≤ 1125899906842624) : DB (red4 [p, q] w) p 580869 ∧ DB (red4 [p, q] w) q 580869 := by
  have h1 := pass_2 (B0 := 1342984314) (C1 := 2204735747307) (B1 := 1346057341) (C0 := 6389355680) hp hq hd (start_bd hp h) (start_bd hq h) (by decide) (by decide) (by decide) (by decide)
  have h2 := pass_2 (A := 6389355680) (B0 := 4293186) (C1 := 6404111465) (B1 := 4302193) (C0 := 19082744) hp hq hd h1.1 (h1.2.mono (by decide)) (by decide) (by decide) (by decide) (by decide)
  have h3 := pass_2 (A := 19082744) (B0 := 405080) (C1 := 19258131) (B1 := 405187) (C0 := 580869) hp hq hd h2.1 (h2.2.mono (by decide)) (by decide) (by decide) (by decide) (by decide)
  exact ⟨h3.1, h3.2.mono (by decide)⟩
theorem red_3 {w p q s : V4} (hp : p.nrm) (hq : q.nrm) (hs : s.nrm) (hd : DB p q 9830400) (hd2 : DB p s 9830400) (hd3 : DB q s 9830400) (h : w.dot w ≤ 1125899906842624) : DB (red4 [p, q, s] w) p 971159 ∧ DB (red4 [p, q, s] w) q 971159 ∧ DB (red4 [p, q, s] w) s 971159 := by
  have h1 := pass_3 (a0 := 1342984314) (a1 := 2204735747307) (b0 := 6389355680) (b1 := 1346057341) (b2 := 2209782118673) (c0 := 11447277274) (c1 := 6403978935) (c2 := 1349137402) hp hq hs hd hd2 hd3 (start_bd hp h) (start_bd hq h) (start_bd hs h) (by decide) (by decide) (by decide) (by decide) (by decide) (by decide) (by decide) (by decide)
  have h2 := pass_3 (A := 11447277274) (a0 := 7380297) (a1 := 11473609723) (b0 := 33773016) (b1 := 7396369) (b2 := 11500002442) (c0 := 60226143) (c1 := 33849496) (c2 := 7412478) hp hq hs hd hd2 hd3 h1.1 (h1.2.1.mono (by decide)) (h1.2.2.mono (by decide)) (by decide) (by decide) (by decide) (by decide) (by decide) (by decide) (by decide) (by decide)
  have h3 := pass_3 (A := 60226143) (a0 := 430192) (a1 := 60495700) (b0 := 700366) (b1 := 430357) (b2 := 60765874) (c0 := 971159) (c1 := 701150) (c2 := 430522) hp hq hs hd hd2 hd3 h2.1 (h2.2.1.mono (by decide)) (h2.2.2.mono (by decide)) (by decide) (by decide) (by decide) (by decide) (by decide) (by decide) (by decide) (by decide)
  exact ⟨h3.1, h3.2.1.mono (by decide), h3.2.2.mono (by decide)⟩
/-- The lengths along the reduction. -/
theorem fold_norm : ∀ (fs : List V4) (w : V4) (t : Int), (∀ q ∈ fs, q.nrm) → 0 ≤ t → t + fs.length ≤ 20 → w.dot w ≤ 1125899906842624 + t * 134218240 → (pass4 fs w).dot (pass4 fs w) ≤ 1125899906842624 + (t + fs.length) * 134218240
  | [], w, t, _, _, _, h => by simpa [pass4] using h
  | q :: fs, w, t, hn, h0, h1, h => by
    have hl : ((q :: fs).length : Int) = fs.length + 1 := by simp
    rw [hl] at h1 ⊢
    have e := fold_norm fs (w.wo q) (t + 1) (fun x hx => hn x (by simp [hx])) (by omega) (by omega) (norm_bd (hn q (by simp)) h0 (by omega) h)
    have e2 : t + 1 + (fs.length : Int) = t + (fs.length + 1) := by omega
    rw [e2] at e
    exact e
/-- A vector scaled to the length One, rounded down. -/
def V4.scl (x : V4) (L : Int) : V4 := ⟨dn (x.a * 65536) L, dn (x.b * 65536) L, dn (x.c * 65536) L, dn (x.d * 65536) L⟩
structure Scl (x y : V4) (L : Int) (f : V4) : Prop where
  fw : f.within (L - 1)
  ha : L * y.a = 65536 * x.a - f.a
  hb : L * y.b = 65536 * x.b - f.b
  hc : L * y.c = 65536 * x.c - f.c
  hd : L * y.d = 65536 * x.d - f.d
theorem scl (x : V4) {L : Int} (hL : 0 < L) : ∃ f, Scl x (x.scl L) L f := by
  have a1 := dn_mul (x.a * 65536) hL
  have a2 := dn_mul (x.b * 65536) hL
  have a3 := dn_mul (x.c * 65536) hL
  have a4 := dn_mul (x.d * 65536) hL
  refine ⟨⟨x.a * 65536 - dn (x.a * 65536) L * L, x.b * 65536 - dn (x.b * 65536) L * L, x.c * 65536 - dn (x.c * 65536) L * L, x.d * 65536 - dn (x.d * 65536) L * L⟩, ⟨by dsimp only; omega, by dsimp only; omega, by dsimp only; omega, by dsimp only; omega⟩, ?_, ?_, ?_, ?_⟩ <;> (unfold V4.scl; dsimp only; rw [Int.mul_comm L]; omega)
theorem Scl.dot {x y f : V4} {L : Int} (h : Scl x y L f) (q : V4) : L * y.dot q = 65536 * x.dot q - f.dot q := by
  have e1 := congrArg (· * q.a) h.ha
  have e2 := congrArg (· * q.b) h.hb
  have e3 := congrArg (· * q.c) h.hc
  have e4 := congrArg (· * q.d) h.hd
  unfold V4.dot
  grind
theorem Scl.bd {x y f : V4} {L E : Int} (h : Scl x y L f) (hL : 4096 ≤ L) {q : V4} (hq : q.nrm) (hx : DB x q E) : DB y q (16 * E + 131112) := by
  have e := h.dot q
  have hf := V4.cs_bd (A := 2 * (L - 1)) (B := 65556) (by omega) (by decide) (V4.within_sq h.fw) (V4.nrm_sq hq)
  obtain ⟨h1, h2⟩ := hx
  have hE : 0 ≤ E := by omega
  have m := Int.mul_nonneg hE (show 0 ≤ L - 4096 by omega)
  have e2 : E * (L - 4096) = L * E - 4096 * E := by grind
  have p : L * (16 * E + 131112) = 16 * (L * E) + 131112 * L := by grind
  constructor
  · refine Int.not_lt.1 fun g => ?_
    have := Int.mul_lt_mul_of_pos_left g (show 0 < L by omega)
    rw [Int.mul_neg, p] at this
    omega
  · refine Int.not_lt.1 fun g => ?_
    have := Int.mul_lt_mul_of_pos_left g (show 0 < L by omega)
    rw [p] at this
    omega
theorem Scl.nrm {x y f : V4} {L : Int} (h : Scl x y L f) (hL : 4096 ≤ L) (h1 : L * L ≤ x.dot x) (h2 : x.dot x < (L + 1) * (L + 1)) : y.nrm := by
  have hxf := V4.cs_bd (v := x) (u := f) (A := L + 1) (B := 2 * (L - 1)) (by omega) (by omega) (by omega) (V4.within_sq h.fw)
  have hff := V4.within_sq h.fw
  have hf0 := f.self_nn
  have e : L * L * y.dot y = 4294967296 * x.dot x - 131072 * x.dot f + f.dot f := by
    have e1 := congrArg (fun x => x * x) h.ha
    have e2 := congrArg (fun x => x * x) h.hb
    have e3 := congrArg (fun x => x * x) h.hc
    have e4 := congrArg (fun x => x * x) h.hd
    unfold V4.dot
    grind
  obtain ⟨m, rfl⟩ : ∃ m, L = 4096 + m := ⟨L - 4096, by omega⟩
  have m0 : 0 ≤ m := by omega
  have mm := Int.mul_nonneg m0 m0
  have s1 : (4096 + m) * (4096 + m) = 16777216 + 8192 * m + m * m := by grind
  have s2 : (4096 + m + 1) * (4096 + m + 1) = 16785409 + 8194 * m + m * m := by grind
  have s3 : (4096 + m + 1) * (2 * (4096 + m - 1)) = 2 * (m * m) + 16384 * m + 33554430 := by grind
  have s4 : 2 * (4096 + m - 1) * (2 * (4096 + m - 1)) = 4 * (m * m) + 32760 * m + 67076100 := by grind
  rw [s3] at hxf
  rw [s4] at hff
  rw [s1] at h1
  rw [s2] at h2
  unfold V4.nrm
  generalize x.dot x = xx at *
  generalize x.dot f = xf at *
  generalize f.dot f = ff at *
  constructor
  · refine Int.not_lt.1 fun g => ?_
    have hp : 0 < (4096 + m) * (4096 + m) := by omega
    have := Int.mul_le_mul_of_nonneg_left (show y.dot y ≤ 4292345855 by omega) (Int.le_of_lt hp)
    rw [e, s1] at this
    omega
  · refine Int.not_lt.1 fun g => ?_
    have hp : 0 < (4096 + m) * (4096 + m) := by omega
    have := Int.mul_le_mul_of_nonneg_left (show 4297588737 ≤ y.dot y by omega) (Int.le_of_lt hp)
    rw [e, s1] at this
    omega
/-- What a reduction leaves of w along z, where z is at right angles to the frame. -/
def Tr (z w0 : V4) (t : Int) (w : V4) : Prop := ∃ R : V4, R.within (t * 65535) ∧ 65536 * w.dot z = 65536 * w0.dot z + R.dot z
theorem tr_step {z w0 w u : V4} {t : Int} (h : Tr z w0 t w) (hu : u.dot z = 0) : Tr z w0 (t + 1) (w.wo u) := by
  obtain ⟨R, hR, e⟩ := h
  obtain ⟨c, s, r, hs⟩ := stp w u
  have e2 := hs.dot z
  rw [hu, Int.mul_zero] at e2
  obtain ⟨⟨a1, a2⟩, ⟨b1, b2⟩, ⟨c1, c2⟩, ⟨d1, d2⟩⟩ := hR
  obtain ⟨⟨a3, a4⟩, ⟨b3, b4⟩, ⟨c3, c4⟩, ⟨d3, d4⟩⟩ := hs.rw
  refine ⟨⟨R.a + r.a, R.b + r.b, R.c + r.c, R.d + r.d⟩, ⟨by dsimp only; omega, by dsimp only; omega, by dsimp only; omega, by dsimp only; omega⟩, ?_⟩
  have : (⟨R.a + r.a, R.b + r.b, R.c + r.c, R.d + r.d⟩ : V4).dot z = R.dot z + r.dot z := by unfold V4.dot; grind
  rw [this]
  omega
theorem tr_pass {z w0 : V4} : ∀ (fs : List V4) (w : V4) (t : Int), (∀ q ∈ fs, q.dot z = 0) → Tr z w0 t w → Tr z w0 (t + fs.length) (pass4 fs w)
  | [], w, t, _, h => by simpa [pass4] using h
  | q :: fs, w, t, hn, h => by
    have e := tr_pass fs (w.wo q) (t + 1) (fun x hx => hn x (by simp [hx])) (tr_step h (hn q (by simp)))
    have e2 : t + 1 + (fs.length : Int) = t + ((q :: fs).length : Int) := by simp; omega
    rw [e2] at e
    exact e
theorem tr_red {z w : V4} {fs : List V4} (hn : ∀ q ∈ fs, q.dot z = 0) (hl : fs.length ≤ 3) : Tr z w 9 (red4 fs w) := by
  have h0 : Tr z w 0 w := ⟨⟨0, 0, 0, 0⟩, ⟨by decide, by decide, by decide, by decide⟩, by unfold V4.dot; grind⟩
  obtain ⟨R, ⟨⟨a1, a2⟩, ⟨b1, b2⟩, ⟨c1, c2⟩, ⟨d1, d2⟩⟩, e⟩ := tr_pass fs _ _ hn (tr_pass fs _ _ hn (tr_pass fs _ _ hn h0))
  exact ⟨R, ⟨by omega, by omega, by omega, by omega⟩, e⟩
/-- Enough is left of an axis along which z has at least half its length. -/
theorem left_enough {z w x : V4} {g : Int} (h : Tr z w 9 x) (hw : w.dot z = 65536 * g) (hz : 0 < z.dot z) (hg : z.dot z ≤ 4 * (g * g)) : 268435456 ≤ x.dot x := by
  obtain ⟨R, hR, e⟩ := h
  rw [hw] at e
  have hcs := x.cs z
  have hr := R.cs z
  have hrr := V4.within_sq hR
  have m := Int.mul_le_mul_of_nonneg_right hrr (Int.le_of_lt hz)
  obtain ⟨δ, hδ⟩ : ∃ δ, δ = x.dot z - 65536 * g := ⟨_, rfl⟩
  have eR : R.dot z = 65536 * δ := by omega
  rw [eR] at hr
  have eS : 65536 * δ * (65536 * δ) = 4294967296 * (δ * δ) := by grind
  have d2 : δ * δ ≤ 324 * z.dot z := by omega
  have ex : 65536 * g = x.dot z - δ := by omega
  have eG : (x.dot z - δ) * (x.dot z - δ) = 4294967296 * (g * g) := by rw [← ex]; grind
  have hs := sq4_nn (x.dot z + δ)
  have e3 : (x.dot z + δ) * (x.dot z + δ) = 2 * (x.dot z * x.dot z) + 2 * (δ * δ) - (x.dot z - δ) * (x.dot z - δ) := by grind
  refine Int.not_lt.1 fun q => ?_
  have := Int.mul_le_mul_of_nonneg_right (show x.dot x ≤ 268435455 by omega) (Int.le_of_lt hz)
  omega
/-- Two vectors of two components, three of three ..: one is at right angles to fewer of them. -/
theorem null2 (a b : Int) : ∃ x y : Int, (x ≠ 0 ∨ y ≠ 0) ∧ a * x + b * y = 0 := by
  by_cases h : a = 0 ∧ b = 0
  · exact ⟨1, 0, .inl (by decide), by simp [h.1]⟩
  · exact ⟨b, -a, by omega, by grind⟩
theorem null3' (a b c d e f : Int) (h : a ≠ 0) : ∃ x y z : Int, (x ≠ 0 ∨ y ≠ 0 ∨ z ≠ 0) ∧ a * x + b * y + c * z = 0 ∧ d * x + e * y + f * z = 0 := by
  obtain ⟨y, z, hyz, h1⟩ := null2 (a * e - d * b) (a * f - d * c)
  refine ⟨-(b * y + c * z), a * y, a * z, ?_, by grind, by grind⟩
  rcases hyz with g | g
  · exact .inr (.inl (Int.mul_ne_zero h g))
  · exact .inr (.inr (Int.mul_ne_zero h g))
theorem null3 (a b c d e f : Int) : ∃ x y z : Int, (x ≠ 0 ∨ y ≠ 0 ∨ z ≠ 0) ∧ a * x + b * y + c * z = 0 ∧ d * x + e * y + f * z = 0 := by
  by_cases h : a = 0
  · by_cases h2 : d = 0
    · exact ⟨1, 0, 0, .inl (by decide), by simp [h], by simp [h2]⟩
    · obtain ⟨x, y, z, g, g1, g2⟩ := null3' d e f a b c h2
      exact ⟨x, y, z, g, g2, g1⟩
  · exact null3' a b c d e f h
theorem V4.pos {z : V4} (h : z.a ≠ 0 ∨ z.b ≠ 0 ∨ z.c ≠ 0 ∨ z.d ≠ 0) : 0 < z.dot z := by
  have p : ∀ x : Int, x ≠ 0 → 0 < x * x := fun x hx => by
    have := sq4_nn x
    have : x * x ≠ 0 := Int.mul_ne_zero hx hx
    omega
  have := sq4_nn z.a
  have := sq4_nn z.b
  have := sq4_nn z.c
  have := sq4_nn z.d
  unfold V4.dot
  rcases h with h | h | h | h <;> (have := p _ h; omega)
theorem null4' (p q s : V4) (h : p.a ≠ 0) : ∃ z : V4, 0 < z.dot z ∧ p.dot z = 0 ∧ q.dot z = 0 ∧ s.dot z = 0 := by
  obtain ⟨x, y, t, hx, h1, h2⟩ := null3 (p.a * q.b - q.a * p.b) (p.a * q.c - q.a * p.c) (p.a * q.d - q.a * p.d) (p.a * s.b - s.a * p.b) (p.a * s.c - s.a * p.c) (p.a * s.d - s.a * p.d)
  refine ⟨⟨-(p.b * x + p.c * y + p.d * t), p.a * x, p.a * y, p.a * t⟩, V4.pos ?_, ?_, ?_, ?_⟩
  · rcases hx with g | g | g
    · exact .inr (.inl (Int.mul_ne_zero h g))
    · exact .inr (.inr (.inl (Int.mul_ne_zero h g)))
    · exact .inr (.inr (.inr (Int.mul_ne_zero h g)))
  · unfold V4.dot; grind
  · unfold V4.dot; grind
  · unfold V4.dot; grind
theorem null4 (p q s : V4) : ∃ z : V4, 0 < z.dot z ∧ p.dot z = 0 ∧ q.dot z = 0 ∧ s.dot z = 0 := by
  by_cases h : p.a = 0
  · by_cases h2 : q.a = 0
    · by_cases h3 : s.a = 0
      · exact ⟨⟨1, 0, 0, 0⟩, by decide, by simp [V4.dot, h], by simp [V4.dot, h2], by simp [V4.dot, h3]⟩
      · obtain ⟨z, g, g1, g2, g3⟩ := null4' s q p h3
        exact ⟨z, g, g3, g2, g1⟩
    · obtain ⟨z, g, g1, g2, g3⟩ := null4' q p s h2
      exact ⟨z, g, g2, g1, g3⟩
  · exact null4' p q s h
def V4.zero : V4 := ⟨0, 0, 0, 0⟩
def V4.ax : Nat → V4
  | 0 => ⟨65536, 0, 0, 0⟩
  | 1 => ⟨0, 65536, 0, 0⟩
  | 2 => ⟨0, 0, 65536, 0⟩
  | _ => ⟨0, 0, 0, 65536⟩
def V4.at (z : V4) : Nat → Int
  | 0 => z.a
  | 1 => z.b
  | 2 => z.c
  | _ => z.d
theorem ax_dot (z : V4) (j : Nat) (hj : j < 4) : (V4.ax j).dot z = 65536 * z.at j := by
  rcases j with _ | _ | _ | _ | j <;> simp [V4.ax, V4.at, V4.dot]
theorem ax_sq (j : Nat) : (V4.ax j).dot (V4.ax j) ≤ 1125899906842624 := by
  rcases j with _ | _ | _ | j
  · decide
  · decide
  · decide
  · show (⟨0, 0, 0, 65536⟩ : V4).dot ⟨0, 0, 0, 65536⟩ ≤ 1125899906842624
    decide
theorem null_of (n : Nat) (hn : n ≤ 4) (fs : List V4) (hl : fs.length < n) : ∃ z : V4, 0 < z.dot z ∧ (∀ q ∈ fs, q.dot z = 0) ∧ ∀ j, n ≤ j → j < 4 → z.at j = 0 := by
  have ax0 : ∀ (z : V4) (j : Nat), j < 4 → (V4.ax j).dot z = 0 → z.at j = 0 := fun z j hj h => by
    rw [ax_dot z j hj] at h
    omega
  match n, fs, hn, hl with
  | 1, [], _, _ =>
    obtain ⟨z, g, g1, g2, g3⟩ := null4 (V4.ax 1) (V4.ax 2) (V4.ax 3)
    refine ⟨z, g, nofun, fun j h1 h2 => ?_⟩
    match j, h1, h2 with
    | 1, _, _ => exact ax0 z 1 (by decide) g1
    | 2, _, _ => exact ax0 z 2 (by decide) g2
    | 3, _, _ => exact ax0 z 3 (by decide) g3
  | 2, fs, _, hl =>
    obtain ⟨p, hp⟩ : ∃ p : V4, ∀ q ∈ fs, q = p := by
      match fs, hl with
      | [], _ => exact ⟨V4.zero, nofun⟩
      | [p], _ => exact ⟨p, by simp⟩
    obtain ⟨z, g, g1, g2, g3⟩ := null4 p (V4.ax 2) (V4.ax 3)
    refine ⟨z, g, fun q hq => by rw [hp q hq]; exact g1, fun j h1 h2 => ?_⟩
    match j, h1, h2 with
    | 2, _, _ => exact ax0 z 2 (by decide) g2
    | 3, _, _ => exact ax0 z 3 (by decide) g3
  | 3, fs, _, hl =>
    obtain ⟨p, p2, hp⟩ : ∃ p p2 : V4, ∀ q ∈ fs, q = p ∨ q = p2 := by
      match fs, hl with
      | [], _ => exact ⟨V4.zero, V4.zero, nofun⟩
      | [p], _ => exact ⟨p, p, by simp⟩
      | [p, p2], _ => exact ⟨p, p2, by simp⟩
    obtain ⟨z, g, g1, g2, g3⟩ := null4 p p2 (V4.ax 3)
    refine ⟨z, g, fun q hq => by rcases hp q hq with e | e <;> rw [e]; exact g1; exact g2, fun j h1 h2 => ?_⟩
    match j, h1, h2 with
    | 3, _, _ => exact ax0 z 3 (by decide) g3
  | 4, fs, _, hl =>
    obtain ⟨p, p2, p3, hp⟩ : ∃ p p2 p3 : V4, ∀ q ∈ fs, q = p ∨ q = p2 ∨ q = p3 := by
      match fs, hl with
      | [], _ => exact ⟨V4.zero, V4.zero, V4.zero, nofun⟩
      | [p], _ => exact ⟨p, p, p, by simp⟩
      | [p, p2], _ => exact ⟨p, p2, p2, by simp⟩
      | [p, p2, p3], _ => exact ⟨p, p2, p3, by simp⟩
    obtain ⟨z, g, g1, g2, g3⟩ := null4 p p2 p3
    exact ⟨z, g, fun q hq => by rcases hp q hq with e | e | e <;> rw [e]; exact g1; exact g2; exact g3, fun j h1 h2 => by omega⟩
theorem big_at (z : V4) : ∃ j, j < 4 ∧ z.dot z ≤ 4 * (z.at j * z.at j) := by
  have e : z.dot z = z.a * z.a + z.b * z.b + z.c * z.c + z.d * z.d := rfl
  by_cases h0 : z.dot z ≤ 4 * (z.a * z.a)
  · exact ⟨0, by decide, h0⟩
  by_cases h1 : z.dot z ≤ 4 * (z.b * z.b)
  · exact ⟨1, by decide, h1⟩
  by_cases h2 : z.dot z ≤ 4 * (z.c * z.c)
  · exact ⟨2, by decide, h2⟩
  exact ⟨3, by decide, by show z.dot z ≤ 4 * (z.d * z.d); omega⟩
/-- A frame of fewer than n columns leaves enough of one of the first n axes. -/
theorem axis_left (n : Nat) (hn : n ≤ 4) (fs : List V4) (hl : fs.length < n) : ∃ j, j < n ∧ 268435456 ≤ (red4 fs (V4.ax j)).dot (red4 fs (V4.ax j)) := by
  obtain ⟨z, hz, hq, h0⟩ := null_of n hn fs hl
  obtain ⟨j, hj, hb⟩ := big_at z
  refine ⟨j, Nat.lt_of_not_le fun hle => ?_, ?_⟩
  · rw [h0 j hle hj] at hb
    omega
  · exact left_enough (tr_red hq (by omega)) (ax_dot z j hj) hz hb
end Go.Proofs.Ytmcdkbnpcmiojaa

namespace Go.Proofs.Ytmcdkbnpcmiojaa
open Go.ChangeShapes Go.WideShapes Go.ChangeAt Go.RowKit
set_option linter.unusedVariables false
set_option linter.unusedSimpArgs false
set_option maxRecDepth 100000

def V4.l (v : V4) : List Int := [v.a, v.b, v.c, v.d, 0, 0]
theorem dn_zero65 : dn 0 65536 = 0 := by decide
theorem wo_l (w u : V4) : withoutV w.l u.l = (w.wo u).l := by
  have e : alongV w.l u.l = w.al u := by
    simp [alongV, partL, V4.l, V4.al, dn_zero65]
    omega
  unfold withoutV
  rw [e]
  simp [V4.l, V4.wo, dn_zero65]
theorem pass_l : ∀ (fs : List V4) (w : V4), passV (fs.map V4.l) w.l = (pass4 fs w).l
  | [], w => rfl
  | q :: fs, w => by
    show passV (fs.map V4.l) (withoutV w.l q.l) = _
    rw [wo_l]
    exact pass_l fs _
def passN4 (fs : List V4) (w : V4) : Nat → V4
  | 0 => w
  | p + 1 => pass4 fs (passN4 fs w p)
theorem passN_l (fs : List V4) (w : V4) : ∀ p, passN (fs.map V4.l) w.l p = (passN4 fs w p).l
  | 0 => rfl
  | p + 1 => by
    show passV _ (passN _ _ p) = _
    rw [passN_l fs w p, pass_l]
    rfl
theorem red_l (fs : List V4) (w : V4) : redV (fs.map V4.l) w.l = (red4 fs w).l := passN_l fs w 3
theorem sq_l (x : V4) : sqV x.l = x.dot x := by
  simp [sqV, V4.l, V4.dot]
  omega
theorem len_l {x : V4} (h : x.dot x ≤ 33554532 * 33554532) : 0 ≤ lenV x.l ∧ lenV x.l * lenV x.l ≤ x.dot x ∧ x.dot x < (lenV x.l + 1) * (lenV x.l + 1) := by
  have s := isq_spec x.self_nn
  have l := isq_lt (q := 33554533) x.self_nn (by omega) (by decide)
  have e : lenV x.l = isq (x.dot x) := by
    unfold lenV
    rw [sq_l]
    omega
  rw [e]
  exact s
theorem nrm_l (x : V4) : normV x.l = (x.scl (lenV x.l)).l := by
  unfold normV
  generalize lenV x.l = L
  have z : dn 0 L = 0 := by unfold dn; exact Int.zero_fdiv L
  simp [V4.l, V4.scl, z]
theorem ax_l {k : Nat} (h : k < 4) : axV k = (V4.ax k).l := by
  match k, h with
  | 0, _ => rfl
  | 1, _ => rfl
  | 2, _ => rfl
  | 3, _ => rfl
/-- Nothing beyond n components. -/
def V4.sup (n : Nat) (v : V4) : Prop := (n ≤ 1 → v.b = 0) ∧ (n ≤ 2 → v.c = 0) ∧ (n ≤ 3 → v.d = 0)
theorem sup_wo {n : Nat} {w u : V4} (h : w.sup n) (g : u.sup n) : (w.wo u).sup n :=
  ⟨fun q => by show w.b - dn (w.al u * u.b) 65536 = 0; rw [h.1 q, g.1 q, Int.mul_zero, dn_zero65]; rfl,
   fun q => by show w.c - dn (w.al u * u.c) 65536 = 0; rw [h.2.1 q, g.2.1 q, Int.mul_zero, dn_zero65]; rfl,
   fun q => by show w.d - dn (w.al u * u.d) 65536 = 0; rw [h.2.2 q, g.2.2 q, Int.mul_zero, dn_zero65]; rfl⟩
theorem sup_pass {n : Nat} : ∀ (fs : List V4) (w : V4), w.sup n → (∀ q ∈ fs, q.sup n) → (pass4 fs w).sup n
  | [], w, h, _ => h
  | q :: fs, w, h, g => sup_pass fs (w.wo q) (sup_wo h (g q (by simp))) fun x hx => g x (by simp [hx])
theorem sup_red {n : Nat} {fs : List V4} {w : V4} (h : w.sup n) (g : ∀ q ∈ fs, q.sup n) : (red4 fs w).sup n := sup_pass fs _ (sup_pass fs _ (sup_pass fs _ h g) g) g
theorem sup_scl {n : Nat} {x : V4} (h : x.sup n) (L : Int) : (x.scl L).sup n := by
  have z : dn 0 L = 0 := by unfold dn; exact Int.zero_fdiv L
  exact ⟨fun q => by show dn (x.b * 65536) L = 0; rw [h.1 q, Int.zero_mul, z], fun q => by show dn (x.c * 65536) L = 0; rw [h.2.1 q, Int.zero_mul, z], fun q => by show dn (x.d * 65536) L = 0; rw [h.2.2 q, Int.zero_mul, z]⟩
theorem sup_ax {n k : Nat} (h : k < n) : (V4.ax k).sup n := by
  match k with
  | 0 => exact ⟨fun _ => rfl, fun _ => rfl, fun _ => rfl⟩
  | 1 => exact ⟨fun q => by omega, fun _ => rfl, fun _ => rfl⟩
  | 2 => exact ⟨fun q => by omega, fun q => by omega, fun _ => rfl⟩
  | k + 3 => exact ⟨fun q => by omega, fun q => by omega, fun q => by omega⟩
def lim (k : Nat) : Int := if k ≤ 2 then 9830400 else 15669656
/-- A good frame. -/
def Good (n : Nat) (fs : List V4) : Prop := (∀ q ∈ fs, q.nrm ∧ q.sup n) ∧ ∀ i j p q, i < j → fs[i]? = some p → fs[j]? = some q → DB p q (lim j)
theorem red_good {n : Nat} {fs : List V4} (h : Good n fs) (hl : fs.length ≤ 3) {w : V4} (hw : w.dot w ≤ 1125899906842624) : ∃ E, 16 * E + 131112 ≤ lim fs.length ∧ ∀ q ∈ fs, DB (red4 fs w) q E := by
  match fs, h, hl with
  | [], _, _ => exact ⟨0, (by decide : 16 * 0 + 131112 ≤ lim 0), nofun⟩
  | [q], h, _ => exact ⟨394174, (by decide : 16 * 394174 + 131112 ≤ lim 1), fun x hx => by
      obtain rfl : x = q := by simpa using hx
      exact red_1 (h.1 x (by simp)).1 hw⟩
  | [p, q], h, _ =>
    have r := red_2 (h.1 p (by simp)).1 (h.1 q (by simp)).1 (h.2 0 1 p q (by decide) rfl rfl) hw
    exact ⟨580869, (by decide : 16 * 580869 + 131112 ≤ lim 2), fun x hx => by
      have : x = p ∨ x = q := by simpa using hx
      rcases this with rfl | rfl
      · exact r.1
      · exact r.2⟩
  | [p, q, s], h, _ =>
    have r := red_3 (h.1 p (by simp)).1 (h.1 q (by simp)).1 (h.1 s (by simp)).1 (h.2 0 1 p q (by decide) rfl rfl) (h.2 0 2 p s (by decide) rfl rfl) (h.2 1 2 q s (by decide) rfl rfl) hw
    exact ⟨971159, (by decide : 16 * 971159 + 131112 ≤ lim 3), fun x hx => by
      have : x = p ∨ x = q ∨ x = s := by simpa using hx
      rcases this with rfl | rfl | rfl
      · exact r.1
      · exact r.2.1
      · exact r.2.2⟩
theorem good_snoc {n : Nat} {fs : List V4} {y : V4} (h : Good n fs) (hy : y.nrm) (hs : y.sup n) (hb : ∀ q ∈ fs, DB y q (lim fs.length)) : Good n (fs ++ [y]) := by
  refine ⟨fun q hq => ?_, fun i j p q hij hp hq => ?_⟩
  · rcases List.mem_append.1 hq with g | g
    · exact h.1 q g
    · rw [List.mem_singleton.1 g]
      exact ⟨hy, hs⟩
  · have hj := (List.getElem?_eq_some_iff.1 hq).1
    rw [List.length_append, List.length_singleton] at hj
    rw [List.getElem?_append_left (by omega)] at hp
    by_cases g : j < fs.length
    · rw [List.getElem?_append_left g] at hq
      exact h.2 i j p q hij hp hq
    · obtain rfl : j = fs.length := by omega
      rw [List.getElem?_append_right (Nat.le_refl _), Nat.sub_self] at hq
      simp only [List.getElem?_cons_zero, Option.some.injEq] at hq
      rw [← hq]
      exact (hb p (List.mem_of_getElem? hp)).symm
theorem passN_norm {fs : List V4} (hn : ∀ q ∈ fs, q.nrm) (hl : fs.length ≤ 4) {w : V4} (hw : w.dot w ≤ 1125899906842624) : ∀ p : Nat, p ≤ 3 → (passN4 fs w p).dot (passN4 fs w p) ≤ 1125899906842624 + ((p * fs.length : Nat) : Int) * 134218240
  | 0, _ => by simpa [passN4] using hw
  | p + 1, hp => by
    have ih := passN_norm hn hl hw p (by omega)
    have hm : p * fs.length ≤ 8 := Nat.le_trans (Nat.mul_le_mul (show p ≤ 2 by omega) hl) (by decide)
    have e := fold_norm fs _ _ hn (by omega) (by omega) ih
    have e2 : ((p * fs.length : Nat) : Int) + (fs.length : Int) = (((p + 1) * fs.length : Nat) : Int) := by
      rw [Nat.add_mul]
      omega
    rw [e2] at e
    exact e
theorem red_norm {fs : List V4} (hn : ∀ q ∈ fs, q.nrm) (hl : fs.length ≤ 4) {w : V4} (hw : w.dot w ≤ 1125899906842624) : (red4 fs w).dot (red4 fs w) ≤ 33554532 * 33554532 := by
  have e := passN_norm hn hl hw 3 (by decide)
  have : 3 * fs.length ≤ 12 := by omega
  have h2 : (passN4 fs w 3).dot (passN4 fs w 3) = (red4 fs w).dot (red4 fs w) := rfl
  rw [h2] at e
  omega
theorem comp_bd {x : V4} {A : Int} (hA : 0 ≤ A) (h : x.dot x ≤ A * A) : ∀ a ∈ x.l, -A ≤ a ∧ a ≤ A := by
  have h1 := sq4_nn x.a
  have h2 := sq4_nn x.b
  have h3 := sq4_nn x.c
  have h4 := sq4_nn x.d
  unfold V4.dot at h
  intro a ha
  simp only [V4.l, List.mem_cons, List.not_mem_nil, or_false] at ha
  rcases ha with rfl | rfl | rfl | rfl | rfl | rfl
  · exact abs_sq hA (by omega)
  · exact abs_sq hA (by omega)
  · exact abs_sq hA (by omega)
  · exact abs_sq hA (by omega)
  · omega
  · omega
theorem red_ok4 {fs : List V4} (hn : ∀ q ∈ fs, q.nrm) (hl : fs.length ≤ 4) {w : V4} (hw : w.dot w ≤ 1125899906842624) : RedOk (fs.map V4.l) w.l := by
  refine ⟨fun p k hp hk a ha => ?_, fun a ha => ?_⟩
  · unfold redAt at ha
    rw [passN_l, ← List.map_take] at ha
    have e := pass_l (fs.take k) (passN4 fs w p)
    unfold passV at e
    rw [e] at ha
    have h1 := passN_norm hn hl hw p (by omega)
    have hm : p * fs.length ≤ 8 := Nat.le_trans (Nat.mul_le_mul (show p ≤ 2 by omega) hl) (by decide)
    have htk : (fs.take k).length ≤ 4 := by rw [List.length_take]; omega
    have h2 := fold_norm (fs.take k) _ _ (fun q hq => hn q (List.mem_of_mem_take hq)) (by omega) (by omega) h1
    have := comp_bd (A := 33554532) (by decide) (by omega) a ha
    omega
  · rw [red_l] at ha
    have := comp_bd (A := 33554532) (by decide) (red_norm hn hl hw) a ha
    omega
theorem cand_good {n : Nat} {fs : List V4} (h : Good n fs) (hl : fs.length ≤ 3) {w : V4} (hw : w.dot w ≤ 1125899906842624) (hs : w.sup n) (hL : 4096 ≤ lenV (redV (fs.map V4.l) w.l)) : ∃ y : V4, normV (redV (fs.map V4.l) w.l) = y.l ∧ Good n (fs ++ [y]) := by
  obtain ⟨E, hE, hb⟩ := red_good h hl hw
  rw [red_l] at hL ⊢
  have hn := len_l (red_norm (fun q hq => (h.1 q hq).1) (by omega) hw)
  rw [nrm_l]
  generalize lenV (red4 fs w).l = L at *
  obtain ⟨f, hf⟩ := scl (red4 fs w) (L := L) (by omega)
  exact ⟨_, rfl, good_snoc h (hf.nrm hL hn.2.1 hn.2.2) (sup_scl (sup_red hs fun q hq => (h.1 q hq).2) L) fun q hq => (hf.bd hL (h.1 q hq).1 (hb q hq)).mono hE⟩
theorem axd (us : List (List Int)) : ∀ ks : List Nat, (∃ k ∈ ks, 16384 ≤ lenV (redV us (axV k))) → ∃ k ∈ ks, 16384 ≤ lenV (redV us (axV k)) ∧ axDir us ks = normV (redV us (axV k))
  | [], h => by obtain ⟨k, hk, _⟩ := h; simp at hk
  | k :: ks, h => by
    by_cases g : 16384 ≤ lenV (redV us (axV k))
    · exact ⟨k, by simp, g, by unfold axDir; rw [if_pos g]⟩
    · obtain ⟨j, hj, hj2⟩ := h
      have hjk : j ∈ ks := by
        rcases List.mem_cons.1 hj with rfl | e
        · exact absurd hj2 g
        · exact e
      obtain ⟨i, hi, h1, h2⟩ := axd us ks ⟨j, hjk, hj2⟩
      exact ⟨i, by simp [hi], h1, by unfold axDir; rw [if_neg g, h2]⟩
theorem dir_good {n : Nat} {fs : List V4} (hn : n ≤ 4) (h : Good n fs) (hl : fs.length < n) {w : V4} (hw : w.dot w ≤ 1125899906842624) (hs : w.sup n) : ∃ y : V4, dirV (fs.map V4.l) w.l n = y.l ∧ Good n (fs ++ [y]) := by
  unfold dirV
  by_cases g : 4096 ≤ lenV (redV (fs.map V4.l) w.l)
  · rw [if_pos g]
    exact cand_good h (by omega) hw hs g
  · rw [if_neg g]
    obtain ⟨j, hj, hb⟩ := axis_left n hn fs hl
    have hjl : 16384 ≤ lenV (redV (fs.map V4.l) (axV j)) := by
      rw [ax_l (by omega), red_l]
      have hq := len_l (red_norm (fs := fs) (fun q hq => (h.1 q hq).1) (by omega) (ax_sq j))
      generalize lenV (red4 fs (V4.ax j)).l = L at *
      refine Int.not_lt.1 fun q => ?_
      have := Int.mul_le_mul (show L + 1 ≤ 16384 by omega) (show L + 1 ≤ 16384 by omega) (by omega) (by decide)
      omega
    obtain ⟨k, hk, h1, h2⟩ := axd (fs.map V4.l) (List.range n) ⟨j, List.mem_range.2 hj, hjl⟩
    have hkn := List.mem_range.1 hk
    rw [h2]
    rw [ax_l (by omega)] at h1 ⊢
    exact cand_good h (by omega) (ax_sq k) (sup_ax hkn) (by omega)
/-- The columns of a matrix of numbers. -/
def colV4 (M : List (List Int)) (k : Nat) : V4 := ⟨colE M k 0, colE M k 1, colE M k 2, colE M k 3⟩
theorem colE_out {M : List (List Int)} {k i : Nat} (h : M.length ≤ i) : colE M k i = 0 := by
  unfold colE
  rw [List.getElem?_eq_none h]
  rfl
theorem col_l {M : List (List Int)} (h : M.length ≤ 4) (k : Nat) : colV M k = (colV4 M k).l := by
  have e4 := colE_out (M := M) (k := k) (i := 4) h
  have e5 := colE_out (M := M) (k := k) (i := 5) (by omega)
  show [colE M k 0, colE M k 1, colE M k 2, colE M k 3, colE M k 4, colE M k 5] = _
  rw [e4, e5]
  rfl
theorem colE_bd {M : List (List Int)} {B : Int} (hB : 0 ≤ B) (h : ∀ r ∈ M, ∀ x ∈ r, -B ≤ x ∧ x ≤ B) (k i : Nat) : -B ≤ colE M k i ∧ colE M k i ≤ B := by
  unfold colE
  cases hr : M[i]? with
  | none => exact ⟨by show -B ≤ 0; omega, hB⟩
  | some r =>
    rw [Option.bind_some]
    cases hx : r[k]? with
    | none => exact ⟨by show -B ≤ 0; omega, hB⟩
    | some x => exact h r (List.mem_of_getElem? hr) x (List.mem_of_getElem? hx)
theorem col_sq {M : List (List Int)} (h : ∀ r ∈ M, ∀ x ∈ r, -16777216 ≤ x ∧ x ≤ 16777216) (k : Nat) : (colV4 M k).dot (colV4 M k) ≤ 1125899906842624 := by
  have p : ∀ i, colE M k i * colE M k i ≤ 281474976710656 := fun i => by
    have := colE_bd (B := 16777216) (by decide) h k i
    have a := Int.mul_nonneg (show 0 ≤ 16777216 - colE M k i by omega) (show 0 ≤ 16777216 + colE M k i by omega)
    have e : (16777216 - colE M k i) * (16777216 + colE M k i) = 281474976710656 - colE M k i * colE M k i := by grind
    omega
  have := p 0
  have := p 1
  have := p 2
  have := p 3
  show colE M k 0 * colE M k 0 + colE M k 1 * colE M k 1 + colE M k 2 * colE M k 2 + colE M k 3 * colE M k 3 ≤ _
  omega
theorem col_sup {M : List (List Int)} {n : Nat} (h : M.length = n) (k : Nat) : (colV4 M k).sup n := ⟨fun q => colE_out (by omega), fun q => colE_out (by omega), fun q => colE_out (by omega)⟩
/-- The frame of a matrix of numbers is good. -/
theorem frame_good {M : List (List Int)} {n : Nat} (hM : M.length = n) (hn : n ≤ 4) (h : ∀ r ∈ M, ∀ x ∈ r, -16777216 ≤ x ∧ x ≤ 16777216) : ∀ k, k ≤ n → ∃ fs : List V4, fs.length = k ∧ frameV M n k = fs.map V4.l ∧ Good n fs
  | 0, _ => ⟨[], rfl, rfl, nofun, fun i j p q _ hp => by simp at hp⟩
  | k + 1, hk => by
    obtain ⟨fs, hl, he, hg⟩ := frame_good hM hn h k (by omega)
    obtain ⟨y, hy, hgy⟩ := dir_good hn hg (by omega) (col_sq h k) (col_sup hM k)
    refine ⟨fs ++ [y], by rw [List.length_append, hl]; rfl, ?_, hgy⟩
    rw [frameV, he, col_l (by omega) k, hy, List.map_append]
    rfl
theorem orth_pre {M : List (List Int)} {n : Nat} (hM : M.length = n) (hn : n ≤ 4) (h : ∀ r ∈ M, ∀ x ∈ r, -16777216 ≤ x ∧ x ≤ 16777216) :
    (∀ k, k ≤ n → ∀ u ∈ frameV M n k, ∀ a ∈ u, -131072 ≤ a ∧ a ≤ 131072) ∧ ∀ k, k < n → RedOk (frameV M n k) (colV M k) ∧ ∀ j, j < n → RedOk (frameV M n k) (axV j) := by
  refine ⟨fun k hk u hu a ha => ?_, fun k hk => ?_⟩
  · obtain ⟨fs, hl, he, hg⟩ := frame_good hM hn h k hk
    rw [he, List.mem_map] at hu
    obtain ⟨q, hq, rfl⟩ := hu
    have := comp_bd (A := 65556) (by decide) (V4.nrm_sq (hg.1 q hq).1) a ha
    omega
  · obtain ⟨fs, hl, he, hg⟩ := frame_good hM hn h k (by omega)
    rw [he, col_l (by omega)]
    exact ⟨red_ok4 (fun q hq => (hg.1 q hq).1) (by omega) (col_sq h k), fun j hj => by rw [ax_l (by omega)]; exact red_ok4 (fun q hq => (hg.1 q hq).1) (by omega) (ax_sq j)⟩
/-- The first n components of a vector. -/
def V4.fst (v : V4) (n : Nat) : List Int := v.l.take n
theorem fst_bd {q : V4} (hq : q.nrm) (n : Nat) : ∀ a ∈ q.fst n, -65556 ≤ a ∧ a ≤ 65556 := fun a ha => comp_bd (A := 65556) (by decide) (V4.nrm_sq hq) a (List.mem_of_mem_take ha)
theorem fst_len (v : V4) {n : Nat} (h : n ≤ 4) : (v.fst n).length = n := by simp [V4.fst, V4.l]; omega
theorem fst_of {u v : V4} {n : Nat} (h : u.l = v.l) : u.fst n = v.fst n := by unfold V4.fst; rw [h]
theorem wo_fst {n : Nat} {w u : V4} (h1 : 1 ≤ n) (h4 : n ≤ 4) (hw : w.sup n) (hu : u.sup n) : withoutV (w.fst n) (u.fst n) = (w.wo u).fst n := by
  have e : alongV (w.fst n) (u.fst n) = w.al u := by
    obtain ⟨s1, s2, s3⟩ := hu
    match n, h1, h4 with
    | 1, _, _ => simp [alongV, partL, V4.fst, V4.l, V4.al, s1 (by decide), s2 (by decide), s3 (by decide), dn_zero65]
    | 2, _, _ => simp [alongV, partL, V4.fst, V4.l, V4.al, s2 (by decide), s3 (by decide), dn_zero65]
    | 3, _, _ => simp [alongV, partL, V4.fst, V4.l, V4.al, s3 (by decide), dn_zero65]; omega
    | 4, _, _ => simp [alongV, partL, V4.fst, V4.l, V4.al]; omega
  unfold withoutV
  rw [e]
  match n, h1, h4 with
  | 1, _, _ => simp [V4.fst, V4.l, V4.wo]
  | 2, _, _ => simp [V4.fst, V4.l, V4.wo]
  | 3, _, _ => simp [V4.fst, V4.l, V4.wo]
  | 4, _, _ => simp [V4.fst, V4.l, V4.wo]
theorem pass_fst {n : Nat} (h1 : 1 ≤ n) (h4 : n ≤ 4) : ∀ (fs : List V4) (w : V4), w.sup n → (∀ q ∈ fs, q.sup n) → passV (fs.map fun q => q.fst n) (w.fst n) = (pass4 fs w).fst n
  | [], w, _, _ => rfl
  | q :: fs, w, h, g => by
    show passV (fs.map fun q => q.fst n) (withoutV (w.fst n) (q.fst n)) = _
    rw [wo_fst h1 h4 h (g q (by simp))]
    exact pass_fst h1 h4 fs _ (sup_wo h (g q (by simp))) fun x hx => g x (by simp [hx])
theorem scl_fst (x : V4) (L : Int) (n : Nat) : (x.scl L).fst n = (x.fst n).map fun a => dn (a * 65536) L := by
  have z : dn 0 L = 0 := by unfold dn; exact Int.zero_fdiv L
  have e : (x.scl L).l = x.l.map fun a => dn (a * 65536) L := by simp [V4.l, V4.scl, z]
  unfold V4.fst
  rw [List.map_take, e]
theorem sq_fst {x : V4} {n : Nat} (h1 : 1 ≤ n) (h4 : n ≤ 4) (h : x.sup n) : sqV (x.fst n) = x.dot x := by
  obtain ⟨s1, s2, s3⟩ := h
  match n, h1, h4 with
  | 1, _, _ => simp [sqV, V4.fst, V4.l, V4.dot, s1 (by decide), s2 (by decide), s3 (by decide)]
  | 2, _, _ => simp [sqV, V4.fst, V4.l, V4.dot, s2 (by decide), s3 (by decide)]
  | 3, _, _ => simp [sqV, V4.fst, V4.l, V4.dot, s3 (by decide)]; omega
  | 4, _, _ => simp [sqV, V4.fst, V4.l, V4.dot]; omega
theorem len_isq {x : V4} (h : x.dot x ≤ 33554532 * 33554532) : lenV x.l = isq (x.dot x) := by
  have l := isq_lt (q := 33554533) x.self_nn (by omega) (by decide)
  unfold lenV
  rw [sq_l]
  omega
theorem ax_fst {n j : Nat} (h4 : n ≤ 4) (hj : j < n) : (List.replicate n (0 : Int)).set j 65536 = (V4.ax j).fst n :=
  (by decide : ∀ n : Fin 5, ∀ j : Fin 4, j.1 < n.1 → (List.replicate n.1 (0 : Int)).set j.1 65536 = (V4.ax j.1).fst n.1) ⟨n, by omega⟩ ⟨j, by omega⟩ hj
theorem fst_at {x : V4} {n i : Nat} (h4 : n ≤ 4) (hi : i < n) : ∃ a, (x.fst n)[i]? = some a := ⟨_, List.getElem?_eq_getElem (by rw [fst_len x h4]; exact hi)⟩
theorem fst_lim {x : V4} {A : Int} (hA : 0 ≤ A) (h : x.dot x ≤ A * A) (n : Nat) : ∀ a ∈ x.fst n, -A ≤ a ∧ a ≤ A := fun a ha => comp_bd hA h a (List.mem_of_mem_take ha)
/-- The first axis of which enough is left is taken. -/
theorem axDir_at (us : List (List Int)) : ∀ (l1 l2 : List Nat) (k : Nat), (∀ i ∈ l1, lenV (redV us (axV i)) < 16384) → 16384 ≤ lenV (redV us (axV k)) → axDir us (l1 ++ k :: l2) = normV (redV us (axV k))
  | [], l2, k, _, h => by show axDir us (k :: l2) = _; unfold axDir; rw [if_pos h]
  | i :: l1, l2, k, h1, h => by
    show axDir us (i :: (l1 ++ k :: l2)) = _
    unfold axDir
    rw [if_neg (by have := h1 i (by simp); omega)]
    exact axDir_at us l1 l2 k (fun j hj => h1 j (by simp [hj])) h
theorem axDir_first {us : List (List Int)} {n k : Nat} (hk : k < n) (h1 : ∀ i, i < k → lenV (redV us (axV i)) < 16384) (h : 16384 ≤ lenV (redV us (axV k))) : axDir us (List.range n) = normV (redV us (axV k)) := by
  have e : List.range n = (List.range n).take k ++ k :: (List.range n).drop (k + 1) := by
    have := List.take_append_drop k (List.range n)
    rw [List.drop_eq_getElem_cons (by simpa using hk)] at this
    simpa using this.symm
  rw [e]
  refine axDir_at us _ _ k (fun i hi => h1 i ?_) h
  obtain ⟨j, hj⟩ := List.getElem?_of_mem hi
  rw [List.getElem?_take] at hj
  split at hj
  · rw [List.getElem?_range (by omega)] at hj
    have := Option.some.inj hj
    omega
  · cases hj
end Go.Proofs.Ytmcdkbnpcmiojaa
