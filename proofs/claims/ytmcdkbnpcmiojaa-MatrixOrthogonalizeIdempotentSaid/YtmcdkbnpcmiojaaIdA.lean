/-
  Orthogonalizing an orthogonalized matrix again changes little: the mathematics.
-/
import Derived.Test.YtmcdkbnpcmiojaaOrthA
namespace Go.Proofs.Ytmcdkbnpcmiojaa
open Go.ChangeShapes Go.WideShapes Go.ChangeAt Go.RowKit
set_option linter.unusedVariables false
set_option linter.unusedSimpArgs false
set_option maxRecDepth 100000

/-- Every component of w lies within T of that of u. -/
def Cl (w u : V4) (T : Int) : Prop := (-T ≤ w.a - u.a ∧ w.a - u.a ≤ T) ∧ (-T ≤ w.b - u.b ∧ w.b - u.b ≤ T) ∧ (-T ≤ w.c - u.c ∧ w.c - u.c ≤ T) ∧ (-T ≤ w.d - u.d ∧ w.d - u.d ≤ T)
theorem Cl.mono {w u : V4} {T S : Int} (h : Cl w u T) (hs : T ≤ S) : Cl w u S := by
  obtain ⟨⟨a1, a2⟩, ⟨b1, b2⟩, ⟨c1, c2⟩, ⟨d1, d2⟩⟩ := h
  exact ⟨⟨by omega, by omega⟩, ⟨by omega, by omega⟩, ⟨by omega, by omega⟩, ⟨by omega, by omega⟩⟩
theorem Cl.refl (u : V4) : Cl u u 0 := ⟨⟨by omega, by omega⟩, ⟨by omega, by omega⟩, ⟨by omega, by omega⟩, ⟨by omega, by omega⟩⟩
theorem prod_lim {c q F B : Int} (h1 : -F ≤ 65536 * c) (h2 : 65536 * c ≤ F) (h3 : -B ≤ q) (h4 : q ≤ B) : -(F * B) ≤ 65536 * (c * q) ∧ 65536 * (c * q) ≤ F * B := by
  have p1 := Int.mul_nonneg (show 0 ≤ F - 65536 * c by omega) (show 0 ≤ B - q by omega)
  have p2 := Int.mul_nonneg (show 0 ≤ F + 65536 * c by omega) (show 0 ≤ B - q by omega)
  have p3 := Int.mul_nonneg (show 0 ≤ F - 65536 * c by omega) (show 0 ≤ B + q by omega)
  have p4 := Int.mul_nonneg (show 0 ≤ F + 65536 * c by omega) (show 0 ≤ B + q by omega)
  grind
theorem comps {q : V4} {A : Int} (hA : 0 ≤ A) (h : q.dot q ≤ A * A) : (-A ≤ q.a ∧ q.a ≤ A) ∧ (-A ≤ q.b ∧ q.b ≤ A) ∧ (-A ≤ q.c ∧ q.c ≤ A) ∧ (-A ≤ q.d ∧ q.d ≤ A) := by
  have h1 := comp_bd hA h q.a (by simp [V4.l])
  have h2 := comp_bd hA h q.b (by simp [V4.l])
  have h3 := comp_bd hA h q.c (by simp [V4.l])
  have h4 := comp_bd hA h q.d (by simp [V4.l])
  exact ⟨h1, h2, h3, h4⟩
theorem close_step {w u q : V4} {A T S : Int} (hq : q.nrm) (h : DB w q A) (hc : Cl w u T) (hS : (A + 262140) * 65556 + 4294967296 ≤ 4294967296 * S) : Cl (w.wo q) u (T + S) := by
  obtain ⟨c, s, r, hs⟩ := stp w q
  obtain ⟨g1, g2⟩ := h
  have e := hs.hc
  have s0 := hs.s0
  have s1 := hs.s1
  obtain ⟨q1, q2, q3, q4⟩ := comps (by decide) (V4.nrm_sq hq)
  have m1 := prod_lim (c := c) (F := A + 262140) (by omega) (by omega) q1.1 q1.2
  have m2 := prod_lim (c := c) (F := A + 262140) (by omega) (by omega) q2.1 q2.2
  have m3 := prod_lim (c := c) (F := A + 262140) (by omega) (by omega) q3.1 q3.2
  have m4 := prod_lim (c := c) (F := A + 262140) (by omega) (by omega) q4.1 q4.2
  obtain ⟨⟨a1, a2⟩, ⟨b1, b2⟩, ⟨c1, c2⟩, ⟨d1, d2⟩⟩ := hc
  obtain ⟨⟨ra1, ra2⟩, ⟨rb1, rb2⟩, ⟨rc1, rc2⟩, ⟨rd1, rd2⟩⟩ := hs.rw
  have ha := hs.ha
  have hb := hs.hb
  have hcc := hs.hcc
  have hd := hs.hd
  exact ⟨⟨by omega, by omega⟩, ⟨by omega, by omega⟩, ⟨by omega, by omega⟩, ⟨by omega, by omega⟩⟩
/-- The square of the length changes little in one step. -/
theorem energy_step {w q : V4} {A N U G : Int} (hq : q.nrm) (h : DB w q A) (hw : w.dot w ≤ 65640 * 65640) (hN : N ≤ w.dot w) (hU : w.dot w ≤ U) (hG : 2 * (A * (A + 262140)) + 131072 * 131070 * 65640 + (A + 262140) * 262221 ≤ 4294967296 * G) : N - G ≤ (w.wo q).dot (w.wo q) ∧ (w.wo q).dot (w.wo q) ≤ U + 262610 := by
  obtain ⟨c, s, r, hs⟩ := stp w q
  obtain ⟨g1, g2⟩ := h
  have hA : 0 ≤ A := by omega
  have hr := hs.rq hq
  have hwr := V4.cs_bd (v := w) (u := r) (A := 65640) (B := 2 * 65535) (by decide) (by decide) hw (V4.within_sq hs.rw)
  have hrr := V4.within_sq hs.rw
  have hrn := r.self_nn
  generalize w.wo q = w' at *
  have e : 65536 * (65536 * w'.dot w') = 65536 * (65536 * w.dot w) - 2 * 65536 * (c * w.dot q) + c * c * q.dot q + 2 * 65536 * w.dot r - 2 * (c * r.dot q) + r.dot r := by
    have e1 := congrArg (fun x => x * x) hs.ha
    have e2 := congrArg (fun x => x * x) hs.hb
    have e3 := congrArg (fun x => x * x) hs.hcc
    have e4 := congrArg (fun x => x * x) hs.hd
    unfold V4.dot
    grind
  have e2 : 2 * 65536 * (c * w.dot q) = 2 * 4294967296 * (c * c) + 2 * 65536 * (c * s) := by
    have : w.dot q = 65536 * c + s := by have := hs.hc; omega
    rw [this]
    grind
  obtain ⟨n1, n2⟩ := hq
  have s0 := hs.s0
  have s1 := hs.s1
  have hcA := hs.hc
  have m1 := prod_lim (c := c) (F := A + 262140) (B := A) (by omega) (by omega) g1 g2
  have m2 := prod_lim (c := c) (F := A + 262140) (B := 8592424920) (by omega) (by omega) hr.1 hr.2
  have mA : (A + 262140) * A = A * (A + 262140) := Int.mul_comm _ _
  have cc0 := sq4_nn c
  have q1 := Int.mul_nonneg (sq4_nn c) (show 0 ≤ 4297588736 - q.dot q by omega)
  have q2 : c * c * (4297588736 - q.dot q) = 4297588736 * (c * c) - c * c * q.dot q := by grind
  have q5 := Int.mul_nonneg (sq4_nn c) (show 0 ≤ q.dot q by omega)
  obtain ⟨k, hk0, hk1, hk2, hk3⟩ : ∃ k, 0 ≤ k ∧ c * c = k * k ∧ -(k * 262140) ≤ c * s ∧ -(k * 8592424920) ≤ c * r.dot q := by
    rcases Int.le_total 0 c with g | g
    · exact ⟨c, g, rfl, by
        have := Int.mul_nonneg g s0
        have := Int.mul_nonneg g (show (0 : Int) ≤ 262140 by decide)
        omega, by
        have := Int.mul_nonneg g (show 0 ≤ r.dot q + 8592424920 by omega)
        rw [Int.mul_add] at this
        omega⟩
    · exact ⟨-c, by omega, by grind, by
        have := Int.mul_nonneg (show 0 ≤ -c by omega) (show 0 ≤ 262140 - s by omega)
        grind, by
        have := Int.mul_nonneg (show 0 ≤ -c by omega) (show 0 ≤ 8592424920 - r.dot q by omega)
        grind⟩
  have q3 : 0 ≤ (k - 6) * (k - 7) := by
    rcases Int.le_total k 6 with g | g
    · have := Int.mul_nonneg (show 0 ≤ 6 - k by omega) (show 0 ≤ 7 - k by omega)
      grind
    · rcases Int.lt_or_le k 7 with g2 | g2
      · obtain rfl : k = 6 := by omega
        decide
      · exact Int.mul_nonneg (by omega) (by omega)
  have q4 : (k - 6) * (k - 7) = k * k - 13 * k + 42 := by grind
  generalize c * c = cc at *
  generalize hkk : k * k = kk at *
  generalize w.dot w = W at *
  generalize w'.dot w' = W' at *
  generalize c * s = cs at *
  generalize c * r.dot q = cr at *
  generalize c * w.dot q = cw at *
  generalize w.dot r = wr at *
  generalize r.dot r = rr at *
  generalize cc * q.dot q = ku at *
  generalize A * (A + 262140) = AA at *
  constructor
  · omega
  · omega
theorem Scl.bd2 {x y f : V4} {L E B : Int} (h : Scl x y L f) (hL : 65450 ≤ L) {q : V4} (hq : q.nrm) (hx : DB x q E) (hB : 65536 * E + 131112 * 65450 ≤ 65450 * B) : DB y q B := by
  have e := h.dot q
  have hf := V4.cs_bd (A := 2 * (L - 1)) (B := 65556) (by omega) (by decide) (V4.within_sq h.fw) (V4.nrm_sq hq)
  obtain ⟨h1, h2⟩ := hx
  have hE : 0 ≤ E := by omega
  have hBp : 0 ≤ B - 131112 := by omega
  have m := Int.mul_nonneg hBp (show 0 ≤ L - 65450 by omega)
  have e2 : (B - 131112) * (L - 65450) = L * B - 65450 * B - 131112 * L + 131112 * 65450 := by grind
  constructor
  · refine Int.not_lt.1 fun g => ?_
    have := Int.mul_lt_mul_of_pos_left g (show 0 < L by omega)
    rw [Int.mul_neg] at this
    omega
  · refine Int.not_lt.1 fun g => ?_
    have := Int.mul_lt_mul_of_pos_left g (show 0 < L by omega)
    omega
theorem scl_near {L x y f : Int} (h : L * y = 65536 * x - f) (h0 : 0 ≤ f) (h1 : f ≤ L - 1) (hL : 65450 ≤ L) (hL2 : L ≤ 65622) (hx : -65622 ≤ x ∧ x ≤ 65622) : -88 ≤ y - x ∧ y - x ≤ 88 := by
  have p1 := Int.mul_nonneg (show 0 ≤ 65622 - x by omega) (show 0 ≤ 86 - (65536 - L) by omega)
  have p2 := Int.mul_nonneg (show 0 ≤ 65622 + x by omega) (show 0 ≤ 86 - (65536 - L) by omega)
  have p3 := Int.mul_nonneg (show 0 ≤ 65622 - x by omega) (show 0 ≤ 86 + (65536 - L) by omega)
  have p4 := Int.mul_nonneg (show 0 ≤ 65622 + x by omega) (show 0 ≤ 86 + (65536 - L) by omega)
  have e : L * (y - x) = (65536 - L) * x - f := by grind
  have b : -(86 * 65622) ≤ (65536 - L) * x ∧ (65536 - L) * x ≤ 86 * 65622 := by grind
  constructor
  · refine Int.not_lt.1 fun g => ?_
    have := Int.mul_le_mul_of_nonneg_left (show y - x ≤ -89 by omega) (show 0 ≤ L by omega)
    omega
  · refine Int.not_lt.1 fun g => ?_
    have := Int.mul_le_mul_of_nonneg_left (show 89 ≤ y - x by omega) (show 0 ≤ L by omega)
    omega
/-- What is scaled behind a reduction that has changed the length little. -/
theorem near_end {ps : List V4} {u p : V4} {n : Nat} (hn : ∀ q ∈ ps, q.nrm) (hl : ps.length ≤ 4) (hu : u.nrm) (hp : p.l = dirV (ps.map V4.l) u.l n) (h1 : 65450 * 65450 ≤ (red4 ps u).dot (red4 ps u)) (h2 : (red4 ps u).dot (red4 ps u) < 65623 * 65623) :
    ∃ L f, Scl (red4 ps u) p L f ∧ 65450 ≤ L ∧ L ≤ 65622 := by
  have hw : u.dot u ≤ 1125899906842624 := by have := hu.2; omega
  have hx := len_l (red_norm hn hl hw)
  have hb : 65450 ≤ lenV (red4 ps u).l ∧ lenV (red4 ps u).l ≤ 65622 := by
    generalize lenV (red4 ps u).l = L at *
    constructor
    · refine Int.not_lt.1 fun g => ?_
      have := Int.mul_le_mul (show L + 1 ≤ 65450 by omega) (show L + 1 ≤ 65450 by omega) (by omega) (by decide)
      omega
    · refine Int.not_lt.1 fun g => ?_
      have := Int.mul_le_mul (show 65623 ≤ L by omega) (show 65623 ≤ L by omega) (by decide) (by omega)
      omega
  have e : p.l = ((red4 ps u).scl (lenV (red4 ps u).l)).l := by
    rw [hp]
    unfold dirV
    rw [red_l, if_pos (by omega), nrm_l]
  have ep : p = (red4 ps u).scl (lenV (red4 ps u).l) := by
    generalize (red4 ps u).scl (lenV (red4 ps u).l) = z at *
    obtain ⟨a, b, c, d⟩ := p
    obtain ⟨a', b', c', d'⟩ := z
    simp [V4.l] at e
    obtain ⟨rfl, rfl, rfl, rfl⟩ := e
    rfl
  obtain ⟨f, hf⟩ := scl (red4 ps u) (L := lenV (red4 ps u).l) (by omega)
  rw [← ep] at hf
  exact ⟨_, f, hf, hb⟩
theorem near_cl {x p f : V4} {L T : Int} {u : V4} (h : Scl x p L f) (hL : 65450 ≤ L) (hL2 : L ≤ 65622) (hx : x.dot x < 65623 * 65623) (hc : Cl x u T) : Cl p u (T + 88) := by
  have hx2 : x.dot x ≤ 65623 * 65623 := by omega
  obtain ⟨q1, q2, q3, q4⟩ := comps (A := 65623) (by decide) hx2
  have sq : ∀ z : Int, z * z ≤ x.dot x → -65622 ≤ z ∧ z ≤ 65622 := fun z hz => by
    constructor
    · refine Int.not_lt.1 fun g => ?_
      have := Int.mul_le_mul (show 65623 ≤ -z by omega) (show 65623 ≤ -z by omega) (by decide) (by omega)
      have e : -z * -z = z * z := by grind
      omega
    · refine Int.not_lt.1 fun g => ?_
      have := Int.mul_le_mul (show 65623 ≤ z by omega) (show 65623 ≤ z by omega) (by decide) (by omega)
      omega
  have z1 := sq4_nn x.a
  have z2 := sq4_nn x.b
  have z3 := sq4_nn x.c
  have z4 := sq4_nn x.d
  have ed : x.dot x = x.a * x.a + x.b * x.b + x.c * x.c + x.d * x.d := rfl
  have na := scl_near h.ha h.fw.1.1 h.fw.1.2 hL hL2 (sq _ (by omega))
  have nb := scl_near h.hb h.fw.2.1.1 h.fw.2.1.2 hL hL2 (sq _ (by omega))
  have nc := scl_near h.hc h.fw.2.2.1.1 h.fw.2.2.1.2 hL hL2 (sq _ (by omega))
  have nd := scl_near h.hd h.fw.2.2.2.1 h.fw.2.2.2.2 hL hL2 (sq _ (by omega))
  obtain ⟨⟨a1, a2⟩, ⟨b1, b2⟩, ⟨c1, c2⟩, ⟨d1, d2⟩⟩ := hc
  exact ⟨⟨by omega, by omega⟩, ⟨by omega, by omega⟩, ⟨by omega, by omega⟩, ⟨by omega, by omega⟩⟩
theorem idst0 {u p : V4} {n : Nat} (hu : u.nrm) (hp : p.l = dirV (([] : List V4).map V4.l) u.l n) : Cl p u 88 ∧ ∀ (v : V4) (E B : Int), v.nrm → DB u v E → 65536 * E + 131112 * 65450 ≤ 65450 * B → DB p v B := by
  obtain ⟨L, f, hf, hL, hL2⟩ := near_end (ps := []) (by simp) (by simp) hu hp (Int.le_trans (by decide) hu.1) (Int.lt_of_le_of_lt hu.2 (by decide))
  exact ⟨(near_cl hf hL hL2 (Int.lt_of_le_of_lt hu.2 (by decide)) (Cl.refl u)).mono (by decide), fun v E B hv h hB => hf.bd2 hL hv h hB⟩
set_option maxHeartbeats 4000000 in
theorem idst1 {u p p0 v2 v3 : V4} {n : Nat} (hu : u.nrm) (n0 : p0.nrm)  (s0 : DB u p0 9974429) (nv2 : v2.nrm) (sv2 : DB u v2 9830400) (e0v2 : DB p0 v2 9974429) (nv3 : v3.nrm) (sv3 : DB u v3 15669656) (e0v3 : DB p0 v3 15821358) (hp : p.l = dirV (([p0] : List V4).map V4.l) u.l n) : Cl p u 270 ∧ DB p v2 10395288 ∧ DB p v3 16257927 := by
  have c1 := close_step (S := 158) n0 s0 (Cl.refl u) (by decide)
  have g1 := energy_step (G := 310727) n0 s0 (Int.le_trans hu.2 (by decide)) hu.1 hu.2 (by decide)
  have a1_0 := self_bd (B := 399521) n0 s0 (by decide)
  have v1_v2 := other_bd (D := 153) (B := 9985409) nv2 s0 sv2 (e0v2.mono (by decide)) (by decide)
  have v1_v3 := other_bd (D := 242) (B := 15838566) nv3 s0 sv3 (e0v3.mono (by decide)) (by decide)
  have c2 := close_step (S := 12) n0 a1_0 c1 (by decide)
  have g2 := energy_step (G := 262720) n0 a1_0 (Int.le_trans g1.2 (by decide)) g1.1 g1.2 (by decide)
  have a2_0 := self_bd (B := 393677) n0 a1_0 (by decide)
  have v2_v2 := other_bd (D := 153) (B := 10118064) nv2 a1_0 v1_v2 (e0v2.mono (by decide)) (by decide)
  have v2_v3 := other_bd (D := 242) (B := 15972120) nv3 a1_0 v1_v3 (e0v3.mono (by decide)) (by decide)
  have c3 := close_step (S := 12) n0 a2_0 c2 (by decide)
  have g3 := energy_step (G := 262717) n0 a2_0 (Int.le_trans g2.2 (by decide)) g2.1 g2.2 (by decide)
  have a3_0 := self_bd (B := 393673) n0 a2_0 (by decide)
  have v3_v2 := other_bd (D := 153) (B := 10250706) nv2 a2_0 v2_v2 (e0v2.mono (by decide)) (by decide)
  have v3_v3 := other_bd (D := 242) (B := 16105652) nv3 a2_0 v2_v3 (e0v3.mono (by decide)) (by decide)
  obtain ⟨L, f, hf, hL, hL2⟩ := near_end (ps := [p0]) (by simp [n0]) (by simp) hu hp (Int.le_trans (by decide) g3.1) (Int.lt_of_le_of_lt g3.2 (by decide))
  exact ⟨(near_cl hf hL hL2 (Int.lt_of_le_of_lt g3.2 (by decide)) c3).mono (by decide), hf.bd2 hL nv2 v3_v2 (by decide), hf.bd2 hL nv3 v3_v3 (by decide)⟩
set_option maxHeartbeats 4000000 in
theorem idst1b {u p p0 v2 : V4} {n : Nat} (hu : u.nrm) (n0 : p0.nrm)  (s0 : DB u p0 9974429) (nv2 : v2.nrm) (sv2 : DB u v2 9830400) (e0v2 : DB p0 v2 9974429) (hp : p.l = dirV (([p0] : List V4).map V4.l) u.l n) : Cl p u 270 ∧ DB p v2 10395288 := by
  have c1 := close_step (S := 158) n0 s0 (Cl.refl u) (by decide)
  have g1 := energy_step (G := 310727) n0 s0 (Int.le_trans hu.2 (by decide)) hu.1 hu.2 (by decide)
  have a1_0 := self_bd (B := 399521) n0 s0 (by decide)
  have v1_v2 := other_bd (D := 153) (B := 9985409) nv2 s0 sv2 (e0v2.mono (by decide)) (by decide)
  have c2 := close_step (S := 12) n0 a1_0 c1 (by decide)
  have g2 := energy_step (G := 262720) n0 a1_0 (Int.le_trans g1.2 (by decide)) g1.1 g1.2 (by decide)
  have a2_0 := self_bd (B := 393677) n0 a1_0 (by decide)
  have v2_v2 := other_bd (D := 153) (B := 10118064) nv2 a1_0 v1_v2 (e0v2.mono (by decide)) (by decide)
  have c3 := close_step (S := 12) n0 a2_0 c2 (by decide)
  have g3 := energy_step (G := 262717) n0 a2_0 (Int.le_trans g2.2 (by decide)) g2.1 g2.2 (by decide)
  have a3_0 := self_bd (B := 393673) n0 a2_0 (by decide)
  have v3_v2 := other_bd (D := 153) (B := 10250706) nv2 a2_0 v2_v2 (e0v2.mono (by decide)) (by decide)
  obtain ⟨L, f, hf, hL, hL2⟩ := near_end (ps := [p0]) (by simp [n0]) (by simp) hu hp (Int.le_trans (by decide) g3.1) (Int.lt_of_le_of_lt g3.2 (by decide))
  exact ⟨(near_cl hf hL hL2 (Int.lt_of_le_of_lt g3.2 (by decide)) c3).mono (by decide), hf.bd2 hL nv2 v3_v2 (by decide)⟩
set_option maxHeartbeats 4000000 in
theorem idst1c {u p p0  : V4} {n : Nat} (hu : u.nrm) (n0 : p0.nrm)  (s0 : DB u p0 9974429) (hp : p.l = dirV (([p0] : List V4).map V4.l) u.l n) : Cl p u 270 := by
  have c1 := close_step (S := 158) n0 s0 (Cl.refl u) (by decide)
  have g1 := energy_step (G := 310727) n0 s0 (Int.le_trans hu.2 (by decide)) hu.1 hu.2 (by decide)
  have a1_0 := self_bd (B := 399521) n0 s0 (by decide)
  have c2 := close_step (S := 12) n0 a1_0 c1 (by decide)
  have g2 := energy_step (G := 262720) n0 a1_0 (Int.le_trans g1.2 (by decide)) g1.1 g1.2 (by decide)
  have a2_0 := self_bd (B := 393677) n0 a1_0 (by decide)
  have c3 := close_step (S := 12) n0 a2_0 c2 (by decide)
  have g3 := energy_step (G := 262717) n0 a2_0 (Int.le_trans g2.2 (by decide)) g2.1 g2.2 (by decide)
  have a3_0 := self_bd (B := 393673) n0 a2_0 (by decide)
  obtain ⟨L, f, hf, hL, hL2⟩ := near_end (ps := [p0]) (by simp [n0]) (by simp) hu hp (Int.le_trans (by decide) g3.1) (Int.lt_of_le_of_lt g3.2 (by decide))
  exact (near_cl hf hL hL2 (Int.lt_of_le_of_lt g3.2 (by decide)) c3).mono (by decide)
set_option maxHeartbeats 4000000 in
theorem idst2 {u p p0 p1 v3 : V4} {n : Nat} (hu : u.nrm) (n0 : p0.nrm) (n1 : p1.nrm) (d01 : DB p0 p1 9830400) (s0 : DB u p0 9974429) (s1 : DB u p1 10395288) (nv3 : v3.nrm) (sv3 : DB u v3 15669656) (e0v3 : DB p0 v3 15821358) (e1v3 : DB p1 v3 16257927) (hp : p.l = dirV (([p0, p1] : List V4).map V4.l) u.l n) : Cl p u 469 ∧ DB p v3 16700002 := by
  have c1 := close_step (S := 158) n0 s0 (Cl.refl u) (by decide)
  have g1 := energy_step (G := 310727) n0 s0 (Int.le_trans hu.2 (by decide)) hu.1 hu.2 (by decide)
  have a1_0 := self_bd (B := 399521) n0 s0 (by decide)
  have a1_1 := other_bd (D := 150) (B := 10549828) n1 s0 s1 d01 (by decide)
  have v1_v3 := other_bd (D := 242) (B := 15838566) nv3 s0 sv3 (e0v3.mono (by decide)) (by decide)
  have c2 := close_step (S := 167) n1 a1_1 c1 (by decide)
  have g2 := energy_step (G := 316332) n1 a1_1 (Int.le_trans g1.2 (by decide)) g1.1 g1.2 (by decide)
  have a2_0 := other_bd (D := 150) (B := 555378) n0 a1_1 a1_0 d01.symm (by decide)
  have a2_1 := self_bd (B := 399872) n1 a1_1 (by decide)
  have v2_v3 := other_bd (D := 249) (B := 16010756) nv3 a1_1 v1_v3 (e1v3.mono (by decide)) (by decide)
  have c3 := close_step (S := 14) n0 a2_0 c2 (by decide)
  have g3 := energy_step (G := 262818) n0 a2_0 (Int.le_trans g2.2 (by decide)) g2.1 g2.2 (by decide)
  have a3_0 := self_bd (B := 393772) n0 a2_0 (by decide)
  have a3_1 := other_bd (D := 150) (B := 532854) n1 a2_0 a2_1 d01 (by decide)
  have v3_v3 := other_bd (D := 242) (B := 16144885) nv3 a2_0 v2_v3 (e0v3.mono (by decide)) (by decide)
  have c4 := close_step (S := 14) n1 a3_1 c3 (by decide)
  have g4 := energy_step (G := 262802) n1 a3_1 (Int.le_trans g3.2 (by decide)) g3.1 g3.2 (by decide)
  have a4_0 := other_bd (D := 150) (B := 526702) n0 a3_1 a3_0 d01.symm (by decide)
  have a4_1 := self_bd (B := 393758) n1 a3_1 (by decide)
  have v4_v3 := other_bd (D := 249) (B := 16279016) nv3 a3_1 v3_v3 (e1v3.mono (by decide)) (by decide)
  have c5 := close_step (S := 14) n0 a4_0 c4 (by decide)
  have g5 := energy_step (G := 262798) n0 a4_0 (Int.le_trans g4.2 (by decide)) g4.1 g4.2 (by decide)
  have a5_0 := self_bd (B := 393755) n0 a4_0 (by decide)
  have a5_1 := other_bd (D := 150) (B := 526674) n1 a4_0 a4_1 d01 (by decide)
  have v5_v3 := other_bd (D := 242) (B := 16413039) nv3 a4_0 v4_v3 (e0v3.mono (by decide)) (by decide)
  have c6 := close_step (S := 14) n1 a5_1 c5 (by decide)
  have g6 := energy_step (G := 262798) n1 a5_1 (Int.le_trans g5.2 (by decide)) g5.1 g5.2 (by decide)
  have a6_0 := other_bd (D := 150) (B := 526671) n0 a5_1 a5_0 d01.symm (by decide)
  have a6_1 := self_bd (B := 393755) n1 a5_1 (by decide)
  have v6_v3 := other_bd (D := 249) (B := 16547147) nv3 a5_1 v5_v3 (e1v3.mono (by decide)) (by decide)
  obtain ⟨L, f, hf, hL, hL2⟩ := near_end (ps := [p0, p1]) (by simp [n0, n1]) (by simp) hu hp (Int.le_trans (by decide) g6.1) (Int.lt_of_le_of_lt g6.2 (by decide))
  exact ⟨(near_cl hf hL hL2 (Int.lt_of_le_of_lt g6.2 (by decide)) c6).mono (by decide), hf.bd2 hL nv3 v6_v3 (by decide)⟩
set_option maxHeartbeats 4000000 in
theorem idst2c {u p p0 p1  : V4} {n : Nat} (hu : u.nrm) (n0 : p0.nrm) (n1 : p1.nrm) (d01 : DB p0 p1 9830400) (s0 : DB u p0 9974429) (s1 : DB u p1 10395288) (hp : p.l = dirV (([p0, p1] : List V4).map V4.l) u.l n) : Cl p u 469 := by
  have c1 := close_step (S := 158) n0 s0 (Cl.refl u) (by decide)
  have g1 := energy_step (G := 310727) n0 s0 (Int.le_trans hu.2 (by decide)) hu.1 hu.2 (by decide)
  have a1_0 := self_bd (B := 399521) n0 s0 (by decide)
  have a1_1 := other_bd (D := 150) (B := 10549828) n1 s0 s1 d01 (by decide)
  have c2 := close_step (S := 167) n1 a1_1 c1 (by decide)
  have g2 := energy_step (G := 316332) n1 a1_1 (Int.le_trans g1.2 (by decide)) g1.1 g1.2 (by decide)
  have a2_0 := other_bd (D := 150) (B := 555378) n0 a1_1 a1_0 d01.symm (by decide)
  have a2_1 := self_bd (B := 399872) n1 a1_1 (by decide)
  have c3 := close_step (S := 14) n0 a2_0 c2 (by decide)
  have g3 := energy_step (G := 262818) n0 a2_0 (Int.le_trans g2.2 (by decide)) g2.1 g2.2 (by decide)
  have a3_0 := self_bd (B := 393772) n0 a2_0 (by decide)
  have a3_1 := other_bd (D := 150) (B := 532854) n1 a2_0 a2_1 d01 (by decide)
  have c4 := close_step (S := 14) n1 a3_1 c3 (by decide)
  have g4 := energy_step (G := 262802) n1 a3_1 (Int.le_trans g3.2 (by decide)) g3.1 g3.2 (by decide)
  have a4_0 := other_bd (D := 150) (B := 526702) n0 a3_1 a3_0 d01.symm (by decide)
  have a4_1 := self_bd (B := 393758) n1 a3_1 (by decide)
  have c5 := close_step (S := 14) n0 a4_0 c4 (by decide)
  have g5 := energy_step (G := 262798) n0 a4_0 (Int.le_trans g4.2 (by decide)) g4.1 g4.2 (by decide)
  have a5_0 := self_bd (B := 393755) n0 a4_0 (by decide)
  have a5_1 := other_bd (D := 150) (B := 526674) n1 a4_0 a4_1 d01 (by decide)
  have c6 := close_step (S := 14) n1 a5_1 c5 (by decide)
  have g6 := energy_step (G := 262798) n1 a5_1 (Int.le_trans g5.2 (by decide)) g5.1 g5.2 (by decide)
  have a6_0 := other_bd (D := 150) (B := 526671) n0 a5_1 a5_0 d01.symm (by decide)
  have a6_1 := self_bd (B := 393755) n1 a5_1 (by decide)
  obtain ⟨L, f, hf, hL, hL2⟩ := near_end (ps := [p0, p1]) (by simp [n0, n1]) (by simp) hu hp (Int.le_trans (by decide) g6.1) (Int.lt_of_le_of_lt g6.2 (by decide))
  exact (near_cl hf hL hL2 (Int.lt_of_le_of_lt g6.2 (by decide)) c6).mono (by decide)
set_option maxHeartbeats 4000000 in
theorem idst3 {u p p0 p1 p2  : V4} {n : Nat} (hu : u.nrm) (n0 : p0.nrm) (n1 : p1.nrm) (n2 : p2.nrm) (d01 : DB p0 p1 9830400) (d02 : DB p0 p2 9830400) (d12 : DB p1 p2 9830400) (s0 : DB u p0 15821358) (s1 : DB u p1 16257927) (s2 : DB u p2 16700002) (hp : p.l = dirV (([p0, p1, p2] : List V4).map V4.l) u.l n) : Cl p u 954 := by
  have c1 := close_step (S := 247) n0 s0 (Cl.refl u) (by decide)
  have g1 := energy_step (G := 382032) n0 s0 (Int.le_trans hu.2 (by decide)) hu.1 hu.2 (by decide)
  have a1_0 := self_bd (B := 403090) n0 s0 (by decide)
  have a1_1 := other_bd (D := 150) (B := 16425850) n1 s0 s1 d01 (by decide)
  have a1_2 := other_bd (D := 150) (B := 16867925) n2 s0 s2 d02 (by decide)
  have c2 := close_step (S := 256) n1 a1_1 c1 (by decide)
  have g2 := energy_step (G := 391220) n1 a1_1 (Int.le_trans g1.2 (by decide)) g1.1 g1.2 (by decide)
  have a2_0 := other_bd (D := 150) (B := 572396) n0 a1_1 a1_0 d01.symm (by decide)
  have a2_1 := self_bd (B := 403459) n1 a1_1 (by decide)
  have a2_2 := other_bd (D := 150) (B := 17037231) n2 a1_1 a1_2 d12 (by decide)
  have c3 := close_step (S := 266) n2 a2_2 c2 (by decide)
  have g3 := energy_step (G := 400859) n2 a2_2 (Int.le_trans g2.2 (by decide)) g2.1 g2.2 (by decide)
  have a3_0 := other_bd (D := 150) (B := 743102) n0 a2_2 a2_0 d02.symm (by decide)
  have a3_1 := other_bd (D := 150) (B := 574165) n1 a2_2 a2_1 d12.symm (by decide)
  have a3_2 := self_bd (B := 403832) n2 a2_2 (by decide)
  have c4 := close_step (S := 17) n0 a3_0 c3 (by decide)
  have g4 := energy_step (G := 262966) n0 a3_0 (Int.le_trans g3.2 (by decide)) g3.1 g3.2 (by decide)
  have a4_0 := self_bd (B := 393887) n0 a3_0 (by decide)
  have a4_1 := other_bd (D := 150) (B := 707576) n1 a3_0 a3_1 d01 (by decide)
  have a4_2 := other_bd (D := 150) (B := 537243) n2 a3_0 a3_2 d02 (by decide)
  have c5 := close_step (S := 16) n1 a4_1 c4 (by decide)
  have g5 := energy_step (G := 262935) n1 a4_1 (Int.le_trans g4.2 (by decide)) g4.1 g4.2 (by decide)
  have a5_0 := other_bd (D := 150) (B := 527217) n0 a4_1 a4_0 d01.symm (by decide)
  have a5_1 := self_bd (B := 393865) n1 a4_1 (by decide)
  have a5_2 := other_bd (D := 150) (B := 670573) n2 a4_1 a4_2 d12 (by decide)
  have c6 := close_step (S := 16) n2 a5_2 c5 (by decide)
  have g6 := energy_step (G := 262905) n2 a5_2 (Int.le_trans g5.2 (by decide)) g5.1 g5.2 (by decide)
  have a6_0 := other_bd (D := 150) (B := 660462) n0 a5_2 a5_0 d02.symm (by decide)
  have a6_1 := other_bd (D := 150) (B := 527110) n1 a5_2 a5_1 d12.symm (by decide)
  have a6_2 := self_bd (B := 393842) n2 a5_2 (by decide)
  have c7 := close_step (S := 16) n0 a6_0 c6 (by decide)
  have g7 := energy_step (G := 262897) n0 a6_0 (Int.le_trans g6.2 (by decide)) g6.1 g6.2 (by decide)
  have a7_0 := self_bd (B := 393836) n0 a6_0 (by decide)
  have a7_1 := other_bd (D := 150) (B := 660332) n1 a6_0 a6_1 d01 (by decide)
  have a7_2 := other_bd (D := 150) (B := 527064) n2 a6_0 a6_2 d02 (by decide)
  have c8 := close_step (S := 16) n1 a7_1 c7 (by decide)
  have g8 := energy_step (G := 262896) n1 a7_1 (Int.le_trans g7.2 (by decide)) g7.1 g7.2 (by decide)
  have a8_0 := other_bd (D := 150) (B := 527058) n0 a7_1 a7_0 d01.symm (by decide)
  have a8_1 := self_bd (B := 393836) n1 a7_1 (by decide)
  have a8_2 := other_bd (D := 150) (B := 660286) n2 a7_1 a7_2 d12 (by decide)
  have c9 := close_step (S := 16) n2 a8_2 c8 (by decide)
  have g9 := energy_step (G := 262896) n2 a8_2 (Int.le_trans g8.2 (by decide)) g8.1 g8.2 (by decide)
  have a9_0 := other_bd (D := 150) (B := 660280) n0 a8_2 a8_0 d02.symm (by decide)
  have a9_1 := other_bd (D := 150) (B := 527058) n1 a8_2 a8_1 d12.symm (by decide)
  have a9_2 := self_bd (B := 393836) n2 a8_2 (by decide)
  obtain ⟨L, f, hf, hL, hL2⟩ := near_end (ps := [p0, p1, p2]) (by simp [n0, n1, n2]) (by simp) hu hp (Int.le_trans (by decide) g9.1) (Int.lt_of_le_of_lt g9.2 (by decide))
  exact (near_cl hf hL hL2 (Int.lt_of_le_of_lt g9.2 (by decide)) c9).mono (by decide)
theorem lim1 : lim 1 = 9830400 := rfl
theorem lim2 : lim 2 = 9830400 := rfl
theorem lim3 : lim 3 = 15669656 := rfl
theorem idem_close {n : Nat} (h1 : 1 ≤ n) (h4 : n ≤ 4) {us ps : List V4} (hu : Good n us) (hp : Good n ps) (lu : us.length = n) (lp : ps.length = n) (hd : ∀ (k : Nat) (u p : V4), us[k]? = some u → ps[k]? = some p → p.l = dirV ((ps.take k).map V4.l) u.l n) : ∀ (k : Nat) (u p : V4), us[k]? = some u → ps[k]? = some p → Cl p u 954 := by
  match n, h1, h4, us, ps, lu, lp with
  | 1, _, _, [u0], [p0], _, _ =>
    have e0 := idst0 (hu.1 u0 (by simp)).1 (hd 0 u0 p0 rfl rfl)
    intro k u p hk hk'
    match k, hk, hk' with
    | 0, hk, hk' => cases hk; cases hk'; exact e0.1.mono (by decide)
  | 2, _, _, [u0, u1], [p0, p1], _, _ =>
    have m0 := (hu.1 u0 (by simp)).1
    have m1 := (hu.1 u1 (by simp)).1
    have n0 := (hp.1 p0 (by simp)).1
    have x01 := hu.2 0 1 u0 u1 (by decide) rfl rfl
    rw [lim1] at x01
    have e0 := idst0 m0 (hd 0 u0 p0 rfl rfl)
    have s01 := e0.2 u1 _ 9974429 m1 x01 (by decide)
    have e1 := idst1c m1 n0 s01.symm (hd 1 u1 p1 rfl rfl)
    intro k u p hk hk'
    match k, hk, hk' with
    | 0, hk, hk' => cases hk; cases hk'; exact e0.1.mono (by decide)
    | 1, hk, hk' => cases hk; cases hk'; exact e1.mono (by decide)
  | 3, _, _, [u0, u1, u2], [p0, p1, p2], _, _ =>
    have m0 := (hu.1 u0 (by simp)).1
    have m1 := (hu.1 u1 (by simp)).1
    have m2 := (hu.1 u2 (by simp)).1
    have n0 := (hp.1 p0 (by simp)).1
    have n1 := (hp.1 p1 (by simp)).1
    have x01 := hu.2 0 1 u0 u1 (by decide) rfl rfl
    have x02 := hu.2 0 2 u0 u2 (by decide) rfl rfl
    have x12 := hu.2 1 2 u1 u2 (by decide) rfl rfl
    have y01 := hp.2 0 1 p0 p1 (by decide) rfl rfl
    rw [lim1] at x01 y01
    rw [lim2] at x02 x12
    have e0 := idst0 m0 (hd 0 u0 p0 rfl rfl)
    have s01 := e0.2 u1 _ 9974429 m1 x01 (by decide)
    have s02 := e0.2 u2 _ 9974429 m2 x02 (by decide)
    have e1 := idst1b m1 n0 s01.symm m2 x12 s02 (hd 1 u1 p1 rfl rfl)
    have e2 := idst2c m2 n0 n1 y01 s02.symm e1.2.symm (hd 2 u2 p2 rfl rfl)
    intro k u p hk hk'
    match k, hk, hk' with
    | 0, hk, hk' => cases hk; cases hk'; exact e0.1.mono (by decide)
    | 1, hk, hk' => cases hk; cases hk'; exact e1.1.mono (by decide)
    | 2, hk, hk' => cases hk; cases hk'; exact e2.mono (by decide)
  | 4, _, _, [u0, u1, u2, u3], [p0, p1, p2, p3], _, _ =>
    have m0 := (hu.1 u0 (by simp)).1
    have m1 := (hu.1 u1 (by simp)).1
    have m2 := (hu.1 u2 (by simp)).1
    have m3 := (hu.1 u3 (by simp)).1
    have n0 := (hp.1 p0 (by simp)).1
    have n1 := (hp.1 p1 (by simp)).1
    have n2 := (hp.1 p2 (by simp)).1
    have x01 := hu.2 0 1 u0 u1 (by decide) rfl rfl
    have x02 := hu.2 0 2 u0 u2 (by decide) rfl rfl
    have x12 := hu.2 1 2 u1 u2 (by decide) rfl rfl
    have x03 := hu.2 0 3 u0 u3 (by decide) rfl rfl
    have x13 := hu.2 1 3 u1 u3 (by decide) rfl rfl
    have x23 := hu.2 2 3 u2 u3 (by decide) rfl rfl
    have y01 := hp.2 0 1 p0 p1 (by decide) rfl rfl
    have y02 := hp.2 0 2 p0 p2 (by decide) rfl rfl
    have y12 := hp.2 1 2 p1 p2 (by decide) rfl rfl
    rw [lim1] at x01 y01
    rw [lim2] at x02 x12 y02 y12
    rw [lim3] at x03 x13 x23
    have e0 := idst0 m0 (hd 0 u0 p0 rfl rfl)
    have s01 := e0.2 u1 _ 9974429 m1 x01 (by decide)
    have s02 := e0.2 u2 _ 9974429 m2 x02 (by decide)
    have s03 := e0.2 u3 _ 15821358 m3 x03 (by decide)
    have e1 := idst1 m1 n0 s01.symm m2 x12 s02 m3 x13 s03 (hd 1 u1 p1 rfl rfl)
    have e2 := idst2 m2 n0 n1 y01 s02.symm e1.2.1.symm m3 x23 s03 e1.2.2 (hd 2 u2 p2 rfl rfl)
    have e3 := idst3 m3 n0 n1 n2 y01 y02 y12 s03.symm e1.2.2.symm e2.2.symm (hd 3 u3 p3 rfl rfl)
    intro k u p hk hk'
    match k, hk, hk' with
    | 0, hk, hk' => cases hk; cases hk'; exact e0.1.mono (by decide)
    | 1, hk, hk' => cases hk; cases hk'; exact e1.1.mono (by decide)
    | 2, hk, hk' => cases hk; cases hk'; exact e2.1.mono (by decide)
    | 3, hk, hk' => cases hk; cases hk'; exact e3.mono (by decide)
theorem frame_take (M : List (List Int)) (n k : Nat) : ∀ m, (frameV M n (k + m)).take k = frameV M n k
  | 0 => by rw [Nat.add_zero, List.take_of_length_le (by rw [frame_len]; exact Nat.le_refl _)]
  | m + 1 => by
    show (frameV M n (k + m) ++ [_]).take k = _
    rw [List.take_append_of_le_length (by rw [frame_len]; omega)]
    exact frame_take M n k m
theorem frame_at {M : List (List Int)} {n k j : Nat} (h : k < j) : (frameV M n j)[k]? = some (dirV (frameV M n k) (colV M k) n) := by
  have e := frame_take M n (k + 1) (j - (k + 1))
  rw [show k + 1 + (j - (k + 1)) = j by omega] at e
  have : ((frameV M n j).take (k + 1))[k]? = (frameV M n j)[k]? := by rw [List.getElem?_take, if_pos (by omega)]
  rw [← this, e]
  show (frameV M n k ++ [_])[k]? = _
  rw [List.getElem?_append_right (by rw [frame_len]; exact Nat.le_refl _), frame_len, Nat.sub_self]
  rfl
theorem sup_l {u : V4} {n i : Nat} (h1 : 1 ≤ n) (h : u.sup n) (hi : n ≤ i) (h6 : i < 6) : u.l[i]? = some 0 := by
  obtain ⟨s1, s2, s3⟩ := h
  match i, h6 with
  | 0, _ => omega
  | 1, _ => simp [V4.l, s1 hi]
  | 2, _ => simp [V4.l, s2 hi]
  | 3, _ => simp [V4.l, s3 hi]
  | 4, _ => rfl
  | 5, _ => rfl
theorem colE_orth {M : List (List Int)} {n k i : Nat} (hi : i < n) (hk : k < n) : colE (matOf (orthF M n) n) k i = orthF M n i k := by
  unfold colE matOf
  rw [List.getElem?_map, List.getElem?_range hi, Option.map_some, Option.bind_some]
  unfold rowOf
  rw [List.getElem?_map, List.getElem?_range hk, Option.map_some, Option.getD_some]
theorem orth_el {M : List (List Int)} {n k i : Nat} {us : List V4} {u : V4} (he : frameV M n n = us.map V4.l) (hu : us[k]? = some u) : orthF M n i k = (u.l[i]?).getD 0 := by
  unfold orthF
  rw [he, List.getElem?_map, hu, Option.map_some, Option.bind_some]
theorem colV_orth {M : List (List Int)} {n k : Nat} {us : List V4} {u : V4} (h1 : 1 ≤ n) (h4 : n ≤ 4) (he : frameV M n n = us.map V4.l) (hk : k < n) (hu : us[k]? = some u) (hs : u.sup n) : colV (matOf (orthF M n) n) k = u.l := by
  apply List.ext_getElem?
  intro i
  unfold colV
  rw [List.getElem?_map]
  by_cases h6 : i < 6
  · rw [List.getElem?_range h6, Option.map_some]
    by_cases hi : i < n
    · rw [colE_orth hi hk, orth_el he hu, List.getElem?_eq_getElem (by simp [V4.l]; omega)]
      rfl
    · rw [sup_l h1 hs (by omega) h6, colE_out (by simp [matOf]; omega)]
  · rw [List.getElem?_eq_none (by simpa using Nat.le_of_not_lt h6), List.getElem?_eq_none (by simp [V4.l]; omega)]
    rfl
theorem idem_all {M : List (List Int)} {n : Nat} (hM : M.length = n) (h1 : 1 ≤ n) (h4 : n ≤ 4) (hb : ∀ r ∈ M, ∀ x ∈ r, -16777216 ≤ x ∧ x ≤ 16777216) (hO : ∀ r ∈ matOf (orthF M n) n, ∀ x ∈ r, -16777216 ≤ x ∧ x ≤ 16777216) :
    ∀ i k, i < n → k < n → -1024 ≤ orthF M n i k - orthF (matOf (orthF M n) n) n i k ∧ orthF M n i k - orthF (matOf (orthF M n) n) n i k ≤ 1024 := by
  obtain ⟨us, lu, eu, gu⟩ := frame_good hM h4 hb n (Nat.le_refl _)
  have hOl : (matOf (orthF M n) n).length = n := by simp [matOf]
  obtain ⟨ps, lp, ep, gp⟩ := frame_good hOl h4 hO n (Nat.le_refl _)
  have hc := idem_close h1 h4 gu gp lu lp (fun k u p hu hp => by
    have hk : k < n := by have := (List.getElem?_eq_some_iff.1 hu).1; omega
    have e := frame_at (M := matOf (orthF M n) n) (n := n) hk
    rw [ep, List.getElem?_map, hp, Option.map_some, colV_orth h1 h4 eu hk hu (gu.1 u (List.mem_of_getElem? hu)).2] at e
    have e2 := frame_take (matOf (orthF M n) n) n k (n - k)
    rw [show k + (n - k) = n by omega, ep] at e2
    rw [← e2, ← List.map_take] at e
    exact Option.some.inj e)
  intro i k hi hk
  obtain ⟨u, hu⟩ : ∃ u, us[k]? = some u := ⟨_, List.getElem?_eq_getElem (by omega)⟩
  obtain ⟨p, hp⟩ : ∃ p, ps[k]? = some p := ⟨_, List.getElem?_eq_getElem (by omega)⟩
  rw [orth_el eu hu, orth_el ep hp]
  obtain ⟨⟨a1, a2⟩, ⟨b1, b2⟩, ⟨c1, c2⟩, ⟨d1, d2⟩⟩ := hc k u p hu hp
  match i, (show i < 4 by omega) with
  | 0, _ => exact ⟨by show -1024 ≤ u.a - p.a; omega, by show u.a - p.a ≤ 1024; omega⟩
  | 1, _ => exact ⟨by show -1024 ≤ u.b - p.b; omega, by show u.b - p.b ≤ 1024; omega⟩
  | 2, _ => exact ⟨by show -1024 ≤ u.c - p.c; omega, by show u.c - p.c ≤ 1024; omega⟩
  | 3, _ => exact ⟨by show -1024 ≤ u.d - p.d; omega, by show u.d - p.d ≤ 1024; omega⟩
/-- The first column is that of M, scaled. -/
theorem first_col {M : List (List Int)} {n i : Nat} {L v : Int} (hM : M.length = n) (h1 : 1 ≤ n) (h4 : n ≤ 4) (hb : ∀ r ∈ M, ∀ x ∈ r, -16777216 ≤ x ∧ x ≤ 16777216) (hL : isq (sqV ((colV4 M 0).fst n)) = L) (h : 4096 ≤ L) (hv : ((colV4 M 0).fst n)[i]? = some v) : orthF M n i 0 * L - v * 65536 ≤ 2 * L ∧ -(2 * L) ≤ orthF M n i 0 * L - v * 65536 := by
  have hs := col_sup hM 0
  have hq := col_sq hb 0
  rw [sq_fst h1 h4 hs] at hL
  have hLl : lenV (colV4 M 0).l = L := by rw [len_isq (by omega), hL]
  have e := frame_at (M := M) (n := n) (k := 0) (j := n) (by omega)
  have ed : dirV (frameV M n 0) (colV M 0) n = ((colV4 M 0).scl L).l := by
    rw [col_l (by omega) 0]
    show dirV [] (colV4 M 0).l n = _
    unfold dirV
    rw [show redV [] (colV4 M 0).l = (colV4 M 0).l from rfl, if_pos (by omega), nrm_l, hLl]
  have hi : i < n := by have := (List.getElem?_eq_some_iff.1 hv).1; rw [fst_len _ h4] at this; exact this
  have hv2 : (colV4 M 0).l[i]? = some v := by
    unfold V4.fst at hv
    rw [List.getElem?_take, if_pos hi] at hv
    exact hv
  have eo : orthF M n i 0 = dn (v * 65536) L := by
    unfold orthF
    rw [e, Option.bind_some, ed]
    have e2 : ((colV4 M 0).scl L).fst n = ((colV4 M 0).fst n).map fun a => dn (a * 65536) L := scl_fst _ _ _
    have e3 : (((colV4 M 0).scl L).fst n)[i]? = some (dn (v * 65536) L) := by rw [e2, List.getElem?_map, hv]; rfl
    unfold V4.fst at e3
    rw [List.getElem?_take, if_pos hi] at e3
    rw [e3]
    rfl
  have := dn_mul (v * 65536) (d := L) (by omega)
  rw [eo]
  constructor <;> omega
end Go.Proofs.Ytmcdkbnpcmiojaa
