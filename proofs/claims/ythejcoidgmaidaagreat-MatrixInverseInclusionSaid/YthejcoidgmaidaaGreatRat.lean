/-
  Rational numbers in intervals: sums, products, quotients; sums over the rows of a matrix.
-/
import Derived.Test.YthejcoidgmaidaaGreatMatMath
import Derived.Test.YthejcoidgmaidaaGreatSubMath
namespace Go.Proofs.YthejcoidgmaidaaGreat
open Go.ChangeShapes Go.WideShapes Go.ChangeAt Go.RowKit
set_option linter.unusedVariables false
set_option linter.unusedSimpArgs false
set_option maxRecDepth 100000

/-- The rational number x, times 65536, lies in p. -/
def contR (p : Int × Int) (x : Rat) : Prop := Ent p.1 p.2 ∨ ((p.1 : Rat) ≤ 65536 * x ∧ 65536 * x ≤ (p.2 : Rat))
theorem ic_le {a b : Int} (h : a ≤ b) : (a : Rat) ≤ (b : Rat) := Rat.intCast_le_intCast.2 h
theorem ic_lt {a b : Int} (h : a < b) : (a : Rat) < (b : Rat) := Rat.intCast_lt_intCast.2 h
theorem mulL {a X c : Rat} (h : a ≤ X) (hc : 0 ≤ c) : a * c ≤ X * c := Rat.mul_le_mul_of_nonneg_right h hc
theorem mulN {a X c : Rat} (h : a ≤ X) (hc : c ≤ 0) : X * c ≤ a * c := by
  have := Rat.mul_le_mul_of_nonneg_right h (show 0 ≤ -c by grind)
  grind
/-- A line over a stretch lies between its ends. -/
theorem lin_lo {a b X c m : Rat} (h1 : a ≤ X) (h2 : X ≤ b) (ha : m ≤ a * c) (hb : m ≤ b * c) : m ≤ X * c := by
  rcases Rat.le_total (a := 0) (b := c) with hc | hc
  · have := mulL h1 hc; grind
  · have := mulN h2 hc; grind
theorem lin_hi {a b X c m : Rat} (h1 : a ≤ X) (h2 : X ≤ b) (ha : a * c ≤ m) (hb : b * c ≤ m) : X * c ≤ m := by
  rcases Rat.le_total (a := 0) (b := c) with hc | hc
  · have := mulL h2 hc; grind
  · have := mulN h1 hc; grind
theorem prodR_in {a b c d : Int} {X Y : Rat} (h1 : (a : Rat) ≤ X) (h2 : X ≤ b) (h3 : (c : Rat) ≤ Y) (h4 : Y ≤ d) : ((mn4 a b c d : Int) : Rat) ≤ X * Y ∧ X * Y ≤ ((mx4 a b c d : Int) : Rat) := by
  have ac : ((a * c : Int) : Rat) = (a : Rat) * c := by push_cast; rfl
  have ad : ((a * d : Int) : Rat) = (a : Rat) * d := by push_cast; rfl
  have bc : ((b * c : Int) : Rat) = (b : Rat) * c := by push_cast; rfl
  have bd : ((b * d : Int) : Rat) = (b : Rat) * d := by push_cast; rfl
  have n1 := ic_le (show mn4 a b c d ≤ a * c by unfold mn4; omega)
  have n2 := ic_le (show mn4 a b c d ≤ a * d by unfold mn4; omega)
  have n3 := ic_le (show mn4 a b c d ≤ b * c by unfold mn4; omega)
  have n4 := ic_le (show mn4 a b c d ≤ b * d by unfold mn4; omega)
  have m1 := ic_le (show a * c ≤ mx4 a b c d by unfold mx4; omega)
  have m2 := ic_le (show a * d ≤ mx4 a b c d by unfold mx4; omega)
  have m3 := ic_le (show b * c ≤ mx4 a b c d by unfold mx4; omega)
  have m4 := ic_le (show b * d ≤ mx4 a b c d by unfold mx4; omega)
  rw [ac] at n1 m1
  rw [ad] at n2 m2
  rw [bc] at n3 m3
  rw [bd] at n4 m4
  have lc := lin_lo h1 h2 n1 n3
  have ld := lin_lo h1 h2 n2 n4
  have uc := lin_hi h1 h2 m1 m3
  have ud := lin_hi h1 h2 m2 m4
  rw [Rat.mul_comm] at lc ld uc ud ⊢
  exact ⟨lin_lo h3 h4 lc ld, lin_hi h3 h4 uc ud⟩
theorem contR_add {p q : Int × Int} {x y : Rat} (hp : contR p x) (hq : contR q y) : contR (addI p q) (x + y) := by
  by_cases he : Ent (addI p q).1 (addI p q).2
  · exact .inl he
  · right
    obtain ⟨n1, n2, _, _, e1, e2⟩ := add_not_ent (c := p.1) (d := p.2) (e := q.1) (f := q.2) he
    show ((addLo p.1 p.2 q.1 q.2 : Int) : Rat) ≤ _ ∧ _ ≤ ((addHi p.1 p.2 q.1 q.2 : Int) : Rat)
    rw [e1, e2]
    rcases hp with hp | hp
    · exact absurd hp n1
    rcases hq with hq | hq
    · exact absurd hq n2
    push_cast
    grind
theorem contR_mul {p q : Int × Int} {x y : Rat} (hp : contR p x) (hq : contR q y) : contR (mulI (p, q)) (x * y) := by
  by_cases he : Ent (mulI (p, q)).1 (mulI (p, q)).2
  · exact .inl he
  · have hne : ¬ (Ent p.1 p.2 ∨ Ent q.1 q.2) := fun h => he (by
      unfold mulI mulLo mulHi
      rw [if_pos h, if_pos h]
      exact ⟨rfl, rfl⟩)
    right
    obtain ⟨e1, e2⟩ := mul_not_ent (a := p.1) (b := p.2) (c := q.1) (d := q.2) he
    rcases hp with hp | hp
    · exact absurd (.inl hp) hne
    rcases hq with hq | hq
    · exact absurd (.inr hq) hne
    have hb := prodR_in hp.1 hp.2 hq.1 hq.2
    have d1 := ic_le (dn_mul (mn4 p.1 p.2 q.1 q.2) (d := 65536) (by decide)).1
    have d2 := ic_le (up_mul (mx4 p.1 p.2 q.1 q.2) (d := 65536) (by decide)).1
    show ((mulLo p.1 p.2 q.1 q.2 : Int) : Rat) ≤ _ ∧ _ ≤ ((mulHi p.1 p.2 q.1 q.2 : Int) : Rat)
    rw [e1, e2]
    push_cast at d1 d2
    grind
theorem contR_sub {p q : Int × Int} {x y : Rat} (hp : contR p x) (hq : contR q y) : contR (subI p q) (x - y) := by
  have h : contR (-q.2, -q.1) (-y) := by
    rcases hq with hq | hq
    · exact .inl ⟨by have := hq.2; show -q.2 = _; omega, by have := hq.1; show -q.1 = _; omega⟩
    · right
      push_cast
      grind
  have := contR_add hp h
  rw [show x - y = x + -y by grind]
  exact this
theorem div_not_ent {a b c d : Int} (h : ¬ Ent (divLo a b c d) (divHi a b c d)) : ¬ Ent a b ∧ ¬ (c ≤ 0 ∧ 0 ≤ d) ∧ divLo a b c d = dv1 a b c d ∧ divHi a b c d = dv2 a b c d := by
  by_cases hc : Ent a b ∨ (c ≤ 0 ∧ 0 ≤ d)
  · exfalso
    apply h
    unfold divLo divHi
    rw [if_pos hc, if_pos hc]
    exact ⟨rfl, rfl⟩
  · have h' := h
    unfold divLo divHi at h' ⊢
    rw [if_neg hc, if_neg hc] at h' ⊢
    obtain ⟨_, _, e1, e2⟩ := mk_not_ent h'
    exact ⟨fun q => hc (.inl q), fun q => hc (.inr q), e1, e2⟩
theorem dnN {x y : Int} (hy : y < 0) : x ≤ dn x y * y ∧ up x y * y ≤ x := by
  have e := dn_den_neg x (-y)
  rw [Int.neg_neg] at e
  have a := dn_mul x (d := -y) (by omega)
  have b := up_mul x (d := -y) (by omega)
  rw [e.1, e.2]
  rw [Int.neg_mul, Int.neg_mul]
  rw [Int.mul_neg] at a b
  omega
theorem quot_le {m : Int} {X Y : Rat} (hY : 0 < Y) (h : (m : Rat) * Y ≤ 65536 * X) : (m : Rat) ≤ 65536 * (X / Y) := by
  have e : X / Y * Y = X := by grind
  apply Rat.not_lt.1
  intro hl
  have := Rat.mul_lt_mul_of_pos_right hl hY
  grind
theorem quot_ge {m : Int} {X Y : Rat} (hY : 0 < Y) (h : 65536 * X ≤ (m : Rat) * Y) : 65536 * (X / Y) ≤ (m : Rat) := by
  have e : X / Y * Y = X := by grind
  apply Rat.not_lt.1
  intro hl
  have := Rat.mul_lt_mul_of_pos_right hl hY
  grind
theorem contR_div {p q : Int × Int} {x y : Rat} (hp : contR p x) (hq : contR q y) : contR (divJ p q) (x / y) := by
  by_cases he : Ent (divJ p q).1 (divJ p q).2
  · exact .inl he
  · right
    obtain ⟨n1, n2, e1, e2⟩ := div_not_ent (a := p.1) (b := p.2) (c := q.1) (d := q.2) he
    show ((divLo p.1 p.2 q.1 q.2 : Int) : Rat) ≤ _ ∧ _ ≤ ((divHi p.1 p.2 q.1 q.2 : Int) : Rat)
    rw [e1, e2]
    have hqn : ¬ Ent q.1 q.2 := fun h => n2 ⟨by rw [h.1]; decide, by rw [h.2]; decide⟩
    rcases hp with hp | ⟨p1, p2⟩
    · exact absurd hp n1
    rcases hq with hq | ⟨q1, q2⟩
    · exact absurd hq hqn
    obtain ⟨a, b⟩ := p
    obtain ⟨c, d⟩ := q
    dsimp only at *
    have hxy : 65536 * (x / y) = 65536 * ((65536 * x) / (65536 * y)) := by
      by_cases h0 : y = 0
      · exfalso
        subst h0
        have z : (65536 : Rat) * 0 = 0 := by grind
        rw [z] at q1 q2
        exact n2 ⟨Rat.intCast_le_intCast.1 q1, Rat.intCast_le_intCast.1 q2⟩
      · grind
    rw [hxy]
    generalize 65536 * x = X at *
    generalize 65536 * y = Y at *
    have hcd : (c : Rat) ≤ d := by grind
    have hcd' : c ≤ d := Rat.intCast_le_intCast.1 hcd
    have l1 : dv1 a b c d ≤ dn (a * 65536) c := by unfold dv1; omega
    have l2 : dv1 a b c d ≤ dn (a * 65536) d := by unfold dv1; omega
    have l3 : dv1 a b c d ≤ dn (b * 65536) c := by unfold dv1; omega
    have l4 : dv1 a b c d ≤ dn (b * 65536) d := by unfold dv1; omega
    have u1 : up (a * 65536) c ≤ dv2 a b c d := by unfold dv2; omega
    have u2 : up (a * 65536) d ≤ dv2 a b c d := by unfold dv2; omega
    have u3 : up (b * 65536) c ≤ dv2 a b c d := by unfold dv2; omega
    have u4 : up (b * 65536) d ≤ dv2 a b c d := by unfold dv2; omega
    generalize dv1 a b c d = m at *
    generalize dv2 a b c d = M at *
    rcases (by omega : 0 < c ∨ d < 0) with hs | hs
    · have hd : 0 < d := by omega
      have low : ∀ z, 0 < z → m ≤ dn (a * 65536) z → m * z ≤ 65536 * a := fun z hz h => by
        have := Int.mul_le_mul_of_nonneg_right h (Int.le_of_lt hz)
        have := (dn_mul (a * 65536) hz).1
        omega
      have hgh : ∀ z, 0 < z → up (b * 65536) z ≤ M → 65536 * b ≤ M * z := fun z hz h => by
        have := Int.mul_le_mul_of_nonneg_right h (Int.le_of_lt hz)
        have := (up_mul (b * 65536) hz).1
        omega
      have k1 := ic_le (low c hs l1)
      have k2 := ic_le (low d hd l2)
      have k3 := ic_le (hgh c hs u3)
      have k4 := ic_le (hgh d hd u4)
      push_cast at k1 k2 k3 k4
      have hY : 0 < Y := by have := ic_lt hs; grind
      have r1 : Y * (m : Rat) ≤ 65536 * a := lin_hi q1 q2 (by rw [Rat.mul_comm]; exact k1) (by rw [Rat.mul_comm]; exact k2)
      have r2 : 65536 * (b : Rat) ≤ Y * (M : Rat) := lin_lo q1 q2 (by rw [Rat.mul_comm (c : Rat)]; exact k3) (by rw [Rat.mul_comm (d : Rat)]; exact k4)
      exact ⟨quot_le hY (by grind), quot_ge hY (by grind)⟩
    · have hc : c < 0 := by omega
      have low : ∀ z, z < 0 → m ≤ dn (b * 65536) z → 65536 * b ≤ m * z := fun z hz h => by
        have h1 := Int.mul_le_mul_of_nonpos_right h (Int.le_of_lt hz)
        have := (dnN (x := b * 65536) hz).1
        omega
      have hgh : ∀ z, z < 0 → up (a * 65536) z ≤ M → M * z ≤ 65536 * a := fun z hz h => by
        have h1 := Int.mul_le_mul_of_nonpos_right h (Int.le_of_lt hz)
        have := (dnN (x := a * 65536) hz).2
        omega
      have k1 := ic_le (low c hc l3)
      have k2 := ic_le (low d hs l4)
      have k3 := ic_le (hgh c hc u1)
      have k4 := ic_le (hgh d hs u2)
      push_cast at k1 k2 k3 k4
      have hY : 0 < -Y := by have := ic_lt hs; grind
      have r1 : 65536 * (b : Rat) ≤ Y * (m : Rat) := lin_lo q1 q2 (by rw [Rat.mul_comm (c : Rat)]; exact k1) (by rw [Rat.mul_comm (d : Rat)]; exact k2)
      have r2 : Y * (M : Rat) ≤ 65536 * a := lin_hi q1 q2 (by rw [Rat.mul_comm (c : Rat)]; exact k3) (by rw [Rat.mul_comm (d : Rat)]; exact k4)
      have e : X / Y = (-X) / (-Y) := by
        by_cases h0 : Y = 0
        · subst h0; grind
        · grind
      rw [e]
      exact ⟨quot_le hY (by grind), quot_ge hY (by grind)⟩
/-- An interval with a sign does not contain zero. -/
theorem contR_sg {p : Int × Int} {x : Rat} (hv : VB p) (hp : contR p x) (hs : sgI p ≠ 0) : x ≠ 0 := by
  intro h0
  subst h0
  apply hs
  unfold sgI sg
  rcases hp with hp | ⟨h1, h2⟩
  · rw [if_neg (by rw [hp.1]; decide), if_neg (by rw [hp.2]; decide)]
  · have a : p.1 ≤ 0 := Rat.intCast_le_intCast.1 (by have : (65536 : Rat) * 0 = 0 := by grind
                                                     rw [this] at h1; exact h1)
    have b : 0 ≤ p.2 := Rat.intCast_le_intCast.1 (by have : (65536 : Rat) * 0 = 0 := by grind
                                                     rw [this] at h2; exact h2)
    rw [if_neg (by omega), if_neg (by omega)]
end Go.Proofs.YthejcoidgmaidaaGreat
