/-
  The mathematics of interval arithmetic: signs, neutral elements, subsets.
-/
import Derived.Test.YtecmgiihacigaaaIw9
import Derived.Test.YtecmgiihacigaaaIw10
namespace Go.Proofs.Ytecmgiihacigaaa
set_option linter.unusedVariables false
set_option linter.unusedSimpArgs false
set_option maxRecDepth 100000

theorem mk_neg (x y : Int) : mkLo (-y) (-x) = -mkHi x y ∧ mkHi (-y) (-x) = -mkLo x y := by
  unfold mkLo mkHi Num
  by_cases h : ((-2147483648 < x ∧ x < 2147483648) ∧ (-2147483648 < y ∧ y < 2147483648))
  · rw [if_pos (by omega), if_pos h, if_pos (by omega), if_pos h]; exact ⟨rfl, rfl⟩
  · rw [if_neg (by omega), if_neg h, if_neg (by omega), if_neg h]; decide
theorem ent_neg (a b : Int) : Ent (-b) (-a) ↔ Ent a b := by unfold Ent; omega
/-- Nested ends, rounded or made entire. -/
theorem mk_sub {x y x' y' : Int} (h1 : x' ≤ x) (h2 : x ≤ y) (h3 : y ≤ y') : mkLo x' y' ≤ mkLo x y ∧ mkHi x y ≤ mkHi x' y' := by
  unfold mkLo mkHi Num
  by_cases h : ((-2147483648 < x' ∧ x' < 2147483648) ∧ (-2147483648 < y' ∧ y' < 2147483648))
  · rw [if_pos h, if_pos (by omega), if_pos (by omega), if_pos h]; omega
  · rw [if_neg h, if_neg h]
    split <;> omega
theorem mk_vi {x y : Int} (h : x ≤ y) : VI (mkLo x y) (mkHi x y) := by
  unfold mkLo mkHi VI Ent
  by_cases hc : Num x ∧ Num y
  · rw [if_pos hc, if_pos hc]; exact .inr ⟨hc.1, hc.2, h⟩
  · rw [if_neg hc, if_neg hc]; exact .inl ⟨rfl, rfl⟩
theorem VI.wide {a b : Int} (h : VI a b) : -2147483648 ≤ a ∧ b ≤ 2147483648 := by have := h.bd; omega

theorem mn4_comm (a b c d : Int) : mn4 c d a b = mn4 a b c d ∧ mx4 c d a b = mx4 a b c d := by
  unfold mn4 mx4
  rw [Int.mul_comm c a, Int.mul_comm c b, Int.mul_comm d a, Int.mul_comm d b]
  omega
theorem mul_comm2 (a b c d : Int) : mulLo c d a b = mulLo a b c d ∧ mulHi c d a b = mulHi a b c d := by
  unfold mulLo mulHi
  rw [(mn4_comm a b c d).1, (mn4_comm a b c d).2]
  by_cases h : Ent a b ∨ Ent c d
  · rw [if_pos h, if_pos h.symm, if_pos h, if_pos h.symm]; exact ⟨rfl, rfl⟩
  · rw [if_neg h, if_neg (fun k => h k.symm), if_neg h, if_neg (fun k => h k.symm)]; exact ⟨rfl, rfl⟩
theorem add_comm2 (a b c d : Int) : addLo c d a b = addLo a b c d ∧ addHi c d a b = addHi a b c d := by
  unfold addLo addHi
  rw [Int.add_comm c a, Int.add_comm d b]
  by_cases h : Ent a b ∨ Ent c d
  · rw [if_pos h, if_pos h.symm, if_pos h, if_pos h.symm]; exact ⟨rfl, rfl⟩
  · rw [if_neg h, if_neg (fun k => h k.symm), if_neg h, if_neg (fun k => h k.symm)]; exact ⟨rfl, rfl⟩
theorem mul_neg2 (a b c d : Int) : mulLo (-b) (-a) c d = -mulHi a b c d ∧ mulHi (-b) (-a) c d = -mulLo a b c d := by
  have e1 : mn4 (-b) (-a) c d = -mx4 a b c d := by unfold mn4 mx4; rw [Int.neg_mul, Int.neg_mul, Int.neg_mul, Int.neg_mul]; omega
  have e2 : mx4 (-b) (-a) c d = -mn4 a b c d := by unfold mn4 mx4; rw [Int.neg_mul, Int.neg_mul, Int.neg_mul, Int.neg_mul]; omega
  unfold mulLo mulHi
  rw [e1, e2, dn_neg, up_neg, (mk_neg _ _).1, (mk_neg _ _).2]
  by_cases h : Ent a b ∨ Ent c d
  · have h' : Ent (-b) (-a) ∨ Ent c d := h.imp (ent_neg a b).2 id
    rw [if_pos h, if_pos h', if_pos h, if_pos h']; decide
  · have h' : ¬ (Ent (-b) (-a) ∨ Ent c d) := fun k => h (k.imp (ent_neg a b).1 id)
    rw [if_neg h, if_neg h', if_neg h, if_neg h']; exact ⟨rfl, rfl⟩
theorem sq_neg2 (a b : Int) : sqLo (-b) (-a) = sqLo a b ∧ sqHi (-b) (-a) = sqHi a b := by
  have e1 : sq1 (-b) (-a) = sq1 a b := by
    unfold sq1
    rw [Int.neg_mul_neg, Int.neg_mul_neg]
    by_cases h : a ≤ 0 ∧ 0 ≤ b
    · rw [if_pos h, if_pos (by omega)]
    · rw [if_neg h, if_neg (by omega)]; omega
  have e2 : sq2 (-b) (-a) = sq2 a b := by
    unfold sq2
    rw [Int.neg_mul_neg, Int.neg_mul_neg]
    omega
  unfold sqLo sqHi
  rw [e1, e2]
  by_cases h : Ent a b
  · rw [if_pos h, if_pos ((ent_neg a b).2 h), if_pos h, if_pos ((ent_neg a b).2 h)]; exact ⟨rfl, rfl⟩
  · have h' : ¬ Ent (-b) (-a) := fun k => h ((ent_neg a b).1 k)
    rw [if_neg h, if_neg h', if_neg h, if_neg h']; exact ⟨rfl, rfl⟩
theorem dn_num_neg (x c : Int) : dn (-x * 65536) c = -up (x * 65536) c ∧ up (-x * 65536) c = -dn (x * 65536) c := by
  rw [Int.neg_mul, dn_neg, up_neg]; exact ⟨rfl, rfl⟩
theorem dn_den_neg (x c : Int) : dn x (-c) = -up x c ∧ up x (-c) = -dn x c := by
  have h1 := dn_flip (-x) c
  have h2 := up_flip (-x) c
  rw [Int.neg_neg] at h1 h2
  rw [h1, h2, dn_neg, up_neg]; exact ⟨rfl, rfl⟩
theorem div_neg2 (a b c d : Int) : divLo (-b) (-a) c d = -divHi a b c d ∧ divHi (-b) (-a) c d = -divLo a b c d := by
  have e1 : dv1 (-b) (-a) c d = -dv2 a b c d := by
    unfold dv1 dv2
    rw [(dn_num_neg b c).1, (dn_num_neg b d).1, (dn_num_neg a c).1, (dn_num_neg a d).1]; omega
  have e2 : dv2 (-b) (-a) c d = -dv1 a b c d := by
    unfold dv1 dv2
    rw [(dn_num_neg b c).2, (dn_num_neg b d).2, (dn_num_neg a c).2, (dn_num_neg a d).2]; omega
  unfold divLo divHi
  rw [e1, e2, (mk_neg _ _).1, (mk_neg _ _).2]
  by_cases h : Ent a b ∨ (c ≤ 0 ∧ 0 ≤ d)
  · have h' : Ent (-b) (-a) ∨ (c ≤ 0 ∧ 0 ≤ d) := h.imp (ent_neg a b).2 id
    rw [if_pos h, if_pos h', if_pos h, if_pos h']; decide
  · have h' : ¬ (Ent (-b) (-a) ∨ (c ≤ 0 ∧ 0 ≤ d)) := fun k => h (k.imp (ent_neg a b).1 id)
    rw [if_neg h, if_neg h', if_neg h, if_neg h']; exact ⟨rfl, rfl⟩
theorem div_den2 (a b c d : Int) : divLo a b (-d) (-c) = -divHi a b c d ∧ divHi a b (-d) (-c) = -divLo a b c d := by
  have e1 : dv1 a b (-d) (-c) = -dv2 a b c d := by
    unfold dv1 dv2
    rw [(dn_den_neg _ _).1, (dn_den_neg _ _).1, (dn_den_neg _ _).1, (dn_den_neg _ _).1]; omega
  have e2 : dv2 a b (-d) (-c) = -dv1 a b c d := by
    unfold dv1 dv2
    rw [(dn_den_neg _ _).2, (dn_den_neg _ _).2, (dn_den_neg _ _).2, (dn_den_neg _ _).2]; omega
  unfold divLo divHi
  rw [e1, e2, (mk_neg _ _).1, (mk_neg _ _).2]
  by_cases h : Ent a b ∨ (c ≤ 0 ∧ 0 ≤ d)
  · have h' : Ent a b ∨ (-d ≤ 0 ∧ 0 ≤ -c) := h.imp id (by omega)
    rw [if_pos h, if_pos h', if_pos h, if_pos h']; decide
  · have h' : ¬ (Ent a b ∨ (-d ≤ 0 ∧ 0 ≤ -c)) := fun k => h (k.imp id (by omega))
    rw [if_neg h, if_neg h', if_neg h, if_neg h']; exact ⟨rfl, rfl⟩
theorem mr_neg2 (a b n d : Int) : mrLo a b (-n) d = -mrHi a b n d ∧ mrHi a b (-n) d = -mrLo a b n d := by
  have e1 : mr1 a b (-n) d = -mr2 a b n d := by
    unfold mr1 mr2
    rw [Int.mul_neg, Int.mul_neg, show min (-(a * n)) (-(b * n)) = -max (a * n) (b * n) by omega, dn_neg]
  have e2 : mr2 a b (-n) d = -mr1 a b n d := by
    unfold mr1 mr2
    rw [Int.mul_neg, Int.mul_neg, show max (-(a * n)) (-(b * n)) = -min (a * n) (b * n) by omega, up_neg]
  unfold mrLo mrHi
  rw [e1, e2, (mk_neg _ _).1, (mk_neg _ _).2]
  by_cases h : Ent a b
  · rw [if_pos h, if_pos h, if_pos h, if_pos h]; decide
  · rw [if_neg h, if_neg h, if_neg h, if_neg h]; exact ⟨rfl, rfl⟩
theorem mk_self {a b : Int} (h : VI a b) (he : ¬ Ent a b) : mkLo a b = a ∧ mkHi a b = b := by
  have := h.resolve_left he
  unfold mkLo mkHi
  rw [if_pos ⟨this.1, this.2.1⟩, if_pos ⟨this.1, this.2.1⟩]; exact ⟨rfl, rfl⟩
theorem mul_one2 {a b : Int} (h : VI a b) : mulLo a b 65536 65536 = a ∧ mulHi a b 65536 65536 = b := by
  have hab := h.bd
  unfold mulLo mulHi
  by_cases he : Ent a b
  · rw [if_pos (.inl he), if_pos (.inl he)]; exact ⟨he.1.symm, he.2.symm⟩
  · have hn : ¬ (Ent a b ∨ Ent 65536 65536) := fun k => k.elim he (by unfold Ent; omega)
    rw [if_neg hn, if_neg hn]
    have e1 : mn4 a b 65536 65536 = a * 65536 := by unfold mn4; omega
    have e2 : mx4 a b 65536 65536 = b * 65536 := by unfold mx4; omega
    rw [e1, e2, dn_mul_self a (by decide), up_mul_self b (by decide)]
    exact mk_self h he
theorem add_zero2 {a b : Int} (h : VI a b) : addLo a b 0 0 = a ∧ addHi a b 0 0 = b := by
  unfold addLo addHi
  by_cases he : Ent a b
  · rw [if_pos (.inl he), if_pos (.inl he)]; exact ⟨he.1.symm, he.2.symm⟩
  · have hn : ¬ (Ent a b ∨ Ent 0 0) := fun k => k.elim he (by unfold Ent; omega)
    rw [if_neg hn, if_neg hn, Int.add_zero, Int.add_zero]
    exact mk_self h he
theorem mr_same2 {a b d : Int} (h : VI a b) (hd : 0 < d) : mrLo a b d d = a ∧ mrHi a b d d = b := by
  unfold mrLo mrHi
  by_cases he : Ent a b
  · rw [if_pos he, if_pos he]; exact ⟨he.1.symm, he.2.symm⟩
  · rw [if_neg he, if_neg he]
    have hm : a * d ≤ b * d := Int.mul_le_mul_of_nonneg_right h.bd.2.2.2.2 (by omega)
    unfold mr1 mr2
    rw [show min (a * d) (b * d) = a * d by omega, show max (a * d) (b * d) = b * d by omega, dn_mul_self a hd, up_mul_self b hd]
    exact mk_self h he
theorem sq_nonneg (x : Int) : 0 ≤ x * x := by
  by_cases h : 0 ≤ x
  · exact Int.mul_nonneg h h
  · have := Int.mul_nonneg (show 0 ≤ -x by omega) (show 0 ≤ -x by omega)
    rwa [Int.neg_mul_neg] at this
theorem sq_mul {a b : Int} (h : a ≤ b) : mn4 a b a b ≤ sq1 a b ∧ sq2 a b ≤ mx4 a b a b := by
  unfold mn4 mx4 sq1 sq2
  refine ⟨?_, by omega⟩
  by_cases hc : a ≤ 0 ∧ 0 ≤ b
  · rw [if_pos hc]
    have := Int.mul_nonneg (show 0 ≤ -a by omega) hc.2
    rw [Int.neg_mul] at this
    omega
  · rw [if_neg hc]; omega
theorem sq_sub {a b : Int} (h : VI a b) : mulLo a b a b ≤ sqLo a b ∧ sqHi a b ≤ mulHi a b a b := by
  unfold mulLo mulHi sqLo sqHi
  by_cases he : Ent a b
  · have hp : Ent a b ∨ Ent a b := .inl he
    rw [if_pos hp, if_pos hp, if_pos he, if_pos he]; omega
  · have hn : ¬ (Ent a b ∨ Ent a b) := fun k => k.elim he he
    rw [if_neg hn, if_neg hn, if_neg he, if_neg he]
    have hm := sq_mul h.bd.2.2.2.2
    exact mk_sub (dn_mono (by decide) hm.1) (Int.le_trans (dn_mono (by decide) (sq12 a b)) (up_dn _ (by decide)).1) (up_mono (by decide) hm.2)
theorem mul_vi (a b c d : Int) : VI (mulLo a b c d) (mulHi a b c d) := by
  unfold mulLo mulHi
  by_cases h : Ent a b ∨ Ent c d
  · rw [if_pos h, if_pos h]; exact .inl ⟨rfl, rfl⟩
  · rw [if_neg h, if_neg h]; exact mk_vi (dn_up_le (mn_mx a b c d))
theorem div_vi {a b c d : Int} (hcd : c ≤ d) : VI (divLo a b c d) (divHi a b c d) := by
  unfold divLo divHi
  by_cases h : Ent a b ∨ (c ≤ 0 ∧ 0 ≤ d)
  · rw [if_pos h, if_pos h]; exact .inl ⟨rfl, rfl⟩
  · rw [if_neg h, if_neg h]; exact mk_vi (dv_le (by intro hc; exact h (.inr (by omega))))
theorem add_vi {a b c d : Int} (h1 : a ≤ b) (h2 : c ≤ d) : VI (addLo a b c d) (addHi a b c d) := by
  unfold addLo addHi
  by_cases h : Ent a b ∨ Ent c d
  · rw [if_pos h, if_pos h]; exact .inl ⟨rfl, rfl⟩
  · rw [if_neg h, if_neg h]; exact mk_vi (by omega)
theorem mr_vi {a b n d : Int} (hd : 0 < d) : VI (mrLo a b n d) (mrHi a b n d) := by
  unfold mrLo mrHi
  by_cases h : Ent a b
  · rw [if_pos h, if_pos h]; exact .inl ⟨rfl, rfl⟩
  · rw [if_neg h, if_neg h]; exact mk_vi (mr_le hd)
theorem sq_vi (a b : Int) : VI (sqLo a b) (sqHi a b) := by
  unfold sqLo sqHi
  by_cases h : Ent a b
  · rw [if_pos h, if_pos h]; exact .inl ⟨rfl, rfl⟩
  · rw [if_neg h, if_neg h]; exact mk_vi (Int.le_trans (dn_mono (by decide) (sq12 a b)) (up_dn _ (by decide)).1)
end Go.Proofs.Ytecmgiihacigaaa
