/-
  Mathematics: Eval is isotone; on the whole domain it is the range.
-/
import Derived.Test.YtcamjoddaeefdaaTpM
import Derived.Test.YtcamjoddaeefdaaIsoMath
namespace Go.Proofs.Ytcamjoddaeefdaa
open Go.ChangeShapes Go.WideShapes Go.ChangeAt Go.RowKit
set_option linter.unusedVariables false
set_option linter.unusedSimpArgs false
set_option maxRecDepth 100000

def Sb2 (p q : Int × Int) : Prop := Sb p.1 p.2 q.1 q.2
theorem powX_iso {x y : Int × Int} (hx : VB2 x) (hy : VB2 y) (h : Sb2 x y) : ∀ n : Nat, Sb2 (powX x n) (powX y n) := by
  intro n
  induction n using Nat.strongRecOn with
  | ind n ih =>
    by_cases h1 : n ≤ 1
    · rw [powX, dif_pos h1, powX, dif_pos h1]
      exact h
    · by_cases h2 : n % 2 = 0
      · rw [powX_even x (by omega) h2, powX_even y (by omega) h2]
        exact sq_iso (powX_vb hx _) (powX_vb hy _) (ih (n / 2) (by omega))
      · rw [powX_odd x (by omega) h2, powX_odd y (by omega) h2]
        exact mul_iso (powX_vb hx _) hx (powX_vb hy _) hy (ih (n - 1) (by omega)) h
def SbL (l m : List (Int × Int)) : Prop := ∀ i, Sb2 (varX l i) (varX m i)
theorem foldM_iso {l m : List (Int × Int)} (hl : ∀ p ∈ l, VB2 p) (hm : ∀ p ∈ m, VB2 p) (h : SbL l m) (e : List Int) : ∀ (is : List Nat) (v u : Int × Int), VB2 v → VB2 u → Sb2 v u →
    Sb2 (is.foldl (fun v i => if 0 < e.getD i 0 then mulI2 v (powX (varX l i) (e.getD i 0).toNat) else v) v) (is.foldl (fun v i => if 0 < e.getD i 0 then mulI2 v (powX (varX m i) (e.getD i 0).toNat) else v) u)
  | [], v, u, _, _, g => g
  | i :: is, v, u, hv, hu, g => by
    rw [List.foldl_cons, List.foldl_cons]
    by_cases q : 0 < e.getD i 0
    · rw [if_pos q, if_pos q]
      refine foldM_iso hl hm h e is _ _ (mul_vi _ _ _ _) (mul_vi _ _ _ _) ?_
      exact mul_iso hv (powX_vb (varX_vb hl i) _) hu (powX_vb (varX_vb hm i) _) g (powX_iso (varX_vb hl i) (varX_vb hm i) (h i) _)
    · rw [if_neg q, if_neg q]
      exact foldM_iso hl hm h e is _ _ hv hu g
theorem valI_iso {l m : List (Int × Int)} (hl : ∀ p ∈ l, VB2 p) (hm : ∀ p ∈ m, VB2 p) (h : SbL l m) (t : Tm) (j : Nat) : Sb2 (valI l t j) (valI m t j) :=
  foldM_iso hl hm h t.2 (List.range j) _ _ (ptI_vb _) (ptI_vb _) ⟨Int.le_refl _, Int.le_refl _⟩
theorem addI2_vb {p q : Int × Int} (h1 : VB2 p) (h2 : VB2 q) : VB2 (addI2 p q) := add_vi (vb_le h1) (vb_le h2)
theorem foldE_iso {l m : List (Int × Int)} (hl : ∀ p ∈ l, VB2 p) (hm : ∀ p ∈ m, VB2 p) (h : SbL l m) : ∀ (T : List Tm) (v u : Int × Int), VB2 v → VB2 u → Sb2 v u →
    Sb2 (T.foldl (fun a t => addI2 a (valI l t 6)) v) (T.foldl (fun a t => addI2 a (valI m t 6)) u)
  | [], v, u, _, _, g => g
  | t :: T, v, u, hv, hu, g => by
    rw [List.foldl_cons, List.foldl_cons]
    refine foldE_iso hl hm h T _ _ (addI2_vb hv (valI_vb _ _ _)) (addI2_vb hu (valI_vb _ _ _)) ?_
    exact add_iso hv (valI_vb _ _ _) hu (valI_vb _ _ _) g (valI_iso hl hm h t 6)
theorem evalP_iso {l m : List (Int × Int)} (hl : ∀ p ∈ l, VB2 p) (hm : ∀ p ∈ m, VB2 p) (h : SbL l m) (T : List Tm) : Sb2 (evalP l T) (evalP m T) :=
  foldE_iso hl hm h T (0, 0) (0, 0) (.inr ⟨by unfold Num; decide, by unfold Num; decide, Int.le_refl _⟩) (.inr ⟨by unfold Num; decide, by unfold Num; decide, Int.le_refl _⟩) ⟨Int.le_refl _, Int.le_refl _⟩
/-- Powers of the whole domain. -/
theorem powX_whole : ∀ n : Nat, 1 ≤ n → powX (-65536, 65536) n = if n % 2 = 0 then (0, 65536) else (-65536, 65536) := by
  intro n
  induction n using Nat.strongRecOn with
  | ind n ih =>
    intro h0
    by_cases h1 : n ≤ 1
    · obtain rfl : n = 1 := by omega
      rw [powX_one]
      rfl
    · by_cases h2 : n % 2 = 0
      · rw [powX_even _ (by omega) h2, ih (n / 2) (by omega) (by omega), if_pos h2]
        by_cases h3 : n / 2 % 2 = 0
        · rw [if_pos h3]; decide
        · rw [if_neg h3]; decide
      · rw [powX_odd _ (by omega) h2, ih (n - 1) (by omega) (by omega), if_pos (by omega), if_neg h2]
        decide
theorem mul_whole {a b : Int} (ha : Num a) (hb : Num b) (hab : a ≤ b) : mulI2 (a, b) (0, 65536) = (min a 0, max b 0) ∧ mulI2 (a, b) (-65536, 65536) = (min (min a (-a)) (min b (-b)), max (max a (-a)) (max b (-b))) := by
  have n1 : ¬ (Ent a b ∨ Ent 0 65536) := fun k => k.elim (num_ent ha) (by unfold Ent; omega)
  have n2 : ¬ (Ent a b ∨ Ent (-65536) 65536) := fun k => k.elim (num_ent ha) (by unfold Ent; omega)
  have e1 : mn4 a b 0 65536 = min a 0 * 65536 := by unfold mn4; omega
  have e2 : mx4 a b 0 65536 = max b 0 * 65536 := by unfold mx4; omega
  have e3 : mn4 a b (-65536) 65536 = min (min a (-a)) (min b (-b)) * 65536 := by unfold mn4; omega
  have e4 : mx4 a b (-65536) 65536 = max (max a (-a)) (max b (-b)) * 65536 := by unfold mx4; omega
  unfold Num at ha hb
  have k1 : Num (min a 0) ∧ Num (max b 0) := by unfold Num; omega
  have k2 : Num (min (min a (-a)) (min b (-b))) ∧ Num (max (max a (-a)) (max b (-b))) := by unfold Num; omega
  unfold mulI2 mulLo mulHi
  dsimp only
  rw [if_neg n1, if_neg n1, if_neg n2, if_neg n2, e1, e2, e3, e4, dn_mul_self _ (by decide), up_mul_self _ (by decide), dn_mul_self _ (by decide), up_mul_self _ (by decide)]
  unfold mkLo mkHi
  rw [if_pos k1, if_pos k1, if_pos k2, if_pos k2]
  exact ⟨rfl, rfl⟩
/-- The value of a term on the whole domain, by the exponents so far. -/
def clsV (c : Int) (k : Nat) : Int × Int := if k = 0 then (c, c) else if k = 1 then (min c 0, max c 0) else (-max c (-c), max c (-c))
def nxt (s : Nat) (x : Int) : Nat := if x = 0 then s else if x % 2 = 0 then max s 1 else 2
theorem cls_step {c : Int} (hc : Num c) {s : Nat} (hs : s ≤ 2) {x : Int} (hx : 0 ≤ x ∧ x ≤ 255) : (if 0 < x then mulI2 (clsV c s) (powX (-65536, 65536) x.toNat) else clsV c s) = clsV c (nxt s x) ∧ nxt s x ≤ 2 := by
  have hc' := hc
  unfold Num at hc'
  by_cases h0 : x = 0
  · subst h0
    rw [if_neg (by decide)]
    exact ⟨rfl, hs⟩
  · rw [if_pos (by omega), powX_whole x.toNat (by omega)]
    have hm : x.toNat % 2 = 0 ↔ x % 2 = 0 := by omega
    have m0 := mul_whole hc hc (Int.le_refl c)
    have m1 := mul_whole (a := min c 0) (b := max c 0) (by unfold Num; omega) (by unfold Num; omega) (by omega)
    have m2 := mul_whole (a := -max c (-c)) (b := max c (-c)) (by unfold Num; omega) (by unfold Num; omega) (by omega)
    have hs' : s = 0 ∨ s = 1 ∨ s = 2 := by omega
    by_cases h2 : x % 2 = 0
    · rw [if_pos (hm.2 h2)]
      unfold nxt
      rw [if_neg h0, if_pos h2]
      rcases hs' with rfl | rfl | rfl
      · refine ⟨m0.1.trans ?_, by decide⟩
        rfl
      · refine ⟨m1.1.trans ?_, by decide⟩
        show _ = (min c 0, max c 0)
        rw [Prod.mk.injEq]
        omega
      · refine ⟨m2.1.trans ?_, by decide⟩
        show _ = (-max c (-c), max c (-c))
        rw [Prod.mk.injEq]
        omega
    · rw [if_neg (fun q => h2 (hm.1 q))]
      unfold nxt
      rw [if_neg h0, if_neg h2]
      rcases hs' with rfl | rfl | rfl
      · refine ⟨m0.2.trans ?_, by decide⟩
        show _ = (-max c (-c), max c (-c))
        rw [Prod.mk.injEq]
        omega
      · refine ⟨m1.2.trans ?_, by decide⟩
        show _ = (-max c (-c), max c (-c))
        rw [Prod.mk.injEq]
        omega
      · refine ⟨m2.2.trans ?_, by decide⟩
        show _ = (-max c (-c), max c (-c))
        rw [Prod.mk.injEq]
        omega
theorem valI_step (box : List (Int × Int)) (t : Tm) (j : Nat) : valI box t (j + 1) = if 0 < t.2.getD j 0 then mulI2 (valI box t j) (powX (varX box j) (t.2.getD j 0).toNat) else valI box t j := by
  unfold valI
  rw [List.range_succ, List.foldl_append]
  rfl
theorem ptI_num {c : Int} (h : Num c) : ptI c = (c, c) := by
  unfold ptI mkLo mkHi
  rw [if_pos ⟨h, h⟩, if_pos ⟨h, h⟩]
theorem nxt_spec {s : Nat} (hs : s ≤ 2) {x : Int} (hx : 0 ≤ x ∧ x ≤ 255) : (nxt s x = 0 ↔ s = 0 ∧ x = 0) ∧ (nxt s x = 2 ↔ s = 2 ∨ x % 2 ≠ 0) ∧ nxt s x ≤ 2 := by
  unfold nxt
  by_cases h0 : x = 0
  · rw [if_pos h0]; omega
  · rw [if_neg h0]
    by_cases h2 : x % 2 = 0
    · rw [if_pos h2]; omega
    · rw [if_neg h2]; omega
/-- On the whole domain, a term's value is its range. -/
theorem valI_whole {t : Tm} (h : TV t ∧ Num t.1) : valI [] t 6 = trg t := by
  obtain ⟨c, e0, e1, e2, e3, e4, e5, rfl⟩ := six_at h.1
  have hb := h.1.1.2
  simp only [List.mem_cons, List.not_mem_nil, or_false, forall_eq_or_imp, forall_eq] at hb
  obtain ⟨b0, b1, b2, b3, b4, b5⟩ := hb
  have hc : Num c := h.2
  have s0 : valI [] (c, [e0, e1, e2, e3, e4, e5]) 0 = clsV c 0 := by rw [valI_zero, ptI_num hc]; rfl
  have c0 := cls_step hc (s := 0) (by decide) b0
  have s1 : valI [] (c, [e0, e1, e2, e3, e4, e5]) 1 = clsV c (nxt 0 e0) := by rw [valI_step, s0]; exact c0.1
  have c1 := cls_step hc c0.2 b1
  have s2 : valI [] (c, [e0, e1, e2, e3, e4, e5]) 2 = clsV c (nxt (nxt 0 e0) e1) := by rw [valI_step, s1]; exact c1.1
  have c2 := cls_step hc c1.2 b2
  have s3 : valI [] (c, [e0, e1, e2, e3, e4, e5]) 3 = clsV c (nxt (nxt (nxt 0 e0) e1) e2) := by rw [valI_step, s2]; exact c2.1
  have c3 := cls_step hc c2.2 b3
  have s4 : valI [] (c, [e0, e1, e2, e3, e4, e5]) 4 = clsV c (nxt (nxt (nxt (nxt 0 e0) e1) e2) e3) := by rw [valI_step, s3]; exact c3.1
  have c4 := cls_step hc c3.2 b4
  have s5 : valI [] (c, [e0, e1, e2, e3, e4, e5]) 5 = clsV c (nxt (nxt (nxt (nxt (nxt 0 e0) e1) e2) e3) e4) := by rw [valI_step, s4]; exact c4.1
  have c5 := cls_step hc c4.2 b5
  have s6 : valI [] (c, [e0, e1, e2, e3, e4, e5]) 6 = clsV c (nxt (nxt (nxt (nxt (nxt (nxt 0 e0) e1) e2) e3) e4) e5) := by rw [valI_step, s5]; exact c5.1
  rw [s6]
  unfold trg clsV
  have hd : degE [e0, e1, e2, e3, e4, e5] = e0 + (e1 + (e2 + (e3 + (e4 + (e5 + 0))))) := by simp [degE]
  have hev : evenE [e0, e1, e2, e3, e4, e5] = true ↔ e0 % 2 = 0 ∧ e1 % 2 = 0 ∧ e2 % 2 = 0 ∧ e3 % 2 = 0 ∧ e4 % 2 = 0 ∧ e5 % 2 = 0 := by simp [evenE]
  have key : ∀ k : Nat, nxt (nxt (nxt (nxt (nxt (nxt 0 e0) e1) e2) e3) e4) e5 = k → (k = 0 ↔ degE [e0, e1, e2, e3, e4, e5] = 0) ∧ (k = 1 → evenE [e0, e1, e2, e3, e4, e5] = true) ∧ (k ≠ 0 → k ≠ 1 → ¬ evenE [e0, e1, e2, e3, e4, e5] = true) := by
    intro k hk
    rw [hd, hev]
    have n0 := nxt_spec (s := 0) (by decide) b0
    have n1 := nxt_spec n0.2.2 b1
    have n2 := nxt_spec n1.2.2 b2
    have n3 := nxt_spec n2.2.2 b3
    have n4 := nxt_spec n3.2.2 b4
    have n5 := nxt_spec n4.2.2 b5
    rw [hk] at n5
    generalize nxt 0 e0 = t0 at *
    generalize nxt t0 e1 = t1 at *
    generalize nxt t1 e2 = t2 at *
    generalize nxt t2 e3 = t3 at *
    generalize nxt t3 e4 = t4 at *
    clear hk s0 s1 s2 s3 s4 s5 s6 c0 c1 c2 c3 c4 c5 hd hev
    omega
  obtain ⟨k, hk⟩ : ∃ k, nxt (nxt (nxt (nxt (nxt (nxt 0 e0) e1) e2) e3) e4) e5 = k := ⟨_, rfl⟩
  obtain ⟨k1, k2, k3⟩ := key k hk
  rw [hk]
  dsimp only
  by_cases q0 : k = 0
  · rw [if_pos q0, if_pos (k1.1 q0)]
  · rw [if_neg q0, if_neg (fun q => q0 (k1.2 q))]
    by_cases q1 : k = 1
    · rw [if_pos q1, if_pos (k2 q1)]
    · rw [if_neg q1, if_neg (k3 q0 q1)]
theorem trg_num {t : Tm} (h : Num t.1) : Num (trg t).1 ∧ Num (trg t).2 := by
  unfold Num at h
  unfold trg
  split
  · unfold Num; dsimp only; omega
  · split
    · unfold Num; dsimp only; omega
    · unfold Num; dsimp only; omega
def EvS (e s : Int × Int) : Prop := Ent e.1 e.2 ∨ (e = s ∧ Num s.1 ∧ Num s.2)
theorem evS_fold : ∀ (l : List Tm), (∀ t ∈ l, TV t ∧ Num t.1) → ∀ e s, EvS e s → EvS (l.foldl (fun a t => addI2 a (valI [] t 6)) e) (l.foldl addR s)
  | [], _, _, _, g => g
  | t :: l, h, e, s, g => by
    rw [List.foldl_cons, List.foldl_cons]
    refine evS_fold l (fun t ht => h t (by simp [ht])) _ _ ?_
    have ht := h t (by simp)
    rw [valI_whole ht]
    have hn := trg_num ht.2
    rcases g with g | ⟨rfl, g1, g2⟩
    · left
      unfold addI2 addLo addHi
      rw [if_pos (.inl g), if_pos (.inl g)]
      exact ⟨rfl, rfl⟩
    · unfold EvS addI2 addLo addHi
      dsimp only
      have hne : ¬ (Ent e.1 e.2 ∨ Ent (trg t).1 (trg t).2) := fun k => k.elim (num_ent g1) (num_ent hn.1)
      rw [if_neg hne, if_neg hne]
      unfold mkLo mkHi
      by_cases q : Num (e.1 + (trg t).1) ∧ Num (e.2 + (trg t).2)
      · right
        rw [if_pos q, if_pos q]
        exact ⟨rfl, q.1, q.2⟩
      · left
        rw [if_neg q, if_neg q]
        exact ⟨rfl, rfl⟩
/-- The range lies in Eval on the whole domain. -/
theorem range_in {l : List Tm} (h : ∀ t ∈ l, TV t ∧ Num t.1) : Sb2 (newR (sumR l)) (evalP [] l) := by
  have g := evS_fold l h (0, 0) (0, 0) (.inr ⟨rfl, by unfold Num; decide, by unfold Num; decide⟩)
  have e1 : evalP [] l = l.foldl (fun a t => addI2 a (valI [] t 6)) (0, 0) := rfl
  have e2 : sumR l = l.foldl addR (0, 0) := rfl
  rw [← e1, ← e2] at g
  unfold Sb2 Sb newR mkLo mkHi
  dsimp only
  rcases g with g | ⟨g, g1, g2⟩
  · rw [g.1, g.2]
    by_cases q : Num (sumR l).1 ∧ Num (sumR l).2
    · rw [if_pos q, if_pos q]
      unfold Num at q
      omega
    · rw [if_neg q, if_neg q]
      decide
  · rw [g, if_pos ⟨g1, g2⟩, if_pos ⟨g1, g2⟩]
    exact ⟨Int.le_refl _, Int.le_refl _⟩
end Go.Proofs.Ytcamjoddaeefdaa
