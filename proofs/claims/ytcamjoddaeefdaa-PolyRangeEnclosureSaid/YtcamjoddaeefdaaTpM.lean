/-
  Mathematics: a product truncated twice.
  The reference's Halves and Value.
  Mathematics: the sum of two polynomials.
-/
import Derived.Test.YtcamjoddaeefdaaIn
namespace Go.Proofs.Ytcamjoddaeefdaa
open Go.ChangeShapes Go.WideShapes Go.ChangeAt Go.RowKit
set_option linter.unusedVariables false
set_option linter.unusedSimpArgs false
set_option maxRecDepth 100000

theorem rnd_sign (p : Tm × Tm) : (rndP p).1 ≤ 0 ∧ 0 ≤ (rndP p).2 := by
  unfold rndP
  split
  · exact ⟨Int.le_refl _, Int.le_refl _⟩
  · unfold rndE
    split <;> decide
theorem missM_sign_go : ∀ (Q : List (Tm × Tm)) (a : Int × Int), a.1 ≤ 0 ∧ 0 ≤ a.2 → (Q.foldl (fun a p => (a.1 + (rndP p).1, a.2 + (rndP p).2)) a).1 ≤ 0 ∧ 0 ≤ (Q.foldl (fun a p => (a.1 + (rndP p).1, a.2 + (rndP p).2)) a).2
  | [], a, h => h
  | p :: Q, a, h => by
    rw [List.foldl_cons]
    have := rnd_sign p
    exact missM_sign_go Q _ ⟨by dsimp only; omega, by dsimp only; omega⟩
theorem missM_sign (Q : List (Tm × Tm)) : (missM Q).1 ≤ 0 ∧ 0 ≤ (missM Q).2 := missM_sign_go Q (0, 0) ⟨Int.le_refl _, Int.le_refl _⟩
theorem trg_sign {t : Tm} (h : degE t.2 ≠ 0) : (trg t).1 ≤ 0 ∧ 0 ≤ (trg t).2 := by
  unfold trg
  rw [if_neg h]
  split
  · dsimp only; omega
  · dsimp only; omega
theorem missP_cons (D : Int) (m : Int × Int) (t : Tm) (l : List Tm) : missP D m (t :: l) = if degE t.2 ≤ D then missP D m l else missP D (addR m t) l := by
  unfold missP
  by_cases h : degE t.2 ≤ D
  · rw [if_pos h, List.filter_cons_of_neg (by simp [h])]
  · rw [if_neg h, List.filter_cons_of_pos (by simp [h]), List.foldl_cons]
theorem keptP_cons (D : Int) (t : Tm) (l : List Tm) : keptP D (t :: l) = if degE t.2 ≤ D then t :: keptP D l else keptP D l := by
  unfold keptP
  by_cases h : degE t.2 ≤ D
  · rw [if_pos h, List.filter_cons_of_pos (by simp [h])]
  · rw [if_neg h, List.filter_cons_of_neg (by simp [h])]
theorem missP_sign {D : Int} (hD : 0 ≤ D) : ∀ (l : List Tm) (m : Int × Int), m.1 ≤ 0 ∧ 0 ≤ m.2 → (missP D m l).1 ≤ 0 ∧ 0 ≤ (missP D m l).2
  | [], m, h => h
  | t :: l, m, h => by
    rw [missP_cons]
    split
    · exact missP_sign hD l m h
    · have := trg_sign (t := t) (by omega)
      exact missP_sign hD l _ ⟨by unfold addR; dsimp only; omega, by unfold addR; dsimp only; omega⟩
theorem kept_kept {L H K : Int} (h : ∀ x : Int, x ≤ K ↔ x ≤ L ∧ x ≤ H) : ∀ l : List Tm, keptP L (keptP H l) = keptP K l
  | [] => rfl
  | t :: l => by
    have ih := kept_kept h l
    have h0 := h (degE t.2)
    rw [keptP_cons H, keptP_cons K]
    by_cases h1 : degE t.2 ≤ H
    · rw [if_pos h1, keptP_cons]
      by_cases h2 : degE t.2 ≤ L
      · rw [if_pos h2, if_pos (h0.2 ⟨h2, h1⟩), ih]
      · rw [if_neg h2, if_neg (fun q => h2 (h0.1 q).1), ih]
    · rw [if_neg h1, if_neg (fun q => h1 (h0.1 q).2), ih]
theorem miss_miss {L H K : Int} (h : ∀ x : Int, x ≤ K ↔ x ≤ L ∧ x ≤ H) : ∀ (l : List Tm) (a b : Int × Int), (missP K (a.1 + b.1, a.2 + b.2) l).1 = (missP L a (keptP H l)).1 + (missP H b l).1 ∧ (missP K (a.1 + b.1, a.2 + b.2) l).2 = (missP L a (keptP H l)).2 + (missP H b l).2
  | [], a, b => ⟨rfl, rfl⟩
  | t :: l, a, b => by
    have h0 := h (degE t.2)
    rw [missP_cons K, missP_cons H, keptP_cons H]
    by_cases h1 : degE t.2 ≤ H
    · rw [if_pos h1, if_pos h1, missP_cons L]
      by_cases h2 : degE t.2 ≤ L
      · rw [if_pos h2, if_pos (h0.2 ⟨h2, h1⟩)]
        exact miss_miss h l a b
      · rw [if_neg h2, if_neg (fun q => h2 (h0.1 q).1)]
        have := miss_miss h l (addR a t) b
        rw [show addR (a.1 + b.1, a.2 + b.2) t = ((addR a t).1 + b.1, (addR a t).2 + b.2) by unfold addR; dsimp only; rw [Prod.mk.injEq]; constructor <;> omega]
        exact this
    · rw [if_neg h1, if_neg h1, if_neg (fun q => h1 (h0.1 q).2)]
      have := miss_miss h l a (addR b t)
      rw [show addR (a.1 + b.1, a.2 + b.2) t = (a.1 + (addR b t).1, a.2 + (addR b t).2) by unfold addR; dsimp only; rw [Prod.mk.injEq]; constructor <;> omega]
      exact this
/-- What does not fail. -/
theorem trunc_some {l : List Tm} {D : Int} {m : Int × Int} (h : ¬ Ent (truncP l D m).2.1 (truncP l D m).2.2) : l.any noNum = false ∧ (keptP D l).length ≤ 100 ∧ Num (missP D m l).1 ∧ Num (missP D m l).2 ∧ truncP l D m = (keptP D l, missP D m l) := by
  unfold truncP at h ⊢
  by_cases h1 : l.any noNum = true
  · rw [if_pos h1] at h
    exact absurd ⟨rfl, rfl⟩ h
  · rw [if_neg h1] at h ⊢
    by_cases h2 : 100 < (keptP D l).length ∨ entR (newR (missP D m l)) = true
    · rw [if_pos h2] at h
      exact absurd ⟨rfl, rfl⟩ h
    · rw [if_neg h2] at h ⊢
      dsimp only at h
      have h3 : Num (missP D m l).1 ∧ Num (missP D m l).2 := by
        by_cases q : Num (missP D m l).1 ∧ Num (missP D m l).2
        · exact q
        · refine absurd ?_ h
          unfold newR mkLo mkHi
          rw [if_neg q, if_neg q]
          exact ⟨rfl, rfl⟩
      refine ⟨by simpa using h1, by omega, h3.1, h3.2, ?_⟩
      unfold newR mkLo mkHi
      rw [if_pos h3, if_pos h3]
theorem num_ent {a b : Int} (h : Num a) : ¬ Ent a b := fun e => by
  unfold Num at h
  have := e.1
  omega
theorem trunc_is {l : List Tm} {D : Int} {m : Int × Int} (h1 : l.any noNum = false) (h2 : (keptP D l).length ≤ 100) (h3 : Num (missP D m l).1) (h4 : Num (missP D m l).2) : truncP l D m = (keptP D l, missP D m l) := by
  unfold truncP
  have e : newR (missP D m l) = missP D m l := by
    unfold newR mkLo mkHi
    rw [if_pos ⟨h3, h4⟩, if_pos ⟨h3, h4⟩]
  rw [if_neg (by rw [h1]; decide), e, if_neg]
  rintro (q | q)
  · omega
  · simp only [entR, Bool.and_eq_true, beq_iff_eq] at q
    exact num_ent h3 q
/-- A product truncated twice. -/
theorem twice {l m : List Tm} {L H : Int} (hL : 0 ≤ L) (hLH : L ≤ H) (h1 : ¬ Ent (mulR l m H).2.1 (mulR l m H).2.2) (h2 : ¬ Ent (mulR l m L).2.1 (mulR l m L).2.2) :
    (mulR l m L).1 = (truncP (mulR l m H).1 L (0, 0)).1 ∧ (mulR l m L).2.1 = addLo (mulR l m H).2.1 (mulR l m H).2.2 (truncP (mulR l m H).1 L (0, 0)).2.1 (truncP (mulR l m H).1 L (0, 0)).2.2 ∧ (mulR l m L).2.2 = addHi (mulR l m H).2.1 (mulR l m H).2.2 (truncP (mulR l m H).1 L (0, 0)).2.1 (truncP (mulR l m H).1 L (0, 0)).2.2 := by
  unfold mulR at h1 h2 ⊢
  obtain ⟨a1, a2, a3, a4, a5⟩ := trunc_some h1
  obtain ⟨b1, b2, b3, b4, b5⟩ := trunc_some h2
  have hk : ∀ x : Int, x ≤ min L 6 ↔ x ≤ L ∧ x ≤ min H 6 := fun x => by omega
  have mm : (missP (min L 6) (missM (pairsT l m)) (mulP l m)).1 = (missP L (0, 0) (keptP (min H 6) (mulP l m))).1 + (missP (min H 6) (missM (pairsT l m)) (mulP l m)).1 ∧ (missP (min L 6) (missM (pairsT l m)) (mulP l m)).2 = (missP L (0, 0) (keptP (min H 6) (mulP l m))).2 + (missP (min H 6) (missM (pairsT l m)) (mulP l m)).2 := by
    have := miss_miss hk (mulP l m) (0, 0) (missM (pairsT l m))
    simp only [Int.zero_add] at this
    exact this
  have ms := missM_sign (pairsT l m)
  have s1 := missP_sign (D := min H 6) (by omega) (mulP l m) _ ms
  have s2 := missP_sign hL (keptP (min H 6) (mulP l m)) (0, 0) ⟨Int.le_refl _, Int.le_refl _⟩
  have hk2 := kept_kept hk (mulP l m)
  have n1 : (keptP (min H 6) (mulP l m)).any noNum = false := by
    rw [List.any_eq_false] at a1 ⊢
    exact fun t ht => a1 t (List.mem_filter.1 ht).1
  have b3' := b3
  have b4' := b4
  unfold Num at b3 b4
  have t3 : Num (missP L (0, 0) (keptP (min H 6) (mulP l m))).1 := by unfold Num; omega
  have t4 : Num (missP L (0, 0) (keptP (min H 6) (mulP l m))).2 := by unfold Num; omega
  have tt := trunc_is (D := L) (m := (0, 0)) n1 (by rw [hk2]; exact b2) t3 t4
  rw [a5, b5]
  dsimp only
  rw [tt]
  dsimp only
  have q : ¬ (Ent (missP (min H 6) (missM (pairsT l m)) (mulP l m)).1 (missP (min H 6) (missM (pairsT l m)) (mulP l m)).2 ∨ Ent (missP L (0, 0) (keptP (min H 6) (mulP l m))).1 (missP L (0, 0) (keptP (min H 6) (mulP l m))).2) := by
    rintro (e | e)
    · exact num_ent a3 e
    · exact num_ent t3 e
  unfold addLo addHi mkLo mkHi
  rw [if_neg q, if_neg q]
  have e1 : (missP (min H 6) (missM (pairsT l m)) (mulP l m)).1 + (missP L (0, 0) (keptP (min H 6) (mulP l m))).1 = (missP (min L 6) (missM (pairsT l m)) (mulP l m)).1 := by rw [mm.1]; omega
  have e2 : (missP (min H 6) (missM (pairsT l m)) (mulP l m)).2 + (missP L (0, 0) (keptP (min H 6) (mulP l m))).2 = (missP (min L 6) (missM (pairsT l m)) (mulP l m)).2 := by rw [mm.2]; omega
  rw [e1, e2, if_pos ⟨b3', b4'⟩, if_pos ⟨b3', b4'⟩]
  exact ⟨hk2.symm, rfl, rfl⟩
end Go.Proofs.Ytcamjoddaeefdaa

namespace Go.Proofs.Ytcamjoddaeefdaa
open Go.ChangeShapes Go.WideShapes Go.ChangeAt Go.RowKit
set_option linter.unusedVariables false
set_option linter.unusedSimpArgs false
set_option maxRecDepth 100000

attribute [local irreducible] Calls
/-- Six numbers in a block. -/
def ByN (W : World) (b : Nat) (l : List Int) : Prop := W.heap[b]? = some (.cells (l.map (.int .i64 ·)).toArray 30 (0, 0))
theorem ByN.lt {W : World} {b : Nat} {l : List Int} (h : ByN W b l) : b < W.heap.size := (Array.getElem?_eq_some_iff.1 h).1
theorem ByN.cell {W : World} {b k : Nat} {l : List Int} {x : Int} (h : ByN W b l) (hx : l[k]? = some x) : W.cell? ⟨b, k, none⟩ = some (.int .i64 x) := by
  simp [World.cell?, show W.heap[b]? = _ from h, hx]
theorem ByN.frozen {W : World} {b : Nat} {l : List Int} (h : ByN W b l) (o : Nat) : W.frozen? ⟨b, o, none⟩ = false := by simp [World.frozen?, show W.heap[b]? = _ from h]
theorem ByN.set {W : World} {b : Nat} {l : List Int} (h : ByN W b l) (k : Nat) (x : Int) : ByN (W.setCell ⟨b, k, none⟩ (.int .i64 x)) b (l.set k x) := by
  have h1 := cellsT_set (o := k) (u := .int .i64 x) h
  refine Eq.trans h1 ?_
  simp [List.map_set]
theorem ByN.grow {W W' : World} {b : Nat} {l : List Int} (h : ByN W b l) (hB : Below W.heap.size W W') : ByN W' b l := (hB.block b h.lt).trans h
theorem ByN.other {W : World} {b c k : Nat} {l : List Int} {x : Value} (h : ByN W b l) (hne : b ≠ c) : ByN (W.setCell ⟨c, k, none⟩ x) b l := (heapT_set hne).trans h
/-- The point's monomial in its first k coordinates, and its degree there. -/
def pm (at' e : List Int) : Nat → Int
  | 0 => 1
  | k + 1 => pm at' e k * (at'.getD k 0) ^ (e.getD k 0).toNat
def sm (e : List Int) : Nat → Nat
  | 0 => 0
  | k + 1 => sm e k + (e.getD k 0).toNat
def valAt (at' : List Int) (t : Tm) : Int := t.1 * pm at' t.2 6 * 2 ^ (12 - (degE t.2).toNat)
def valS (at' : List Int) (l : List Tm) : Int := (l.map (valAt at')).sum
theorem valS_snoc {at' : List Int} {l : List Tm} {k : Nat} {x : Tm} (hx : l[k]? = some x) : valS at' (l.take (k + 1)) = valS at' (l.take k) + valAt at' x := by
  unfold valS
  rw [List.take_add_one, hx, List.map_append, List.sum_append]
  simp
theorem two_pos : ∀ n : Nat, (0 : Int) ≤ 2 ^ n
  | 0 => by rw [Int.pow_zero]; decide
  | n + 1 => by
    have := two_pos n
    rw [Int.pow_succ]
    omega
theorem two_mono {m : Nat} : ∀ {n : Nat}, m ≤ n → (2 : Int) ^ m ≤ 2 ^ n
  | 0, h => by rw [show m = 0 by omega]; exact Int.le_refl _
  | n + 1, h => by
    by_cases q : m = n + 1
    · rw [q]; exact Int.le_refl _
    · have h1 := two_mono (m := m) (n := n) (by omega)
      have h2 := two_pos n
      rw [Int.pow_succ]
      omega
theorem abs_pow {a : Int} (h : -2 ≤ a ∧ a ≤ 2) : ∀ n : Nat, -(2 ^ n) ≤ a ^ n ∧ a ^ n ≤ 2 ^ n
  | 0 => by rw [Int.pow_zero, Int.pow_zero]; decide
  | n + 1 => by
    have ih := abs_pow h n
    rw [Int.pow_succ, Int.pow_succ]
    have hp := two_pos n
    obtain ⟨P, hP⟩ : ∃ P : Int, 2 ^ n = P := ⟨_, rfl⟩
    obtain ⟨Q, hQ⟩ : ∃ Q : Int, a ^ n = Q := ⟨_, rfl⟩
    rw [hP] at ih hp ⊢
    rw [hQ] at ih ⊢
    obtain ⟨h1, h2⟩ := h
    rcases (show a = -2 ∨ a = -1 ∨ a = 0 ∨ a = 1 ∨ a = 2 by omega) with rfl | rfl | rfl | rfl | rfl <;> omega
theorem mul_bd {a b P Q : Int} (h1 : -P ≤ a ∧ a ≤ P) (h2 : -Q ≤ b ∧ b ≤ Q) (hP : 0 ≤ P) (hQ : 0 ≤ Q) : -(P * Q) ≤ a * b ∧ a * b ≤ P * Q := by
  have e1 : 0 ≤ (P - a) * (Q + b) := Int.mul_nonneg (by omega) (by omega)
  have e2 : 0 ≤ (P + a) * (Q - b) := Int.mul_nonneg (by omega) (by omega)
  have e3 : 0 ≤ (P - a) * (Q - b) := Int.mul_nonneg (by omega) (by omega)
  have e4 : 0 ≤ (P + a) * (Q + b) := Int.mul_nonneg (by omega) (by omega)
  simp only [Int.sub_mul, Int.add_mul, Int.mul_sub, Int.mul_add] at e1 e2 e3 e4
  omega
theorem pm_bd {at' e : List Int} (h : ∀ k, -2 ≤ at'.getD k 0 ∧ at'.getD k 0 ≤ 2) : ∀ k : Nat, -(2 ^ sm e k) ≤ pm at' e k ∧ pm at' e k ≤ 2 ^ sm e k
  | 0 => by rw [sm, pm, Int.pow_zero]; decide
  | k + 1 => by
    have ih := pm_bd (e := e) h k
    have h1 := abs_pow (h k) (e.getD k 0).toNat
    have := mul_bd ih h1 (two_pos _) (two_pos _)
    rw [← Int.pow_add] at this
    exact this
theorem getD_bd {at' : List Int} (h : ∀ x ∈ at', -2 ≤ x ∧ x ≤ 2) (k : Nat) : -2 ≤ at'.getD k 0 ∧ at'.getD k 0 ≤ 2 := by
  rw [List.getD_eq_getElem?_getD]
  cases hk : at'[k]? with
  | none => decide
  | some x => exact h x (List.mem_of_getElem? hk)
theorem sm_mono (e : List Int) : ∀ {k n : Nat}, k ≤ n → sm e k ≤ sm e n
  | k, 0, h => by rw [show k = 0 by omega]; exact Nat.le_refl _
  | k, n + 1, h => by
    by_cases q : k = n + 1
    · rw [q]; exact Nat.le_refl _
    · exact Nat.le_trans (sm_mono e (show k ≤ n by omega)) (Nat.le_add_right _ _)
theorem sm_six {e : List Int} (h : EV e) : (sm e 6 : Int) = degE e := by
  obtain ⟨a, b, c, d, f, g, rfl⟩ := six_of h
  have q := h.2
  simp only [List.mem_cons, List.not_mem_nil, or_false, forall_eq_or_imp, forall_eq] at q
  simp only [sm, degE, List.getD_cons_zero, List.getD_cons_succ, List.sum_cons, List.sum_nil]
  omega
theorem big_bd {c B : Int} {n : Nat} (hc : -2147483648 ≤ c ∧ c ≤ 2147483648) (hB : -(2 ^ n) ≤ B ∧ B ≤ 2 ^ n) (hn : n ≤ 12) : -8796093022208 ≤ c * B ∧ c * B ≤ 8796093022208 := by
  have h := mul_bd hc hB (by decide) (two_pos n)
  have h2 := two_mono hn
  have e : (2 : Int) ^ 12 = 4096 := by decide
  omega
set_option maxHeartbeats 8000000 in
theorem halves_ok (x0 x1 x2 x3 x4 x5 : Int) (w : World) (hb : ∀ x ∈ [x0, x1, x2, x3, x4, x5], -128 ≤ x ∧ x ≤ 127) :
    Calls Try.prog 12 #[.agg #[.int .i8 x0, .int .i8 x1, .int .i8 x2, .int .i8 x3, .int .i8 x4, .int .i8 x5]] w fun e w' => e = .returned (.agg #[.int .i64 (x0.tmod 3), .int .i64 (x1.tmod 3), .int .i64 (x2.tmod 3), .int .i64 (x3.tmod 3), .int .i64 (x4.tmod 3), .int .i64 (x5.tmod 3)]) ∧ Below w.heap.size w w' := by
  have hx0 := hb x0 (by simp)
  have hx1 := hb x1 (by simp)
  have hx2 := hb x2 (by simp)
  have hx3 := hb x3 (by simp)
  have hx4 := hb x4 (by simp)
  have hx5 := hb x5 (by simp)
  have W0 : wrap64 x0 = x0 := by first | exact wrap_i64 x0 (by omega) (by omega) | (unfold wrap64; omega)
  have W1 : wrap64 x1 = x1 := by first | exact wrap_i64 x1 (by omega) (by omega) | (unfold wrap64; omega)
  have W2 : wrap64 x2 = x2 := by first | exact wrap_i64 x2 (by omega) (by omega) | (unfold wrap64; omega)
  have W3 : wrap64 x3 = x3 := by first | exact wrap_i64 x3 (by omega) (by omega) | (unfold wrap64; omega)
  have W4 : wrap64 x4 = x4 := by first | exact wrap_i64 x4 (by omega) (by omega) | (unfold wrap64; omega)
  have W5 : wrap64 x5 = x5 := by first | exact wrap_i64 x5 (by omega) (by omega) | (unfold wrap64; omega)
  clear hb
  go_enter Try.func12, Try.ntmps12
  go_wp2_with (fail)
  generalize hW0 : World.alloc (World.alloc (World.alloc w _) _) _ = W0
  have hBW : Below w.heap.size w W0 := by subst hW0; exact ((((Below.refl w.heap.size w).alloc (by go_size) _).alloc (by go_size) _).alloc (by go_size) _)
  have V0 : W0.heap[w.heap.size]? = some (.cells #[.int .i8 x0, .int .i8 x1, .int .i8 x2, .int .i8 x3, .int .i8 x4, .int .i8 x5] 26 (0, 0)) := by
    subst hW0
    exact (Below.heap_alloc _ _ _ (by simp; omega)).trans ((Below.heap_alloc _ _ _ (by simp)).trans (World.alloc_heap_new w _))
  have V1 : ByN W0 (w.heap.size + 1) [0, 0, 0, 0, 0, 0] := by
    subst hW0
    have e := World.alloc_heap_new (World.alloc w (.cells #[.int .i8 x0, .int .i8 x1, .int .i8 x2, .int .i8 x3, .int .i8 x4, .int .i8 x5] 26)) (.cells #[.int .i64 0, .int .i64 0, .int .i64 0, .int .i64 0, .int .i64 0, .int .i64 0] 30)
    rw [World.size_alloc] at e
    exact (Below.heap_alloc _ _ _ (by simp)).trans e
  have V2 : ByN W0 (w.heap.size + 2) [0, 0, 0, 0, 0, 0] := by
    subst hW0
    have e := World.alloc_heap_new (World.alloc (World.alloc w (.cells #[.int .i8 x0, .int .i8 x1, .int .i8 x2, .int .i8 x3, .int .i8 x4, .int .i8 x5] 26)) (.cells #[.int .i64 0, .int .i64 0, .int .i64 0, .int .i64 0, .int .i64 0, .int .i64 0] 30)) (.cells #[.int .i64 0, .int .i64 0, .int .i64 0, .int .i64 0, .int .i64 0, .int .i64 0] 30)
    rw [World.size_alloc, World.size_alloc] at e
    exact e
  have HV0 := Lib.hid V0
  have HV1 := Lib.hid V1
  have HV2 := Lib.hid V2
  clear hW0 V0 V1 V2
  go_loopw [4] (fun i wr => ∃ k : Nat, i = .int .i64 k ∧ k ≤ 6 ∧ Hid (wr.heap[w.heap.size]? = some (.cells #[.int .i8 x0, .int .i8 x1, .int .i8 x2, .int .i8 x3, .int .i8 x4, .int .i8 x5] 26 (0, 0))) ∧ Hid (ByN wr (w.heap.size + 1) [0, 0, 0, 0, 0, 0]) ∧ Hid (ByN wr (w.heap.size + 2) [if 0 < k then x0.tmod 3 else 0, if 1 < k then x1.tmod 3 else 0, if 2 < k then x2.tmod 3 else 0, if 3 < k then x3.tmod 3 else 0, if 4 < k then x4.tmod 3 else 0, if 5 < k then x5.tmod 3 else 0]) ∧ Below w.heap.size w wr) (fun i _ => 6 - (intOf i).toNat)
  case atStart => exact ⟨0, rfl, Nat.zero_le _, HV0, HV1, HV2, hBW⟩
  case round =>
    obtain ⟨k, rfl, hk, HI, HZ, HN, hB⟩ := hrel
    rcases (show k = 0 ∨ k = 1 ∨ k = 2 ∨ k = 3 ∨ k = 4 ∨ k = 5 ∨ k = 6 by omega) with rfl | rfl | rfl | rfl | rfl | rfl | rfl
    · have c0 := heapT_cell HI.out (k := 0) rfl
      have c1 := HN.out.cell (k := 0) (x := 0) rfl
      have fz := HN.out.frozen 0
      have HNs := Lib.hid (HN.out.set 0 (x0.tmod 3))
      have HIs := Lib.hid ((heapT_set (k := w.heap.size) (W := wr) (a := ⟨w.heap.size + 2, 0, none⟩) (u := .int .i64 (x0.tmod 3)) (by simp)).trans HI.out)
      have HZs := Lib.hid (HZ.out.other (k := 0) (x := .int .i64 (x0.tmod 3)) (show w.heap.size + 1 ≠ w.heap.size + 2 by omega))
      have hB' := Lib.hid (hB.setCell (p := ⟨w.heap.size + 2, 0, none⟩) (by simp) (.int .i64 (x0.tmod 3)))
      have Wx := W0
      simp at c0
      go_wp2_with (fail)
      exact ⟨⟨1, rfl, by decide, HIs, HZs, HNs, hB'.out⟩, by simp [intOf]⟩
    · have c0 := heapT_cell HI.out (k := 1) rfl
      have c1 := HN.out.cell (k := 1) (x := 0) rfl
      have fz := HN.out.frozen 1
      have HNs := Lib.hid (HN.out.set 1 (x1.tmod 3))
      have HIs := Lib.hid ((heapT_set (k := w.heap.size) (W := wr) (a := ⟨w.heap.size + 2, 1, none⟩) (u := .int .i64 (x1.tmod 3)) (by simp)).trans HI.out)
      have HZs := Lib.hid (HZ.out.other (k := 1) (x := .int .i64 (x1.tmod 3)) (show w.heap.size + 1 ≠ w.heap.size + 2 by omega))
      have hB' := Lib.hid (hB.setCell (p := ⟨w.heap.size + 2, 1, none⟩) (by simp) (.int .i64 (x1.tmod 3)))
      have Wx := W1
      simp at c0
      go_wp2_with (fail)
      exact ⟨⟨2, rfl, by decide, HIs, HZs, HNs, hB'.out⟩, by simp [intOf]⟩
    · have c0 := heapT_cell HI.out (k := 2) rfl
      have c1 := HN.out.cell (k := 2) (x := 0) rfl
      have fz := HN.out.frozen 2
      have HNs := Lib.hid (HN.out.set 2 (x2.tmod 3))
      have HIs := Lib.hid ((heapT_set (k := w.heap.size) (W := wr) (a := ⟨w.heap.size + 2, 2, none⟩) (u := .int .i64 (x2.tmod 3)) (by simp)).trans HI.out)
      have HZs := Lib.hid (HZ.out.other (k := 2) (x := .int .i64 (x2.tmod 3)) (show w.heap.size + 1 ≠ w.heap.size + 2 by omega))
      have hB' := Lib.hid (hB.setCell (p := ⟨w.heap.size + 2, 2, none⟩) (by simp) (.int .i64 (x2.tmod 3)))
      have Wx := W2
      simp at c0
      go_wp2_with (fail)
      exact ⟨⟨3, rfl, by decide, HIs, HZs, HNs, hB'.out⟩, by simp [intOf]⟩
    · have c0 := heapT_cell HI.out (k := 3) rfl
      have c1 := HN.out.cell (k := 3) (x := 0) rfl
      have fz := HN.out.frozen 3
      have HNs := Lib.hid (HN.out.set 3 (x3.tmod 3))
      have HIs := Lib.hid ((heapT_set (k := w.heap.size) (W := wr) (a := ⟨w.heap.size + 2, 3, none⟩) (u := .int .i64 (x3.tmod 3)) (by simp)).trans HI.out)
      have HZs := Lib.hid (HZ.out.other (k := 3) (x := .int .i64 (x3.tmod 3)) (show w.heap.size + 1 ≠ w.heap.size + 2 by omega))
      have hB' := Lib.hid (hB.setCell (p := ⟨w.heap.size + 2, 3, none⟩) (by simp) (.int .i64 (x3.tmod 3)))
      have Wx := W3
      simp at c0
      go_wp2_with (fail)
      exact ⟨⟨4, rfl, by decide, HIs, HZs, HNs, hB'.out⟩, by simp [intOf]⟩
    · have c0 := heapT_cell HI.out (k := 4) rfl
      have c1 := HN.out.cell (k := 4) (x := 0) rfl
      have fz := HN.out.frozen 4
      have HNs := Lib.hid (HN.out.set 4 (x4.tmod 3))
      have HIs := Lib.hid ((heapT_set (k := w.heap.size) (W := wr) (a := ⟨w.heap.size + 2, 4, none⟩) (u := .int .i64 (x4.tmod 3)) (by simp)).trans HI.out)
      have HZs := Lib.hid (HZ.out.other (k := 4) (x := .int .i64 (x4.tmod 3)) (show w.heap.size + 1 ≠ w.heap.size + 2 by omega))
      have hB' := Lib.hid (hB.setCell (p := ⟨w.heap.size + 2, 4, none⟩) (by simp) (.int .i64 (x4.tmod 3)))
      have Wx := W4
      simp at c0
      go_wp2_with (fail)
      exact ⟨⟨5, rfl, by decide, HIs, HZs, HNs, hB'.out⟩, by simp [intOf]⟩
    · have c0 := heapT_cell HI.out (k := 5) rfl
      have c1 := HN.out.cell (k := 5) (x := 0) rfl
      have fz := HN.out.frozen 5
      have HNs := Lib.hid (HN.out.set 5 (x5.tmod 3))
      have HIs := Lib.hid ((heapT_set (k := w.heap.size) (W := wr) (a := ⟨w.heap.size + 2, 5, none⟩) (u := .int .i64 (x5.tmod 3)) (by simp)).trans HI.out)
      have HZs := Lib.hid (HZ.out.other (k := 5) (x := .int .i64 (x5.tmod 3)) (show w.heap.size + 1 ≠ w.heap.size + 2 by omega))
      have hB' := Lib.hid (hB.setCell (p := ⟨w.heap.size + 2, 5, none⟩) (by simp) (.int .i64 (x5.tmod 3)))
      have Wx := W5
      simp at c0
      go_wp2_with (fail)
      exact ⟨⟨6, rfl, by decide, HIs, HZs, HNs, hB'.out⟩, by simp [intOf]⟩
    · have HN' : Hid (ByN wr (w.heap.size + 2) [x0.tmod 3, x1.tmod 3, x2.tmod 3, x3.tmod 3, x4.tmod 3, x5.tmod 3]) := HN
      have x0' := HN'.out.cell (k := 0) rfl
      have x1' := HN'.out.cell (k := 1) rfl
      have x2' := HN'.out.cell (k := 2) rfl
      have x3' := HN'.out.cell (k := 3) rfl
      have x4' := HN'.out.cell (k := 4) rfl
      have x5' := HN'.out.cell (k := 5) rfl
      have y0' := HZ.out.cell (k := 0) rfl
      have y1' := HZ.out.cell (k := 1) rfl
      have y2' := HZ.out.cell (k := 2) rfl
      have y3' := HZ.out.cell (k := 3) rfl
      have y4' := HZ.out.cell (k := 4) rfl
      have y5' := HZ.out.cell (k := 5) rfl
      have z0' := HZ.out.frozen 0
      have z1' := HZ.out.frozen 1
      have z2' := HZ.out.frozen 2
      have z3' := HZ.out.frozen 3
      have z4' := HZ.out.frozen 4
      have z5' := HZ.out.frozen 5
      rw [show ((6 : Nat) : Int) = 6 from rfl]
      go_wp2_with (fail)
      refine bodyPost_ret (v := .agg #[.int .i64 (x0.tmod 3), .int .i64 (x1.tmod 3), .int .i64 (x2.tmod 3), .int .i64 (x3.tmod 3), .int .i64 (x4.tmod 3), .int .i64 (x5.tmod 3)]) (by simp [results, Try.results12, go_sem, y0', y1', y2', y3', y4', y5']) rfl ⟨rfl, ?_⟩
      have q (W : World) (k : Nat) (v : Value) (h : Below w.heap.size w W) : Below w.heap.size w (W.setCell ⟨w.heap.size + 1, k, none⟩ v) := h.setCell (p := ⟨w.heap.size + 1, k, none⟩) (by simp) v
      exact q _ _ _ (q _ _ _ (q _ _ _ (q _ _ _ (q _ _ _ (q _ _ _ hB)))))
set_option maxHeartbeats 40000000 in
theorem value_ok (v : Value) (l : List Tm) (p0 p1 p2 p3 p4 p5 : Int) (w : World) (hv : Tx w v l) (hl : ∀ t ∈ l, TV t ∧ Num t.1 ∧ degE t.2 ≤ 6) (at' : List Int) (hat : [p0, p1, p2, p3, p4, p5] = at') (hp : ∀ x ∈ at', -2 ≤ x ∧ x ≤ 2) (hsm : l.length ≤ 1000) :
    Calls Try.prog 16 #[v, .agg #[.int .i64 p0, .int .i64 p1, .int .i64 p2, .int .i64 p3, .int .i64 p4, .int .i64 p5]] w fun e w' => e = .returned (.int .i64 (valS at' l)) ∧ Below w.heap.size w w' := by
  have h1 := hv.1
  unfold maxLen at h1
  obtain ⟨p, c, rfl⟩ := hv.cut
  have HV := Lib.hid hv
  have HL := Lib.hid hl
  have hpb := getD_bd hp
  have HP := Lib.hid hpb
  clear hv hl hp hpb
  have P0 : ByN (w.alloc (.cells #[.int .i64 p0, .int .i64 p1, .int .i64 p2, .int .i64 p3, .int .i64 p4, .int .i64 p5] 30)) w.heap.size [p0, p1, p2, p3, p4, p5] := World.alloc_heap_new w _
  have hB0 : Below w.heap.size w (w.alloc (.cells #[.int .i64 p0, .int .i64 p1, .int .i64 p2, .int .i64 p3, .int .i64 p4, .int .i64 p5] 30)) := (Below.refl _ _).alloc (Nat.le_refl _) _
  go_enter Try.func16, Try.ntmps16
  go_wp2_with (fail)
  obtain ⟨W0, hW0⟩ : ∃ W, w.alloc (.cells #[.int .i64 p0, .int .i64 p1, .int .i64 p2, .int .i64 p3, .int .i64 p4, .int .i64 p5] 30) = W := ⟨_, rfl⟩
  rw [hW0] at P0 hB0 ⊢
  clear hW0
  have hal : at'.length = 6 := by rw [← hat]; rfl
  rw [hat] at P0
  have HP0 := Lib.hid P0
  clear P0 hat
  go_loopw [5, 6] (fun u i wr => ∃ k : Nat, u = .int .i64 (valS at' (l.take k)) ∧ i = .int .i64 k ∧ k ≤ l.length ∧ Hid (-(8796093022208 * (k : Int)) ≤ valS at' (l.take k) ∧ valS at' (l.take k) ≤ 8796093022208 * k) ∧ ∃ g : Grown W0, wr = g.w) (fun _ i _ => l.length - (intOf i).toNat)
  case atStart => exact ⟨0, rfl, rfl, Nat.zero_le _, Lib.hid (by simp [valS]), ⟨W0, Below.refl _ _⟩, rfl⟩
  case round =>
    obtain ⟨k, rfl, rfl, hk, HS, g0, rfl⟩ := hrel
    by_cases hlt : k < l.length
    · have i1 : (k : Int) < l.length := by omega
      obtain ⟨x, hx⟩ : ∃ x, l[k]? = some x := ⟨_, List.getElem?_eq_getElem hlt⟩
      have tx := HL.out x (List.mem_of_getElem? hx)
      obtain ⟨kx, e, rfl⟩ : ∃ kx e, x = (kx, e) := ⟨x.1, x.2, rfl⟩
      dsimp only at tx
      obtain ⟨b1, o1, hp, hb, rda⟩ := HV.out.rd hx
      subst hp
      have hsnoc := valS_snoc (at' := at') hx
      have fa0 : ∀ g : Grown W0, g.w.cell? ⟨b1, o1 + k * 7, none⟩ = some (.int .i64 kx) := fun g => rda ⟨g.w, below_then hB0 g.h⟩ 0 _ rfl
      have fa : ∀ (g : Grown W0) (j : Nat) (y : Int), e[j]? = some y → g.w.cell? ⟨b1, o1 + k * 7 + 1 + j, none⟩ = some (.int .u8 y) := fun g j y hy => by
        have := rda ⟨g.w, below_then hB0 g.h⟩ (j + 1) (.int .u8 y) (by simp [encT, hy])
        rw [show o1 + k * 7 + 1 + j = o1 + k * 7 + (j + 1) by omega]
        exact this
      have HX := Lib.hid tx
      have HFA := Lib.hid fa
      have HSN := Lib.hid hsnoc
      clear hx rda hsnoc fa tx
      have fb := fa0 g0
      go_wp2_with (fail)
      clear fb
      go_loopw [7, 8] (fun u i wr => ∃ q : Nat, u = .int .i64 (kx * pm at' e q) ∧ i = .int .i64 q ∧ q ≤ 6 ∧ ∃ g : Grown W0, wr = g.w) (fun _ i _ => 6 - (intOf i).toNat)
      case atStart => exact ⟨0, by simp [pm], rfl, by decide, g0, rfl⟩
      case round =>
        obtain ⟨q, rfl, rfl, hq, g1, rfl⟩ := hrel
        by_cases hq6 : q < 6
        · have i2 : (q : Int) < 6 := by omega
          obtain ⟨y, hy⟩ : ∃ y, e[q]? = some y := ⟨_, List.getElem?_eq_getElem (by rw [HX.out.1.1.1]; exact hq6)⟩
          obtain ⟨a, ha⟩ : ∃ a, at'[q]? = some a := ⟨_, List.getElem?_eq_getElem (by rw [hal]; exact hq6)⟩
          have hyb := HX.out.1.1.2 y (List.mem_of_getElem? hy)
          have fy := fun g => HFA.out g q y hy
          have fp := fun g : Grown W0 => (HP0.out.grow g.h).cell ha
          have ea : at'.getD q 0 = a := by rw [List.getD_eq_getElem?_getD, ha]; rfl
          have ey : e.getD q 0 = y := by rw [List.getD_eq_getElem?_getD, hy]; rfl
          have hab := HP.out q
          rw [ea] at hab
          have hpm1 : pm at' e (q + 1) = pm at' e q * a ^ y.toNat := by rw [pm, ea, ey]
          have hsm1 : sm e (q + 1) = sm e q + y.toNat := by rw [sm, ey]
          have hs6 : sm e (q + 1) ≤ 6 := by
            have h1 := sm_mono e (show q + 1 ≤ 6 by omega)
            have h2 : (sm e 6 : Int) = degE e := sm_six HX.out.1.1
            have h3 := HX.out.2.2
            omega
          have hpq := pm_bd (e := e) HP.out q
          have HPQ := Lib.hid hpq
          have HPM := Lib.hid hpm1
          have HSM := Lib.hid hsm1
          clear hy ha ea ey hpq hpm1 hsm1
          go_wp2_with (fail)
          go_loopw [7, 9] (fun u i wr => ∃ n : Nat, u = .int .i64 (kx * (pm at' e q * a ^ n)) ∧ i = .int .i64 n ∧ (n : Int) ≤ y ∧ ∃ g : Grown W0, wr = g.w) (fun _ i _ => y.toNat - (intOf i).toNat)
          case atStart => exact ⟨0, by simp, rfl, by omega, g1, rfl⟩
          case round =>
            obtain ⟨n, rfl, rfl, hn, g2, rfl⟩ := hrel
            have fy2 := fy g2
            have fp2 := fp g2
            by_cases hny : (n : Int) < y
            · have ht : pm at' e q * a ^ n * a = pm at' e q * a ^ (n + 1) := by rw [Int.pow_succ, Int.mul_assoc]
              have hw : IntKind.i64.wrap (kx * (pm at' e q * a ^ n) * a) = kx * (pm at' e q * a ^ (n + 1)) := by
                rw [Int.mul_assoc, ht]
                have h1 := mul_bd HPQ.out (abs_pow hab (n + 1)) (two_pos _) (two_pos _)
                rw [← Int.pow_add] at h1
                have h2 := HX.out.2.1
                unfold Num at h2
                have h3 := HSM.out
                have := big_bd (c := kx) (by omega) h1 (by omega)
                exact wrap_i64 _ (by omega) (by omega)
              have HW := Lib.hid hw
              clear ht hw
              have hw := HW.out
              go_wp2_with (fail)
              exact ⟨⟨n + 1, rfl, by go_num, by omega, g2, rfl⟩, by simp [intOf]; omega⟩
            · have en : n = y.toNat := by omega
              have eq : kx * (pm at' e q * a ^ n) = kx * pm at' e (q + 1) := by rw [HPM.out, en]
              have HQ := Lib.hid eq
              clear en eq
              go_wp2_with (fail)
              exact ⟨⟨q + 1, by rw [HQ.out], by go_num, by omega, g2, rfl⟩, by simp [intOf]; omega⟩
        · obtain rfl : q = 6 := by omega
          obtain ⟨e0, e1, e2, e3, e4, e5, rfl⟩ := six_of HX.out.1.1
          have f0 : g1.w.cell? ⟨b1, o1 + k * 7 + 1, none⟩ = some (.int .u8 e0) := HFA.out g1 0 _ rfl
          have f1 : g1.w.cell? ⟨b1, o1 + k * 7 + 2, none⟩ = some (.int .u8 e1) := HFA.out g1 1 _ rfl
          have f2 : g1.w.cell? ⟨b1, o1 + k * 7 + 3, none⟩ = some (.int .u8 e2) := HFA.out g1 2 _ rfl
          have f3 : g1.w.cell? ⟨b1, o1 + k * 7 + 4, none⟩ = some (.int .u8 e3) := HFA.out g1 3 _ rfl
          have f4 : g1.w.cell? ⟨b1, o1 + k * 7 + 5, none⟩ = some (.int .u8 e4) := HFA.out g1 4 _ rfl
          have f5 : g1.w.cell? ⟨b1, o1 + k * 7 + 6, none⟩ = some (.int .u8 e5) := HFA.out g1 5 _ rfl
          have HD := Lib.hid (fun w => r5deg [e0, e1, e2, e3, e4, e5] w HX.out.1.1)
          rw [show valE [e0, e1, e2, e3, e4, e5] = .agg #[.int .u8 e0, .int .u8 e1, .int .u8 e2, .int .u8 e3, .int .u8 e4, .int .u8 e5] from rfl] at HD
          have hd6 : (sm [e0, e1, e2, e3, e4, e5] 6 : Int) = degE [e0, e1, e2, e3, e4, e5] := sm_six HX.out.1.1
          have hdb : degE [e0, e1, e2, e3, e4, e5] ≤ 6 := HX.out.2.2
          obtain ⟨D, hD⟩ : ∃ D : Nat, degE [e0, e1, e2, e3, e4, e5] = D := ⟨_, hd6.symm⟩
          have hsD : sm [e0, e1, e2, e3, e4, e5] 6 = D := by omega
          have hD6 : D ≤ 6 := by omega
          have hva : valAt at' (kx, [e0, e1, e2, e3, e4, e5]) = kx * pm at' [e0, e1, e2, e3, e4, e5] 6 * 2 ^ (12 - D) := by
            unfold valAt
            dsimp only
            rw [hD]
            rfl
          have hpb := pm_bd (e := [e0, e1, e2, e3, e4, e5]) HP.out 6
          rw [hsD] at hpb
          rw [hD] at HD
          obtain ⟨M, hM⟩ : ∃ M, pm at' [e0, e1, e2, e3, e4, e5] 6 = M := ⟨_, rfl⟩
          rw [hM] at hva hpb ⊢
          have HPB := Lib.hid hpb
          have HVA := Lib.hid hva
          clear hd6 hdb hD hsD hva hpb hM
          rw [show ((6 : Nat) : Int) = 6 from rfl]
          go_wp2_with (fail)
          refine (HD.out _).mono ?_
          rintro _ w3 ⟨rfl, hb3⟩
          obtain ⟨g3, hg3⟩ : ∃ g : Grown W0, w3 = g.w := grow g1 hb3
          clear hb3 f0 f1 f2 f3 f4 f5
          subst hg3
          go_wp2_with (fail)
          go_loopw [7, 10] (fun u i wr => ∃ n : Nat, u = .int .i64 (kx * M * 2 ^ (n - D)) ∧ i = .int .i64 n ∧ D ≤ n ∧ n ≤ 12 ∧ ∃ g : Grown W0, wr = g.w) (fun _ i _ => 12 - (intOf i).toNat)
          case atStart => exact ⟨D, by simp, rfl, Nat.le_refl _, by omega, g3, rfl⟩
          case round =>
            obtain ⟨n, rfl, rfl, hn1, hn2, g4, rfl⟩ := hrel
            have hbig : ∀ m, m + D ≤ 12 → -8796093022208 ≤ kx * M * 2 ^ m ∧ kx * M * 2 ^ m ≤ 8796093022208 := fun m hm => by
              have h2 := HX.out.2.1
              unfold Num at h2
              have h0 := two_pos m
              have h1 := mul_bd HPB.out (b := 2 ^ m) (Q := 2 ^ m) ⟨by omega, Int.le_refl _⟩ (two_pos _) (two_pos _)
              rw [← Int.pow_add] at h1
              have := big_bd (c := kx) (by omega) h1 (by omega)
              rw [← Int.mul_assoc] at this
              exact this
            by_cases hlt2 : n < 12
            · have i3 : (n : Int) < 12 := by omega
              have hw : IntKind.i64.wrap (kx * M * 2 ^ (n - D) * 2) = kx * M * 2 ^ (n + 1 - D) := by
                have h1 := hbig (n + 1 - D) (by omega)
                have e1 : kx * M * 2 ^ (n - D) * 2 = kx * M * 2 ^ (n + 1 - D) := by rw [Int.mul_assoc, ← Int.pow_succ, show (n - D).succ = n + 1 - D by omega]
                rw [e1]
                exact wrap_i64 _ (by omega) (by omega)
              have HW := Lib.hid hw
              clear hw hbig
              have hw := HW.out
              go_wp2_with (fail)
              exact ⟨⟨n + 1, rfl, by go_num, by omega, by omega, g4, rfl⟩, by simp [intOf]; omega⟩
            · obtain rfl : n = 12 := by omega
              have h1 := hbig (12 - D) (by omega)
              rw [← HVA.out] at h1 ⊢
              have hs := HS.out
              have hw : IntKind.i64.wrap (valS at' (l.take k) + valAt at' (kx, [e0, e1, e2, e3, e4, e5])) = valS at' (l.take (k + 1)) := by
                rw [HSN.out]
                exact wrap_i64 _ (by omega) (by omega)
              have HW := Lib.hid hw
              have HS2 : Hid (-(8796093022208 * ((k + 1 : Nat) : Int)) ≤ valS at' (l.take (k + 1)) ∧ valS at' (l.take (k + 1)) ≤ 8796093022208 * ((k + 1 : Nat) : Int)) := Lib.hid (by rw [HSN.out]; push_cast; omega)
              clear hw hbig h1 hs
              have hw := HW.out
              rw [show ((12 : Nat) : Int) = 12 from rfl]
              go_wp2_with (fail)
              exact ⟨⟨k + 1, rfl, by go_num, by omega, HS2, g4, rfl⟩, by simp [intOf]; omega⟩
    · obtain rfl : k = l.length := by omega
      have i1 : ¬ (l.length : Int) < l.length := by omega
      rw [List.take_length]
      go_wp2_with (fail)
      go_ret
      exact ⟨rfl, below_then hB0 g0.h⟩
end Go.Proofs.Ytcamjoddaeefdaa

namespace Go.Proofs.Ytcamjoddaeefdaa
open Go.ChangeShapes Go.WideShapes Go.ChangeAt Go.RowKit
set_option linter.unusedVariables false
set_option linter.unusedSimpArgs false
set_option maxRecDepth 100000

theorem merge_all {Q : List Int → Prop} (l m : List Tm) : (∀ t ∈ l, Q t.2) → (∀ t ∈ m, Q t.2) → ∀ t ∈ mergeP l m, Q t.2 := by
  induction l, m using mergeP.induct with
  | case1 m => intro _ h t ht; rw [mergeP] at ht; exact h t ht
  | case2 x l => intro h _ t ht; rw [mergeP] at ht; exact h t ht
  | case3 x l y m h0 ih =>
    intro h1 h2 t ht
    rw [mergeP, if_pos h0] at ht
    rcases List.mem_cons.1 ht with rfl | ht
    · exact h1 _ (by simp)
    · exact ih (fun t ht => h1 t (by simp [ht])) h2 t ht
  | case4 x l y m h0 h3 ih =>
    intro h1 h2 t ht
    rw [mergeP, if_neg h0, if_pos h3] at ht
    rcases List.mem_cons.1 ht with rfl | ht
    · exact h2 _ (by simp)
    · exact ih h1 (fun t ht => h2 t (by simp [ht])) t ht
  | case5 x l y m h0 h3 h4 ih =>
    intro h1 h2 t ht
    rw [mergeP, if_neg h0, if_neg h3, if_pos h4] at ht
    exact ih (fun t ht => h1 t (by simp [ht])) (fun t ht => h2 t (by simp [ht])) t ht
  | case6 x l y m h0 h3 h4 ih =>
    intro h1 h2 t ht
    rw [mergeP, if_neg h0, if_neg h3, if_neg h4] at ht
    rcases List.mem_cons.1 ht with rfl | ht
    · exact h1 x (by simp)
    · exact ih (fun t ht => h1 t (by simp [ht])) (fun t ht => h2 t (by simp [ht])) t ht
theorem merge_len (l m : List Tm) : (mergeP l m).length ≤ l.length + m.length := by
  induction l, m using mergeP.induct with
  | case1 m => rw [mergeP]; simp
  | case2 x l => rw [mergeP]; simp
  | case3 x l y m h0 ih => rw [mergeP, if_pos h0]; simp only [List.length_cons] at ih ⊢; omega
  | case4 x l y m h0 h3 ih => rw [mergeP, if_neg h0, if_pos h3]; simp only [List.length_cons] at ih ⊢; omega
  | case5 x l y m h0 h3 h4 ih => rw [mergeP, if_neg h0, if_neg h3, if_pos h4]; simp only [List.length_cons] at ih ⊢; omega
  | case6 x l y m h0 h3 h4 ih => rw [mergeP, if_neg h0, if_neg h3, if_neg h4]; simp only [List.length_cons] at ih ⊢; omega
theorem merge_nz (l m : List Tm) : (∀ t ∈ l, t.1 ≠ 0) → (∀ t ∈ m, t.1 ≠ 0) → ∀ t ∈ mergeP l m, t.1 ≠ 0 := by
  induction l, m using mergeP.induct with
  | case1 m => intro _ h t ht; rw [mergeP] at ht; exact h t ht
  | case2 x l => intro h _ t ht; rw [mergeP] at ht; exact h t ht
  | case3 x l y m h0 ih =>
    intro h1 h2 t ht
    rw [mergeP, if_pos h0] at ht
    rcases List.mem_cons.1 ht with rfl | ht
    · exact h1 _ (by simp)
    · exact ih (fun t ht => h1 t (by simp [ht])) h2 t ht
  | case4 x l y m h0 h3 ih =>
    intro h1 h2 t ht
    rw [mergeP, if_neg h0, if_pos h3] at ht
    rcases List.mem_cons.1 ht with rfl | ht
    · exact h2 _ (by simp)
    · exact ih h1 (fun t ht => h2 t (by simp [ht])) t ht
  | case5 x l y m h0 h3 h4 ih =>
    intro h1 h2 t ht
    rw [mergeP, if_neg h0, if_neg h3, if_pos h4] at ht
    exact ih (fun t ht => h1 t (by simp [ht])) (fun t ht => h2 t (by simp [ht])) t ht
  | case6 x l y m h0 h3 h4 ih =>
    intro h1 h2 t ht
    rw [mergeP, if_neg h0, if_neg h3, if_neg h4] at ht
    rcases List.mem_cons.1 ht with rfl | ht
    · exact h4
    · exact ih (fun t ht => h1 t (by simp [ht])) (fun t ht => h2 t (by simp [ht])) t ht
theorem merge_bd (l m : List Tm) : (∀ t ∈ l, Num t.1) → (∀ t ∈ m, Num t.1) → ∀ t ∈ mergeP l m, -4294967296 ≤ t.1 ∧ t.1 ≤ 4294967296 := by
  have hn : ∀ {x : Int}, Num x → -4294967296 ≤ x ∧ x ≤ 4294967296 := fun h => by unfold Num at h; omega
  induction l, m using mergeP.induct with
  | case1 m => intro _ h t ht; rw [mergeP] at ht; exact hn (h t ht)
  | case2 x l => intro h _ t ht; rw [mergeP] at ht; exact hn (h t ht)
  | case3 x l y m h0 ih =>
    intro h1 h2 t ht
    rw [mergeP, if_pos h0] at ht
    rcases List.mem_cons.1 ht with rfl | ht
    · exact hn (h1 _ (by simp))
    · exact ih (fun t ht => h1 t (by simp [ht])) h2 t ht
  | case4 x l y m h0 h3 ih =>
    intro h1 h2 t ht
    rw [mergeP, if_neg h0, if_pos h3] at ht
    rcases List.mem_cons.1 ht with rfl | ht
    · exact hn (h2 _ (by simp))
    · exact ih h1 (fun t ht => h2 t (by simp [ht])) t ht
  | case5 x l y m h0 h3 h4 ih =>
    intro h1 h2 t ht
    rw [mergeP, if_neg h0, if_neg h3, if_pos h4] at ht
    exact ih (fun t ht => h1 t (by simp [ht])) (fun t ht => h2 t (by simp [ht])) t ht
  | case6 x l y m h0 h3 h4 ih =>
    intro h1 h2 t ht
    rw [mergeP, if_neg h0, if_neg h3, if_neg h4] at ht
    rcases List.mem_cons.1 ht with rfl | ht
    · have a := h1 x (by simp)
      have b := h2 y (by simp)
      unfold Num at a b
      dsimp only
      omega
    · exact ih (fun t ht => h1 t (by simp [ht])) (fun t ht => h2 t (by simp [ht])) t ht
theorem merge_tv {l m : List Tm} (h1 : ∀ t ∈ l, TV t ∧ Num t.1) (h2 : ∀ t ∈ m, TV t ∧ Num t.1) : ∀ t ∈ mergeP l m, TV t := fun t ht => by
  have a := merge_all (Q := EV) l m (fun t ht => (h1 t ht).1.1) (fun t ht => (h2 t ht).1.1) t ht
  have b := merge_bd l m (fun t ht => (h1 t ht).2) (fun t ht => (h2 t ht).2) t ht
  exact ⟨a, by omega, by omega⟩
theorem cmp_mid {a b : List Int} (h1 : ¬ cmpE a b < 0) (h2 : ¬ 0 < cmpE a b) : a = b := cmp_zero (by omega)
theorem merge_rise (l m : List Tm) : Rise l → Rise m → Rise (mergeP l m) := by
  induction l, m using mergeP.induct with
  | case1 m => intro _ h; rw [mergeP]; exact h
  | case2 x l => intro h _; rw [mergeP]; exact h
  | case3 x l y m h0 ih =>
    intro h1 h2
    rw [mergeP, if_pos h0]
    have a := List.pairwise_cons.1 h1
    have b := List.pairwise_cons.1 h2
    refine List.pairwise_cons.2 ⟨?_, ih a.2 h2⟩
    refine merge_all (Q := fun e => cmpE x.2 e < 0) l (y :: m) a.1 fun t ht => ?_
    rcases List.mem_cons.1 ht with rfl | ht
    · exact h0
    · exact cmp_trans h0 (b.1 t ht)
  | case4 x l y m h0 h3 ih =>
    intro h1 h2
    rw [mergeP, if_neg h0, if_pos h3]
    have a := List.pairwise_cons.1 h1
    have b := List.pairwise_cons.1 h2
    have hyx : cmpE y.2 x.2 < 0 := by rw [cmp_flip x.2 y.2]; omega
    refine List.pairwise_cons.2 ⟨?_, ih h1 b.2⟩
    refine merge_all (Q := fun e => cmpE y.2 e < 0) (x :: l) m (fun t ht => ?_) b.1
    rcases List.mem_cons.1 ht with rfl | ht
    · exact hyx
    · exact cmp_trans hyx (a.1 t ht)
  | case5 x l y m h0 h3 h4 ih =>
    intro h1 h2
    rw [mergeP, if_neg h0, if_neg h3, if_pos h4]
    exact ih (List.pairwise_cons.1 h1).2 (List.pairwise_cons.1 h2).2
  | case6 x l y m h0 h3 h4 ih =>
    intro h1 h2
    rw [mergeP, if_neg h0, if_neg h3, if_neg h4]
    have a := List.pairwise_cons.1 h1
    have b := List.pairwise_cons.1 h2
    have e := cmp_mid h0 h3
    refine List.pairwise_cons.2 ⟨?_, ih a.2 b.2⟩
    exact merge_all (Q := fun f => cmpE x.2 f < 0) l m a.1 (fun t ht => by rw [e]; exact b.1 t ht)
theorem valAt_add (p : List Int) (x y : Int) (e : List Int) : valAt p (x + y, e) = valAt p (x, e) + valAt p (y, e) := by
  unfold valAt
  dsimp only
  rw [Int.add_mul, Int.add_mul]
theorem valS_cons (p : List Int) (t : Tm) (l : List Tm) : valS p (t :: l) = valAt p t + valS p l := by simp [valS]
theorem merge_val (p : List Int) (l m : List Tm) : valS p (mergeP l m) = valS p l + valS p m := by
  induction l, m using mergeP.induct with
  | case1 m => rw [mergeP]; simp [valS]
  | case2 x l => rw [mergeP]; simp [valS]
  | case3 x l y m h0 ih => rw [mergeP, if_pos h0, valS_cons, ih, valS_cons p x l]; omega
  | case4 x l y m h0 h3 ih => rw [mergeP, if_neg h0, if_pos h3, valS_cons, ih, valS_cons p y]; omega
  | case5 x l y m h0 h3 h4 ih =>
    rw [mergeP, if_neg h0, if_neg h3, if_pos h4, ih, valS_cons, valS_cons]
    have e := cmp_mid h0 h3
    have h := valAt_add p x.1 y.1 x.2
    rw [h4] at h
    have z : valAt p (0, x.2) = 0 := by simp [valAt]
    rw [z] at h
    have e2 : valAt p (y.1, x.2) = valAt p y := by rw [e]
    have e1 : valAt p (x.1, x.2) = valAt p x := rfl
    omega
  | case6 x l y m h0 h3 h4 ih =>
    rw [mergeP, if_neg h0, if_neg h3, if_neg h4, valS_cons, ih, valS_cons, valS_cons]
    have e := cmp_mid h0 h3
    have h := valAt_add p x.1 y.1 x.2
    have e2 : valAt p (y.1, x.2) = valAt p y := by rw [e]
    have e1 : valAt p (x.1, x.2) = valAt p x := rfl
    omega
def negT (l : List Tm) : List Tm := l.map fun t => (-t.1, t.2)
theorem merge_neg : ∀ l : List Tm, mergeP l (negT l) = []
  | [] => by simp [negT, mergeP]
  | t :: l => by
    show mergeP (t :: l) ((-t.1, t.2) :: negT l) = []
    rw [mergeP, if_neg (by rw [cmp_self]; decide), if_neg (by rw [cmp_self]; decide), if_pos (by dsimp only; omega)]
    exact merge_neg l
theorem all_of_rise {l : List Tm} (h : Rise l) (h1 : ∀ t ∈ l, t.1 ≠ 0 ∧ degE t.2 ≤ 6) : allT l l.length := fun i hi => by
  have hx := List.getElem?_eq_getElem hi
  have hm := List.mem_of_getElem? hx
  refine ⟨_, hx, (h1 _ hm).1, (h1 _ hm).2, fun h0 => ⟨_, List.getElem?_eq_getElem (show i - 1 < l.length by omega), ?_⟩⟩
  exact List.pairwise_iff_getElem.1 h (i - 1) i (by omega) hi (by omega)
theorem rise_of_all {l : List Tm} (h : allT l l.length) : Rise l := by
  refine List.pairwise_iff_getElem.2 fun i j hi hj hij => ?_
  have key : ∀ (d : Nat) (k : Nat) (hk : k < l.length), k = i + d + 1 → cmpE l[i].2 l[k].2 < 0 := by
    intro d
    induction d with
    | zero =>
      intro k hk e
      obtain ⟨t, ht, _, _, hs⟩ := h k hk
      obtain ⟨s, hs1, hs2⟩ := hs (by omega)
      have e1 : k - 1 = i := by omega
      rw [e1, List.getElem?_eq_getElem hi] at hs1
      rw [List.getElem?_eq_getElem hk] at ht
      rw [Option.some.inj hs1, Option.some.inj ht]
      exact hs2
    | succ d ih =>
      intro k hk e
      obtain ⟨t, ht, _, _, hs⟩ := h k hk
      obtain ⟨s, hs1, hs2⟩ := hs (by omega)
      have hk1 : k - 1 < l.length := by omega
      have q := ih (k - 1) hk1 (by omega)
      rw [List.getElem?_eq_getElem hk1] at hs1
      rw [List.getElem?_eq_getElem hk] at ht
      rw [Option.some.inj hs1] at q
      rw [Option.some.inj ht]
      exact cmp_trans q hs2
  exact key (j - i - 1) j hj (by omega)
theorem vp_parts {l : List Tm} (h : VP l) : Rise l ∧ ∀ t ∈ l, t.1 ≠ 0 ∧ degE t.2 ≤ 6 := by
  refine ⟨rise_of_all h.1, fun t ht => ?_⟩
  obtain ⟨i, hi, rfl⟩ := List.getElem_of_mem ht
  obtain ⟨s, hs, h1, h2, _⟩ := h.1 i hi
  rw [List.getElem?_eq_getElem hi] at hs
  rw [Option.some.inj hs]
  exact ⟨h1, h2⟩
theorem kept_all {D : Int} {l : List Tm} (h : ∀ t ∈ l, degE t.2 ≤ D) : keptP D l = l := List.filter_eq_self.2 fun t ht => by simpa using h t ht
theorem miss_all {D : Int} {l : List Tm} (m : Int × Int) (h : ∀ t ∈ l, degE t.2 ≤ D) : missP D m l = m := by
  unfold missP
  rw [List.filter_eq_nil_iff.2 fun t ht => by simpa using h t ht]
  rfl
theorem trunc_none {l : List Tm} {D : Int} {m : Int × Int} (h : Ent (truncP l D m).2.1 (truncP l D m).2.2) : (truncP l D m).1 = [] := by
  unfold truncP at h ⊢
  by_cases h1 : l.any noNum = true
  · rw [if_pos h1]
  · rw [if_neg h1] at h ⊢
    by_cases h2 : 100 < (keptP D l).length ∨ entR (newR (missP D m l)) = true
    · rw [if_pos h2]
    · rw [if_neg h2] at h
      exfalso
      apply h2
      right
      dsimp only at h
      simp only [entR, Bool.and_eq_true, beq_iff_eq]
      exact h
/-- The sum, where it does not fail. -/
theorem sum_some {l m : List Tm} (h1 : VP l) (h2 : VP m) (h : ¬ Ent (truncP (mergeP l m) 6 (0, 0)).2.1 (truncP (mergeP l m) 6 (0, 0)).2.2) : truncP (mergeP l m) 6 (0, 0) = (mergeP l m, (0, 0)) ∧ VP (mergeP l m) := by
  obtain ⟨a1, a2, a3, a4, a5⟩ := trunc_some h
  have p1 := vp_parts h1
  have p2 := vp_parts h2
  have hd := merge_all (Q := fun e => degE e ≤ 6) l m (fun t ht => (p1.2 t ht).2) (fun t ht => (p2.2 t ht).2)
  have hz := merge_nz l m (fun t ht => (p1.2 t ht).1) (fun t ht => (p2.2 t ht).1)
  rw [kept_all hd, miss_all _ hd] at a5
  rw [kept_all hd] at a2
  exact ⟨a5, all_of_rise (merge_rise l m p1.1 p2.1) fun t ht => ⟨hz t ht, hd t ht⟩, a2, a1⟩
theorem sum_neg (l : List Tm) : truncP (mergeP l (negT l)) 6 (0, 0) = ([], (0, 0)) := by
  rw [merge_neg]
  decide
end Go.Proofs.Ytcamjoddaeefdaa
