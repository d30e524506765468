/-
  Variables and constants as models, in full; a slice of eight-bit numbers, written to.
-/
import Derived.Test.YtbfhmbadgbackaaGreatYj
namespace Go.Proofs.YtbfhmbadgbackaaGreat
open Go.ChangeShapes Go.WideShapes Go.ChangeAt Go.RowKit
set_option linter.unusedVariables false
set_option linter.unusedSimpArgs false

theorem truncP_id {l : List Tm} (h : ∀ t ∈ l, Num t.1 ∧ degE t.2 ≤ 6) (hl : l.length ≤ 100) : truncP l 6 (0, 0) = (l, (0, 0)) := by
  have hk : keptP 6 l = l := List.filter_eq_self.2 fun t ht => by simp [(h t ht).2]
  have hm : missP 6 (0, 0) l = (0, 0) := by
    unfold missP
    rw [List.filter_eq_nil_iff.2 fun t ht => by simp [(h t ht).2]]
    rfl
  have hn : l.any noNum = false := by
    rw [List.any_eq_false]
    intro t ht
    simp [noNum, (h t ht).1]
  unfold truncP
  rw [hn, hk, hm, if_neg (by decide), if_neg (by rintro (q | q); omega; exact absurd q (by decide))]
  rfl
def unitE (k : Nat) : List Int := ([0, 0, 0, 0, 0, 0] : List Int).set k 1
def lineT (k : Nat) (r : Int) : List Tm := if r = 0 then [] else [(r, unitE k)]
theorem unit_deg : ∀ k < 6, degE (unitE k) = 1 := by decide
theorem unit_add : ∀ k < 6, addE (unitE k) [0, 0, 0, 0, 0, 0] = unitE k := by decide
theorem unit_cmp : ∀ k < 6, cmpE [0, 0, 0, 0, 0, 0] (unitE k) = -1 := by decide
theorem unit_ev : ∀ k < 6, (unitE k).length = 6 ∧ ∀ x ∈ unitE k, 0 ≤ x ∧ x ≤ 6 := by decide
theorem line_deg {k : Nat} {r : Int} (hk : k < 6) (hr : Num r) : ∀ t ∈ lineT k r, Num t.1 ∧ degE t.2 ≤ 6 := by
  unfold lineT
  split
  · simp
  · intro t ht
    simp only [List.mem_singleton] at ht
    subst ht
    exact ⟨hr, by rw [unit_deg k hk]; decide⟩
theorem const_deg {c : Int} (hr : Num c) : ∀ t ∈ constT c, Num t.1 ∧ degE t.2 ≤ 6 := by
  unfold constT
  split
  · simp
  · intro t ht
    simp only [List.mem_singleton] at ht
    subst ht
    exact ⟨hr, show degE ([0, 0, 0, 0, 0, 0] : List Int) ≤ 6 from by decide⟩
theorem lin_eq {k : Nat} {r : Int} (hk : k < 6) (hr : Num r) : linM k r = (lineT k r, (0, 0)) := by
  have hv : varT k = [(65536, unitE k)] := by
    unfold varT unitE
    rw [if_pos (by omega)]
    rfl
  unfold linM mulR
  rw [hv, show min (6 : Int) 6 = 6 from rfl]
  by_cases h : r = 0
  · subst h
    rw [show constT 0 = [] from rfl, show lineT k 0 = [] from rfl, show mulP [(65536, unitE k)] [] = [] from rfl, show missM (pairsT [(65536, unitE k)] []) = (0, 0) from rfl]
    exact truncP_id (by simp) (by simp)
  · have hd : dn (65536 * r) 65536 = r := by rw [Int.mul_comm]; exact dn_mul_self r (by decide)
    have hu : up (65536 * r) 65536 = r := by
      rw [← (dn_eq_up (65536 * r) (d := 65536) (by decide)).2 (by omega)]
      exact hd
    have hc : constT r = [(r, [0, 0, 0, 0, 0, 0])] := by unfold constT; rw [if_neg h]
    have hl : lineT k r = [(r, unitE k)] := by unfold lineT; rw [if_neg h]
    have hp : pairsT [(65536, unitE k)] [(r, [0, 0, 0, 0, 0, 0])] = [((65536, unitE k), (r, [0, 0, 0, 0, 0, 0]))] := rfl
    have e1 : mulP [(65536, unitE k)] [(r, [0, 0, 0, 0, 0, 0])] = [(r, unitE k)] := by
      unfold mulP
      rw [hp]
      simp [prT, hd, unit_add k hk, collT, insT, h]
    have e2 : missM [((65536, unitE k), (r, [0, 0, 0, 0, 0, 0]))] = (0, 0) := by
      unfold missM
      simp [rndP, hd, hu]
    rw [hc, e1, hp, e2, hl]
    exact truncP_id (fun t ht => by simp only [List.mem_singleton] at ht; subst ht; exact ⟨hr, by rw [unit_deg k hk]; decide⟩) (by simp)
theorem merge_line {k : Nat} {c r : Int} (hk : k < 6) : mergeP (constT c) (lineT k r) = constT c ++ lineT k r := by
  unfold constT lineT
  by_cases h1 : c = 0
  · by_cases h2 : r = 0 <;> simp [mergeP, h1, h2]
  · by_cases h2 : r = 0 <;> simp [mergeP, h1, h2, unit_cmp k hk]
theorem half_num {a b : Int} (ha : Num a) (hb : Num b) (h : a ≤ b) : Num (midI (a, b)) ∧ Num (b - midI (a, b)) ∧ Num (a - midI (a, b)) ∧ midI (a, b) = a + (b - a) / 2 := by
  unfold Num midI at *
  dsimp only
  omega
/-- Var of an interval that is not the entire one. -/
theorem varM_eq {k : Nat} {a b : Int} (hk : k < 6) (ha : Num a) (hb : Num b) (h : a ≤ b) : varM k (a, b) = (constT (midI (a, b)) ++ lineT k (b - midI (a, b)), (0, 0)) := by
  obtain ⟨hm, hr, -, -⟩ := half_num ha hb h
  unfold varM
  dsimp only
  rw [pt_num hr, if_neg (by
    unfold Num at hr
    simp only [entR, Bool.and_eq_true, beq_iff_eq]
    omega), lin_eq hk hr]
  dsimp only
  rw [merge_line hk, truncP_id (fun t ht => by
    rcases List.mem_append.1 ht with q | q
    · exact const_deg hm t q
    · exact line_deg hk hr t q) (by
    rw [List.length_append]
    have h1 : (constT (midI (a, b))).length ≤ 1 := by unfold constT; split <;> simp
    have h2 : (lineT k (b - midI (a, b))).length ≤ 1 := by unfold lineT; split <;> simp
    omega)]
  rfl
theorem varM_ent (i : Int) : varM i (-2147483648, 2147483648) = ([], (-2147483648, 2147483648)) := by
  unfold varM
  rw [if_pos (by decide)]
theorem constM_ent : constM (-2147483648, 2147483648) = ([], (-2147483648, 2147483648)) := by decide
theorem constM_eq {a b : Int} (ha : Num a) (hb : Num b) (h : a ≤ b) : constM (a, b) = (constT (midI (a, b)), (a - midI (a, b), b - midI (a, b))) := by
  obtain ⟨hm, hr, hl, -⟩ := half_num ha hb h
  have e : addI2 (a, b) (-midI (a, b), -midI (a, b)) = (a - midI (a, b), b - midI (a, b)) := by
    unfold addI2 addLo addHi
    dsimp only
    have n1 : ¬ Ent a b := by unfold Ent Num at *; omega
    have n2 : ¬ Ent (-midI (a, b)) (-midI (a, b)) := by unfold Ent; omega
    rw [if_neg (by rintro (q | q); exact n1 q; exact n2 q), if_neg (by rintro (q | q); exact n1 q; exact n2 q)]
    unfold mkLo mkHi
    rw [← Int.sub_eq_add_neg, ← Int.sub_eq_add_neg, if_pos ⟨hl, hr⟩, if_pos ⟨hl, hr⟩]
  unfold constM
  rw [pt_num hm]
  show (_, addI2 (a, b) (-midI (a, b), -midI (a, b))) = _
  rw [e]
theorem cv_const (s : List Int) (c : Int) : cvS s (constT c) = c := by
  unfold constT
  split
  · rename_i h; subst h; rfl
  · simp [cvS, cvT, pmC]
theorem pow1 (x : Int) : x ^ 1 = x := by rw [Int.pow_succ, Int.pow_zero, Int.one_mul]
theorem cv_line (s : List Int) {k : Nat} (hk : k < 6) (r : Int) : cvS s (lineT k r) = r * cnr s k := by
  unfold lineT
  split
  · rename_i h; subst h; simp [cvS]
  · rcases (show k = 0 ∨ k = 1 ∨ k = 2 ∨ k = 3 ∨ k = 4 ∨ k = 5 by omega) with rfl | rfl | rfl | rfl | rfl | rfl <;> simp [cvS, cvT, pmC, unitE, pow1]
theorem cv_app (s : List Int) (l m : List Tm) : cvS s (l ++ m) = cvS s l + cvS s m := by simp [cvS, List.sum_append]
theorem cv_var (s : List Int) {k : Nat} (hk : k < 6) (c r : Int) : cvS s (constT c ++ lineT k r) = c + r * cnr s k := by rw [cv_app, cv_const, cv_line s hk]
theorem const_six {c : Int} (h : Num c) : ∀ t ∈ constT c, TV t ∧ Num t.1 ∧ ∀ x ∈ t.2, x ≤ 6 := by
  unfold constT
  split
  · simp
  · intro t ht
    simp only [List.mem_singleton] at ht
    subst ht
    unfold Num at h
    exact ⟨⟨⟨rfl, show ∀ x ∈ ([0, 0, 0, 0, 0, 0] : List Int), 0 ≤ x ∧ x ≤ 255 from by decide⟩, by dsimp only; omega⟩, h, show ∀ x ∈ ([0, 0, 0, 0, 0, 0] : List Int), x ≤ 6 from by decide⟩
theorem line_six {k : Nat} {r : Int} (hk : k < 6) (h : Num r) : ∀ t ∈ lineT k r, TV t ∧ Num t.1 ∧ ∀ x ∈ t.2, x ≤ 6 := by
  unfold lineT
  split
  · simp
  · intro t ht
    simp only [List.mem_singleton] at ht
    subst ht
    have e := unit_ev k hk
    unfold Num at h
    exact ⟨⟨⟨e.1, fun x hx => ⟨(e.2 x hx).1, by have := (e.2 x hx).2; omega⟩⟩, by dsimp only; omega⟩, h, fun x hx => (e.2 x hx).2⟩
theorem var_six {k : Nat} {c r : Int} (hk : k < 6) (hc : Num c) (h : Num r) : ∀ t ∈ constT c ++ lineT k r, TV t ∧ Num t.1 ∧ ∀ x ∈ t.2, x ≤ 6 := fun t ht => by
  rcases List.mem_append.1 ht with q | q
  · exact const_six hc t q
  · exact line_six hk h t q
theorem var_len (k : Nat) (c r : Int) : (constT c ++ lineT k r).length ≤ 100 := by
  rw [List.length_append]
  have h1 : (constT c).length ≤ 1 := by unfold constT; split <;> simp
  have h2 : (lineT k r).length ≤ 1 := by unfold lineT; split <;> simp
  omega
/-- A block of eight-bit numbers. -/
def I8C (W : World) (b : Nat) (l : List Int) : Prop := W.heap[b]? = some (.cells (l.map fun x => Value.int .i8 x).toArray 58 (0, 0))
theorem I8C.lt {W : World} {b : Nat} {l : List Int} (h : I8C W b l) : b < W.heap.size := (Array.getElem?_eq_some_iff.1 h).1
theorem I8C.grow {W W' : World} {b : Nat} {l : List Int} (h : I8C W b l) (hB : Below W.heap.size W W') : I8C W' b l := (hB.block b h.lt).trans h
theorem I8C.frozen {W : World} {b : Nat} {l : List Int} (h : I8C W b l) (o : Nat) : W.frozen? ⟨b, o, none⟩ = false := by simp [World.frozen?, show W.heap[b]? = _ from h]
theorem I8C.cell {W : World} {b k : Nat} {l : List Int} {x : Int} (h : I8C W b l) (hx : l[k]? = some x) : W.cell? ⟨b, k, none⟩ = some (.int .i8 x) := by
  simp [World.cell?, show W.heap[b]? = _ from h, hx]
theorem I8C.set {W : World} {b k : Nat} {l : List Int} (h : I8C W b l) (x : Int) : I8C (W.setCell ⟨b, k, none⟩ (.int .i8 x)) b (l.set k x) := by
  have := cellsT_set (o := k) (u := .int .i8 x) h
  unfold I8C
  rw [this, List.map_set]
  simp
theorem I8C.s8 {W : World} {b : Nat} {l : List Int} (h : I8C W b l) (hl : l.length = 6) : S8 W (.slice (some ⟨b, 0, none⟩) 6 6) l := by
  refine ⟨by rw [hl]; simp [maxLen], some ⟨b, 0, none⟩, 6, by rw [hl], fun k x hk => ⟨b, 0, rfl, h.lt, ?_⟩⟩
  rw [Nat.zero_add]
  exact h.cell hk
def unitS (k : Nat) (x : Int) : List Int := ([0, 0, 0, 0, 0, 0] : List Int).set k x
theorem unitS_cnr {k : Nat} (hk : k < 6) : cnr [0, 0, 0, 0, 0, 0] k = 0 ∧ cnr (unitS k 1) k = 1 ∧ cnr (unitS k (-1)) k = -1 := by
  rcases (show k = 0 ∨ k = 1 ∨ k = 2 ∨ k = 3 ∨ k = 4 ∨ k = 5 by omega) with rfl | rfl | rfl | rfl | rfl | rfl <;> decide
theorem unitS_bd {k : Nat} {x : Int} (hx : -128 ≤ x ∧ x ≤ 127) : ∀ y ∈ unitS k x, -128 ≤ y ∧ y ≤ 127 := fun y hy => by
  rcases List.mem_or_eq_of_mem_set hy with q | rfl
  · simp at q; omega
  · exact hx
theorem unitS_len (k : Nat) (x : Int) : (unitS k x).length = 6 := by simp [unitS]
end Go.Proofs.YtbfhmbadgbackaaGreat
