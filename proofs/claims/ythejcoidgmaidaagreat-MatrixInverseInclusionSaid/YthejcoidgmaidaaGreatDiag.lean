/-
  The inverse of a diagonal matrix.
-/
import Derived.Test.YthejcoidgmaidaaGreatElR
namespace Go.Proofs.YthejcoidgmaidaaGreat
open Go.ChangeShapes Go.WideShapes Go.ChangeAt Go.RowKit
set_option linter.unusedVariables false
set_option linter.unusedSimpArgs false
set_option maxRecDepth 100000

theorem wide_ext {n m : Nat} {X Y : List (List (Int × Int))} (hX : X.length = n ∧ ∀ r ∈ X, r.length = m) (hY : Y.length = n ∧ ∀ r ∈ Y, r.length = m) (h : ∀ i j, i < n → j < m → elI X i j = elI Y i j) : X = Y := by
  apply List.ext_getElem (by rw [hX.1, hY.1])
  intro i h1 h2
  have l1 := hX.2 X[i] (List.getElem_mem h1)
  have l2 := hY.2 Y[i] (List.getElem_mem h2)
  apply List.ext_getElem (by rw [l1, l2])
  intro j g1 g2
  have e := h i j (by omega) (by omega)
  rw [el_some (List.getElem?_eq_getElem h1) (List.getElem?_eq_getElem g1), el_some (List.getElem?_eq_getElem h2) (List.getElem?_eq_getElem g2)] at e
  exact e
def matW (n : Nat) (F : Nat → Nat → Int × Int) : List (List (Int × Int)) := (List.range n).map fun i => (List.range (n + n)).map (F i)
theorem el_matW {F : Nat → Nat → Int × Int} {n i j : Nat} (hi : i < n) (hj : j < n + n) : elI (matW n F) i j = F i j := by
  refine el_some (r := (List.range (n + n)).map (F i)) ?_ ?_
  · unfold matW; rw [List.getElem?_map, List.getElem?_range hi, Option.map_some]
  · rw [List.getElem?_map, List.getElem?_range hj, Option.map_some]
theorem shape_matW (n : Nat) (F : Nat → Nat → Int × Int) : (matW n F).length = n ∧ ∀ r ∈ matW n F, r.length = n + n := by
  refine ⟨by simp [matW], fun r hr => ?_⟩
  unfold matW at hr
  rw [List.mem_map] at hr
  obtain ⟨i, _, rfl⟩ := hr
  simp
theorem wide_matW {n : Nat} {F : Nat → Nat → Int × Int} (h : ∀ i j, VB (F i j)) : Wide n (matW n F) := by
  refine ⟨(shape_matW n F).1, fun r hr => ⟨(shape_matW n F).2 r hr, fun p hp => ?_⟩⟩
  unfold matW at hr
  rw [List.mem_map] at hr
  obtain ⟨i, _, rfl⟩ := hr
  rw [List.mem_map] at hp
  obtain ⟨j, _, rfl⟩ := hp
  exact h i j
def quoD (d : Int) : Int × Int := divJ (65536, 65536) (d, d)
theorem quoD_val {d : Int} (h : 4 ≤ d) : quoD d = (dn 4294967296 d, up 4294967296 d) ∧ ¬ Ent (quoD d).1 (quoD d).2 ∧ VB (quoD d) := by
  have hn : ¬ (Ent 65536 65536 ∨ (d ≤ 0 ∧ 0 ≤ d)) := by
    rintro (e | e)
    · exact absurd e.1 (by decide)
    · omega
  have h1 := dn_mul 4294967296 (d := d) (by omega)
  have h2 := up_mul 4294967296 (d := d) (by omega)
  have h3 : 0 ≤ dn 4294967296 d := by
    apply Int.not_lt.1
    intro hl
    have := Int.mul_le_mul_of_nonneg_right (show dn 4294967296 d ≤ -1 by omega) (show 0 ≤ d by omega)
    omega
  have h4 : up 4294967296 d ≤ 1073741824 := by
    apply Int.not_lt.1
    intro hl
    have := Int.mul_le_mul_of_nonneg_right (show (1073741825 : Int) ≤ up 4294967296 d by omega) (show 0 ≤ d by omega)
    omega
  have h5 : dn 4294967296 d ≤ up 4294967296 d := dn_le_up (by omega)
  have e1 : dv1 65536 65536 d d = dn 4294967296 d := by unfold dv1; simp
  have e2 : dv2 65536 65536 d d = up 4294967296 d := by unfold dv2; simp
  have hm : Num (dn 4294967296 d) ∧ Num (up 4294967296 d) := by unfold Num; omega
  have hq : quoD d = (dn 4294967296 d, up 4294967296 d) := by
    unfold quoD divJ divLo divHi
    simp only [if_neg hn, e1, e2]
    unfold mkLo mkHi
    rw [if_pos hm, if_pos hm]
  rw [hq]
  refine ⟨rfl, fun e => ?_, .inr ⟨hm.1, hm.2, h5⟩⟩
  have := e.1
  dsimp only at this
  omega
theorem div_same {d : Int} (h : 4 ≤ d) (h2 : d ≤ 33554432) : divJ (d, d) (d, d) = (65536, 65536) := by
  have hn : ¬ (Ent d d ∨ (d ≤ 0 ∧ 0 ≤ d)) := by
    rintro (e | e)
    · have := e.1; omega
    · omega
  have e0 : dn (d * 65536) d = 65536 := dn_is (by omega) (by rw [Int.mul_comm]; omega) (by rw [Int.mul_comm d]; omega)
  have e3 : up (d * 65536) d = 65536 := up_is (by omega) (by rw [Int.mul_comm d]; omega) (by rw [Int.mul_comm d]; omega)
  have e1 : dv1 d d d d = 65536 := by unfold dv1; rw [e0]; simp
  have e2 : dv2 d d d d = 65536 := by unfold dv2; rw [e3]; simp
  unfold divJ divLo divHi
  simp only [if_neg hn, e1, e2]
  decide
theorem div_zer0 {d : Int} (h : 4 ≤ d) : divJ (0, 0) (d, d) = (0, 0) := by
  have hn : ¬ (Ent 0 0 ∨ (d ≤ 0 ∧ 0 ≤ d)) := by
    rintro (e | e)
    · exact absurd e.1 (by decide)
    · omega
  have e0 : dn (0 * 65536) d = 0 := dn_is (by omega) (by omega) (by omega)
  have e3 : up (0 * 65536) d = 0 := up_is (by omega) (by omega) (by omega)
  have e1 : dv1 0 0 d d = 0 := by unfold dv1; rw [e0]; simp
  have e2 : dv2 0 0 d d = 0 := by unfold dv2; rw [e3]; simp
  unfold divJ divLo divHi
  simp only [if_neg hn, e1, e2]
  decide
def dgT (n : Nat) (d : Nat → Int) (k i j : Nat) : Int × Int :=
  if j < n then (if i = j then (if i < k then (65536, 65536) else (d i, d i)) else (0, 0)) else (if j = n + i then (if i < k then quoD (d i) else (65536, 65536)) else (0, 0))
theorem dg_vb {n k : Nat} {d : Nat → Int} (hd : ∀ i, 4 ≤ d i ∧ d i ≤ 33554432) (i j : Nat) : VB (dgT n d k i j) ∧ ¬ Ent (dgT n d k i j).1 (dgT n d k i j).2 := by
  have h1 : VB (65536, 65536) ∧ ¬ Ent 65536 65536 := ⟨vb_one, fun e => absurd e.1 (by decide)⟩
  have h0 : VB (0, 0) ∧ ¬ Ent 0 0 := ⟨vb_zero, fun e => absurd e.1 (by decide)⟩
  have h2 : VB (d i, d i) ∧ ¬ Ent (d i) (d i) := ⟨.inr ⟨⟨by have := hd i; omega, by have := hd i; omega⟩, ⟨by have := hd i; omega, by have := hd i; omega⟩, Int.le_refl _⟩, fun e => by have := e.1; have := hd i; omega⟩
  have h3 := quoD_val (hd i).1
  unfold dgT
  split
  · split
    · split
      · exact h1
      · exact h2
    · exact h0
  · split
    · split
      · exact ⟨h3.2.2, h3.2.1⟩
      · exact h1
    · exact h0
theorem sub_zero {p : Int × Int} (h : VB p) : subI p (0, 0) = p := by
  have := addI_zero h
  unfold subI
  unfold addI at this
  simpa using this
theorem mig_nn (p : Int × Int) : 0 ≤ migI p := by unfold migI; omega
theorem piv_diag {n k : Nat} {d : Nat → Int} (hk : k < n) : pivV (matW n (dgT n d k)) k = k := by
  have : ∀ s, bst (matW n (dgT n d k)) k s = k := fun s => by
    induction s with
    | zero => rfl
    | succ s ih =>
      unfold bst
      rw [ih]
      have hz : migI (elI (matW n (dgT n d k)) (k + 1 + s) k) = 0 := by
        by_cases h : k + 1 + s < n
        · rw [el_matW h (by omega)]
          unfold dgT
          rw [if_pos hk, if_neg (by omega)]
          decide
        · unfold elI
          rw [List.getElem?_eq_none (by rw [(shape_matW n _).1]; omega)]
          show migI (0, 0) = 0
          decide
      rw [hz, if_neg (by have := mig_nn (elI (matW n (dgT n d k)) k k); omega)]
  exact this _
theorem step_diag {n k : Nat} {d : Nat → Int} (hd : ∀ i, 4 ≤ d i ∧ d i ≤ 33554432) (hk : k < n) : invStep (matW n (dgT n d k)) k = matW n (dgT n d (k + 1)) := by
  have hW : Wide n (matW n (dgT n d k)) := wide_matW fun i j => (dg_vb hd i j).1
  unfold invStep
  rw [piv_diag hk]
  have hs : swapM (matW n (dgT n d k)) k k = matW n (dgT n d k) := by
    have hWs := swap_wide hW hk hk
    refine wide_ext (m := n + n) ⟨hWs.1, fun r hr => (hWs.2 r hr).1⟩ (shape_matW n _) fun i j hi hj => ?_
    rw [el_swap (by rw [hW.1]; exact hk) (by rw [hW.1]; exact hk)]
    unfold sw
    split <;> (try split) <;> (first | rfl | (subst_vars; rfl))
  rw [hs]
  have hWe := elim_wide hW hk
  refine wide_ext (m := n + n) ⟨hWe.1, fun r hr => (hWe.2 r hr).1⟩ (shape_matW n _) fun i j hi hj => ?_
  have hkk : dgT n d k k k = (d k, d k) := by unfold dgT; rw [if_pos hk, if_pos rfl, if_neg (by omega)]
  rw [el_elim hW hk hi hj, el_matW hi hj, el_matW hi hj, el_matW hk hj, el_matW hk (by omega), el_matW hi (by omega), hkk]
  by_cases e : i = k
  · subst e
    rw [if_pos rfl]
    unfold dgT
    by_cases hjn : j < n
    · rw [if_pos hjn, if_pos hjn]
      by_cases hij : i = j
      · rw [if_pos hij, if_pos hij, if_neg (by omega), if_pos (by omega), div_same (hd i).1 (hd i).2]
      · rw [if_neg hij, if_neg hij, div_zer0 (hd i).1]
    · rw [if_neg hjn, if_neg hjn]
      by_cases hij : j = n + i
      · rw [if_pos hij, if_pos hij, if_neg (by omega), if_pos (by omega)]
        rfl
      · rw [if_neg hij, if_neg hij, div_zer0 (hd i).1]
  · rw [if_neg e]
    have hz : dgT n d k i k = (0, 0) := by unfold dgT; rw [if_pos hk, if_neg e]
    have hne : ¬ Ent (divJ (dgT n d k k j) (d k, d k)).1 (divJ (dgT n d k k j) (d k, d k)).2 := by
      unfold dgT
      by_cases hjn : j < n
      · rw [if_pos hjn]
        by_cases hij : k = j
        · rw [if_pos hij, if_neg (by omega), div_same (hd k).1 (hd k).2]
          exact fun e => absurd e.1 (by decide)
        · rw [if_neg hij, div_zer0 (hd k).1]
          exact fun e => absurd e.1 (by decide)
      · rw [if_neg hjn]
        by_cases hij : j = n + k
        · rw [if_pos hij, if_neg (by omega)]
          exact (quoD_val (hd k).1).2.1
        · rw [if_neg hij, div_zer0 (hd k).1]
          exact fun e => absurd e.1 (by decide)
    rw [hz, zero_mulI hne, sub_zero (dg_vb hd i j).1]
    unfold dgT
    have h1 : (i < k + 1) = (i < k) := propext (by omega)
    simp only [h1]
def invD (d : Nat → Int) (i j : Nat) : Int × Int := if i = j then quoD (d i) else (0, 0)
theorem inv_diag_go {n : Nat} {d : Nat → Int} (hd : ∀ i, 4 ≤ d i ∧ d i ≤ 33554432) : ∀ (f k : Nat), k + f = n → invS n f k (matW n (dgT n d k)) = some (matOf (invD d) n)
  | 0, k, h => by
    obtain rfl : k = n := by omega
    have hdrop : (matW k (dgT k d k)).map (fun r => r.drop k) = matOf (invD d) k := by
      unfold matW matOf
      rw [List.map_map]
      apply List.map_congr_left
      intro i hi
      have hik := List.mem_range.1 hi
      show ((List.range (k + k)).map (dgT k d k i)).drop k = rowOf (invD d) k i
      apply List.ext_getElem (by simp [rowOf])
      intro j h1 h2
      simp only [List.getElem_drop, List.getElem_map, List.getElem_range, rowOf]
      unfold dgT invD
      rw [if_neg (by omega)]
      by_cases e : i = j
      · rw [if_pos (by omega), if_pos hik, if_pos e]
      · rw [if_neg (by omega), if_neg e]
    have hno : noE k (matW k (dgT k d k)) = true := by
      unfold noE
      rw [List.all_eq_true]
      intro r hr
      rw [Bool.not_eq_true', List.any_eq_false]
      intro p hp
      have hp' := List.mem_of_mem_drop hp
      unfold matW at hr
      rw [List.mem_map] at hr
      obtain ⟨i, _, rfl⟩ := hr
      rw [List.mem_map] at hp'
      obtain ⟨j, _, rfl⟩ := hp'
      have := (dg_vb (n := k) (k := k) hd i j).2
      intro hE
      apply this
      unfold isE at hE
      simp only [Bool.and_eq_true, beq_iff_eq] at hE
      exact hE
    rw [invS, if_pos hno, hdrop]
  | f + 1, k, h => by
    have hk : k < n := by omega
    rw [invS, piv_diag hk]
    have hs : ¬ sgI (elI (matW n (dgT n d k)) k k) = 0 := by
      rw [el_matW hk (by omega)]
      have : dgT n d k k k = (d k, d k) := by unfold dgT; rw [if_pos hk, if_pos rfl, if_neg (by omega)]
      rw [this]
      unfold sgI sg
      rw [if_pos (by have := (hd k).1; omega)]
      decide
    rw [if_neg hs, step_diag hd hk]
    exact inv_diag_go hd f (k + 1) (by omega)
def dgF (d : Nat → Int) (i j : Nat) : Int × Int := if i = j then (d i, d i) else (0, 0)
theorem dgF_sq {n : Nat} {d : Nat → Int} (hd : ∀ i, 4 ≤ d i ∧ d i ≤ 33554432) : Sq n (matOf (dgF d) n) := by
  refine ⟨by simp [matOf], fun r hr => ?_⟩
  obtain ⟨i, _, rfl⟩ := mem_matOf hr
  refine ⟨by simp [rowOf], fun p hp => ?_⟩
  unfold rowOf at hp
  rw [List.mem_map] at hp
  obtain ⟨j, _, rfl⟩ := hp
  unfold dgF
  split
  · exact .inr ⟨⟨by have := hd i; omega, by have := hd i; omega⟩, ⟨by have := hd i; omega, by have := hd i; omega⟩, Int.le_refl _⟩
  · exact vb_zero
theorem inv_diag {n : Nat} {d : Nat → Int} (hd : ∀ i, 4 ≤ d i ∧ d i ≤ 33554432) : invV (matOf (dgF d) n) n = some (matOf (invD d) n) := by
  unfold invV
  have hS := dgF_sq (n := n) hd
  have hA := aug_wide hS
  have e : augM (matOf (dgF d) n) n = matW n (dgT n d 0) := by
    refine wide_ext (m := n + n) ⟨hA.1, fun r hr => (hA.2 r hr).1⟩ (shape_matW n _) fun i j hi hj => ?_
    rw [el_matW hi hj]
    unfold dgT
    by_cases hjn : j < n
    · rw [el_aug hS hi hjn, el_mat hi hjn, if_pos hjn]
      unfold dgF
      by_cases e : i = j
      · rw [if_pos e, if_pos e, if_neg (by omega)]
      · rw [if_neg e, if_neg e]
    · have := el_augR (j := j - n) hS hi (by omega)
      rw [show n + (j - n) = j by omega] at this
      rw [this, if_neg hjn]
      unfold idF
      by_cases e : i = j - n
      · rw [if_pos e, if_pos (by omega), if_neg (by omega)]
      · rw [if_neg e, if_neg (by omega)]
  rw [e]
  exact inv_diag_go hd n 0 (by omega)
end Go.Proofs.YthejcoidgmaidaaGreat
