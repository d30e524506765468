/-
  Orthogonalize on numbers below 2^24 in up to four dimensions: its columns are nearly of the length One and nearly at right angles.
-/
import Derived.Test.YtmcdkbnpcmiojaaOrthA
import Derived.Test.YtmcdkbnpcmiojaaVec
namespace Go.Proofs.Ytmcdkbnpcmiojaa
open Go.ChangeShapes Go.WideShapes Go.ChangeAt Go.RowKit
set_option linter.unusedVariables false
set_option linter.unusedSimpArgs false
set_option maxRecDepth 100000

def V4.l (v : V4) : List Int := [v.a, v.b, v.c, v.d, 0, 0]
theorem dn_zero65 : dn 0 65536 = 0 := by decide
theorem wo_l (w u : V4) : withoutV w.l u.l = (w.wo u).l := by
  have e : alongV w.l u.l = w.al u := by
    simp [alongV, partL, V4.l, V4.al, dn_zero65]
    omega
  unfold withoutV
  rw [e]
  simp [V4.l, V4.wo, dn_zero65]
theorem pass_l : ∀ (fs : List V4) (w : V4), passV (fs.map V4.l) w.l = (pass4 fs w).l
  | [], w => rfl
  | q :: fs, w => by
    show passV (fs.map V4.l) (withoutV w.l q.l) = _
    rw [wo_l]
    exact pass_l fs _
def passN4 (fs : List V4) (w : V4) : Nat → V4
  | 0 => w
  | p + 1 => pass4 fs (passN4 fs w p)
theorem passN_l (fs : List V4) (w : V4) : ∀ p, passN (fs.map V4.l) w.l p = (passN4 fs w p).l
  | 0 => rfl
  | p + 1 => by
    show passV _ (passN _ _ p) = _
    rw [passN_l fs w p, pass_l]
    rfl
theorem red_l (fs : List V4) (w : V4) : redV (fs.map V4.l) w.l = (red4 fs w).l := passN_l fs w 3
theorem sq_l (x : V4) : sqV x.l = x.dot x := by
  simp [sqV, V4.l, V4.dot]
  omega
theorem len_l {x : V4} (h : x.dot x ≤ 33554532 * 33554532) : 0 ≤ lenV x.l ∧ lenV x.l * lenV x.l ≤ x.dot x ∧ x.dot x < (lenV x.l + 1) * (lenV x.l + 1) := by
  have s := isq_spec x.self_nn
  have l := isq_lt (q := 33554533) x.self_nn (by omega) (by decide)
  have e : lenV x.l = isq (x.dot x) := by
    unfold lenV
    rw [sq_l]
    omega
  rw [e]
  exact s
theorem nrm_l (x : V4) : normV x.l = (x.scl (lenV x.l)).l := by
  unfold normV
  generalize lenV x.l = L
  have z : dn 0 L = 0 := by unfold dn; exact Int.zero_fdiv L
  simp [V4.l, V4.scl, z]
theorem ax_l {k : Nat} (h : k < 4) : axV k = (V4.ax k).l := by
  match k, h with
  | 0, _ => rfl
  | 1, _ => rfl
  | 2, _ => rfl
  | 3, _ => rfl
/-- Nothing beyond n components. -/
def V4.sup (n : Nat) (v : V4) : Prop := (n ≤ 1 → v.b = 0) ∧ (n ≤ 2 → v.c = 0) ∧ (n ≤ 3 → v.d = 0)
theorem sup_wo {n : Nat} {w u : V4} (h : w.sup n) (g : u.sup n) : (w.wo u).sup n :=
  ⟨fun q => by show w.b - dn (w.al u * u.b) 65536 = 0; rw [h.1 q, g.1 q, Int.mul_zero, dn_zero65]; rfl,
   fun q => by show w.c - dn (w.al u * u.c) 65536 = 0; rw [h.2.1 q, g.2.1 q, Int.mul_zero, dn_zero65]; rfl,
   fun q => by show w.d - dn (w.al u * u.d) 65536 = 0; rw [h.2.2 q, g.2.2 q, Int.mul_zero, dn_zero65]; rfl⟩
theorem sup_pass {n : Nat} : ∀ (fs : List V4) (w : V4), w.sup n → (∀ q ∈ fs, q.sup n) → (pass4 fs w).sup n
  | [], w, h, _ => h
  | q :: fs, w, h, g => sup_pass fs (w.wo q) (sup_wo h (g q (by simp))) fun x hx => g x (by simp [hx])
theorem sup_red {n : Nat} {fs : List V4} {w : V4} (h : w.sup n) (g : ∀ q ∈ fs, q.sup n) : (red4 fs w).sup n := sup_pass fs _ (sup_pass fs _ (sup_pass fs _ h g) g) g
theorem sup_scl {n : Nat} {x : V4} (h : x.sup n) (L : Int) : (x.scl L).sup n := by
  have z : dn 0 L = 0 := by unfold dn; exact Int.zero_fdiv L
  exact ⟨fun q => by show dn (x.b * 65536) L = 0; rw [h.1 q, Int.zero_mul, z], fun q => by show dn (x.c * 65536) L = 0; rw [h.2.1 q, Int.zero_mul, z], fun q => by show dn (x.d * 65536) L = 0; rw [h.2.2 q, Int.zero_mul, z]⟩
theorem sup_ax {n k : Nat} (h : k < n) : (V4.ax k).sup n := by
  match k with
  | 0 => exact ⟨fun _ => rfl, fun _ => rfl, fun _ => rfl⟩
  | 1 => exact ⟨fun q => by omega, fun _ => rfl, fun _ => rfl⟩
  | 2 => exact ⟨fun q => by omega, fun q => by omega, fun _ => rfl⟩
  | k + 3 => exact ⟨fun q => by omega, fun q => by omega, fun q => by omega⟩
def lim (k : Nat) : Int := if k ≤ 2 then 9830400 else 67108864
/-- A good frame. -/
def Good (n : Nat) (fs : List V4) : Prop := (∀ q ∈ fs, q.nrm ∧ q.sup n) ∧ ∀ i j p q, i < j → fs[i]? = some p → fs[j]? = some q → DB p q (lim j)
theorem red_good {n : Nat} {fs : List V4} (h : Good n fs) (hl : fs.length ≤ 3) {w : V4} (hw : w.dot w ≤ 1125899906842624) : ∃ E, 16 * E + 131112 ≤ lim fs.length ∧ ∀ q ∈ fs, DB (red4 fs w) q E := by
  match fs, h, hl with
  | [], _, _ => exact ⟨0, (by decide : 16 * 0 + 131112 ≤ lim 0), nofun⟩
  | [q], h, _ => exact ⟨394174, (by decide : 16 * 394174 + 131112 ≤ lim 1), fun x hx => by
      obtain rfl : x = q := by simpa using hx
      exact red_1 (h.1 x (by simp)).1 hw⟩
  | [p, q], h, _ =>
    have r := red_2 (h.1 p (by simp)).1 (h.1 q (by simp)).1 (h.2 0 1 p q (by decide) rfl rfl) hw
    exact ⟨580869, (by decide : 16 * 580869 + 131112 ≤ lim 2), fun x hx => by
      have : x = p ∨ x = q := by simpa using hx
      rcases this with rfl | rfl
      · exact r.1
      · exact r.2⟩
  | [p, q, s], h, _ =>
    have r := red_3 (h.1 p (by simp)).1 (h.1 q (by simp)).1 (h.1 s (by simp)).1 (h.2 0 1 p q (by decide) rfl rfl) (h.2 0 2 p s (by decide) rfl rfl) (h.2 1 2 q s (by decide) rfl rfl) hw
    exact ⟨971159, (by decide : 16 * 971159 + 131112 ≤ lim 3), fun x hx => by
      have : x = p ∨ x = q ∨ x = s := by simpa using hx
      rcases this with rfl | rfl | rfl
      · exact r.1
      · exact r.2.1
      · exact r.2.2⟩
theorem good_snoc {n : Nat} {fs : List V4} {y : V4} (h : Good n fs) (hy : y.nrm) (hs : y.sup n) (hb : ∀ q ∈ fs, DB y q (lim fs.length)) : Good n (fs ++ [y]) := by
  refine ⟨fun q hq => ?_, fun i j p q hij hp hq => ?_⟩
  · rcases List.mem_append.1 hq with g | g
    · exact h.1 q g
    · rw [List.mem_singleton.1 g]
      exact ⟨hy, hs⟩
  · have hj := (List.getElem?_eq_some_iff.1 hq).1
    rw [List.length_append, List.length_singleton] at hj
    rw [List.getElem?_append_left (by omega)] at hp
    by_cases g : j < fs.length
    · rw [List.getElem?_append_left g] at hq
      exact h.2 i j p q hij hp hq
    · obtain rfl : j = fs.length := by omega
      rw [List.getElem?_append_right (Nat.le_refl _), Nat.sub_self] at hq
      simp only [List.getElem?_cons_zero, Option.some.injEq] at hq
      rw [← hq]
      exact (hb p (List.mem_of_getElem? hp)).symm
theorem passN_norm {fs : List V4} (hn : ∀ q ∈ fs, q.nrm) (hl : fs.length ≤ 4) {w : V4} (hw : w.dot w ≤ 1125899906842624) : ∀ p : Nat, p ≤ 3 → (passN4 fs w p).dot (passN4 fs w p) ≤ 1125899906842624 + ((p * fs.length : Nat) : Int) * 134218240
  | 0, _ => by simpa [passN4] using hw
  | p + 1, hp => by
    have ih := passN_norm hn hl hw p (by omega)
    have hm : p * fs.length ≤ 8 := Nat.le_trans (Nat.mul_le_mul (show p ≤ 2 by omega) hl) (by decide)
    have e := fold_norm fs _ _ hn (by omega) (by omega) ih
    have e2 : ((p * fs.length : Nat) : Int) + (fs.length : Int) = (((p + 1) * fs.length : Nat) : Int) := by
      rw [Nat.add_mul]
      omega
    rw [e2] at e
    exact e
theorem red_norm {fs : List V4} (hn : ∀ q ∈ fs, q.nrm) (hl : fs.length ≤ 4) {w : V4} (hw : w.dot w ≤ 1125899906842624) : (red4 fs w).dot (red4 fs w) ≤ 33554532 * 33554532 := by
  have e := passN_norm hn hl hw 3 (by decide)
  have : 3 * fs.length ≤ 12 := by omega
  have h2 : (passN4 fs w 3).dot (passN4 fs w 3) = (red4 fs w).dot (red4 fs w) := rfl
  rw [h2] at e
  omega
theorem comp_bd {x : V4} {A : Int} (hA : 0 ≤ A) (h : x.dot x ≤ A * A) : ∀ a ∈ x.l, -A ≤ a ∧ a ≤ A := by
  have h1 := sq4_nn x.a
  have h2 := sq4_nn x.b
  have h3 := sq4_nn x.c
  have h4 := sq4_nn x.d
  unfold V4.dot at h
  intro a ha
  simp only [V4.l, List.mem_cons, List.not_mem_nil, or_false] at ha
  rcases ha with rfl | rfl | rfl | rfl | rfl | rfl
  · exact abs_sq hA (by omega)
  · exact abs_sq hA (by omega)
  · exact abs_sq hA (by omega)
  · exact abs_sq hA (by omega)
  · omega
  · omega
theorem red_ok4 {fs : List V4} (hn : ∀ q ∈ fs, q.nrm) (hl : fs.length ≤ 4) {w : V4} (hw : w.dot w ≤ 1125899906842624) : RedOk (fs.map V4.l) w.l := by
  refine ⟨fun p k hp hk a ha => ?_, fun a ha => ?_⟩
  · unfold redAt at ha
    rw [passN_l, ← List.map_take] at ha
    have e := pass_l (fs.take k) (passN4 fs w p)
    unfold passV at e
    rw [e] at ha
    have h1 := passN_norm hn hl hw p (by omega)
    have hm : p * fs.length ≤ 8 := Nat.le_trans (Nat.mul_le_mul (show p ≤ 2 by omega) hl) (by decide)
    have htk : (fs.take k).length ≤ 4 := by rw [List.length_take]; omega
    have h2 := fold_norm (fs.take k) _ _ (fun q hq => hn q (List.mem_of_mem_take hq)) (by omega) (by omega) h1
    have := comp_bd (A := 33554532) (by decide) (by omega) a ha
    omega
  · rw [red_l] at ha
    have := comp_bd (A := 33554532) (by decide) (red_norm hn hl hw) a ha
    omega
theorem cand_good {n : Nat} {fs : List V4} (h : Good n fs) (hl : fs.length ≤ 3) {w : V4} (hw : w.dot w ≤ 1125899906842624) (hs : w.sup n) (hL : 4096 ≤ lenV (redV (fs.map V4.l) w.l)) : ∃ y : V4, normV (redV (fs.map V4.l) w.l) = y.l ∧ Good n (fs ++ [y]) := by
  obtain ⟨E, hE, hb⟩ := red_good h hl hw
  rw [red_l] at hL ⊢
  have hn := len_l (red_norm (fun q hq => (h.1 q hq).1) (by omega) hw)
  rw [nrm_l]
  generalize lenV (red4 fs w).l = L at *
  obtain ⟨f, hf⟩ := scl (red4 fs w) (L := L) (by omega)
  exact ⟨_, rfl, good_snoc h (hf.nrm hL hn.2.1 hn.2.2) (sup_scl (sup_red hs fun q hq => (h.1 q hq).2) L) fun q hq => (hf.bd hL (h.1 q hq).1 (hb q hq)).mono hE⟩
theorem axd (us : List (List Int)) : ∀ ks : List Nat, (∃ k ∈ ks, 16384 ≤ lenV (redV us (axV k))) → ∃ k ∈ ks, 16384 ≤ lenV (redV us (axV k)) ∧ axDir us ks = normV (redV us (axV k))
  | [], h => by obtain ⟨k, hk, _⟩ := h; simp at hk
  | k :: ks, h => by
    by_cases g : 16384 ≤ lenV (redV us (axV k))
    · exact ⟨k, by simp, g, by unfold axDir; rw [if_pos g]⟩
    · obtain ⟨j, hj, hj2⟩ := h
      have hjk : j ∈ ks := by
        rcases List.mem_cons.1 hj with rfl | e
        · exact absurd hj2 g
        · exact e
      obtain ⟨i, hi, h1, h2⟩ := axd us ks ⟨j, hjk, hj2⟩
      exact ⟨i, by simp [hi], h1, by unfold axDir; rw [if_neg g, h2]⟩
theorem dir_good {n : Nat} {fs : List V4} (hn : n ≤ 4) (h : Good n fs) (hl : fs.length < n) {w : V4} (hw : w.dot w ≤ 1125899906842624) (hs : w.sup n) : ∃ y : V4, dirV (fs.map V4.l) w.l n = y.l ∧ Good n (fs ++ [y]) := by
  unfold dirV
  by_cases g : 4096 ≤ lenV (redV (fs.map V4.l) w.l)
  · rw [if_pos g]
    exact cand_good h (by omega) hw hs g
  · rw [if_neg g]
    obtain ⟨j, hj, hb⟩ := axis_left n hn fs hl
    have hjl : 16384 ≤ lenV (redV (fs.map V4.l) (axV j)) := by
      rw [ax_l (by omega), red_l]
      have hq := len_l (red_norm (fs := fs) (fun q hq => (h.1 q hq).1) (by omega) (ax_sq j))
      generalize lenV (red4 fs (V4.ax j)).l = L at *
      refine Int.not_lt.1 fun q => ?_
      have := Int.mul_le_mul (show L + 1 ≤ 16384 by omega) (show L + 1 ≤ 16384 by omega) (by omega) (by decide)
      omega
    obtain ⟨k, hk, h1, h2⟩ := axd (fs.map V4.l) (List.range n) ⟨j, List.mem_range.2 hj, hjl⟩
    have hkn := List.mem_range.1 hk
    rw [h2]
    rw [ax_l (by omega)] at h1 ⊢
    exact cand_good h (by omega) (ax_sq k) (sup_ax hkn) (by omega)
/-- The columns of a matrix of numbers. -/
def colV4 (M : List (List Int)) (k : Nat) : V4 := ⟨colE M k 0, colE M k 1, colE M k 2, colE M k 3⟩
theorem colE_out {M : List (List Int)} {k i : Nat} (h : M.length ≤ i) : colE M k i = 0 := by
  unfold colE
  rw [List.getElem?_eq_none h]
  rfl
theorem col_l {M : List (List Int)} (h : M.length ≤ 4) (k : Nat) : colV M k = (colV4 M k).l := by
  have e4 := colE_out (M := M) (k := k) (i := 4) h
  have e5 := colE_out (M := M) (k := k) (i := 5) (by omega)
  show [colE M k 0, colE M k 1, colE M k 2, colE M k 3, colE M k 4, colE M k 5] = _
  rw [e4, e5]
  rfl
theorem colE_bd {M : List (List Int)} {B : Int} (hB : 0 ≤ B) (h : ∀ r ∈ M, ∀ x ∈ r, -B ≤ x ∧ x ≤ B) (k i : Nat) : -B ≤ colE M k i ∧ colE M k i ≤ B := by
  unfold colE
  cases hr : M[i]? with
  | none => exact ⟨by show -B ≤ 0; omega, hB⟩
  | some r =>
    rw [Option.bind_some]
    cases hx : r[k]? with
    | none => exact ⟨by show -B ≤ 0; omega, hB⟩
    | some x => exact h r (List.mem_of_getElem? hr) x (List.mem_of_getElem? hx)
theorem col_sq {M : List (List Int)} (h : ∀ r ∈ M, ∀ x ∈ r, -16777216 ≤ x ∧ x ≤ 16777216) (k : Nat) : (colV4 M k).dot (colV4 M k) ≤ 1125899906842624 := by
  have p : ∀ i, colE M k i * colE M k i ≤ 281474976710656 := fun i => by
    have := colE_bd (B := 16777216) (by decide) h k i
    have a := Int.mul_nonneg (show 0 ≤ 16777216 - colE M k i by omega) (show 0 ≤ 16777216 + colE M k i by omega)
    have e : (16777216 - colE M k i) * (16777216 + colE M k i) = 281474976710656 - colE M k i * colE M k i := by grind
    omega
  have := p 0
  have := p 1
  have := p 2
  have := p 3
  show colE M k 0 * colE M k 0 + colE M k 1 * colE M k 1 + colE M k 2 * colE M k 2 + colE M k 3 * colE M k 3 ≤ _
  omega
theorem col_sup {M : List (List Int)} {n : Nat} (h : M.length = n) (k : Nat) : (colV4 M k).sup n := ⟨fun q => colE_out (by omega), fun q => colE_out (by omega), fun q => colE_out (by omega)⟩
/-- The frame of a matrix of numbers is good. -/
theorem frame_good {M : List (List Int)} {n : Nat} (hM : M.length = n) (hn : n ≤ 4) (h : ∀ r ∈ M, ∀ x ∈ r, -16777216 ≤ x ∧ x ≤ 16777216) : ∀ k, k ≤ n → ∃ fs : List V4, fs.length = k ∧ frameV M n k = fs.map V4.l ∧ Good n fs
  | 0, _ => ⟨[], rfl, rfl, nofun, fun i j p q _ hp => by simp at hp⟩
  | k + 1, hk => by
    obtain ⟨fs, hl, he, hg⟩ := frame_good hM hn h k (by omega)
    obtain ⟨y, hy, hgy⟩ := dir_good hn hg (by omega) (col_sq h k) (col_sup hM k)
    refine ⟨fs ++ [y], by rw [List.length_append, hl]; rfl, ?_, hgy⟩
    rw [frameV, he, col_l (by omega) k, hy, List.map_append]
    rfl
theorem orth_pre {M : List (List Int)} {n : Nat} (hM : M.length = n) (hn : n ≤ 4) (h : ∀ r ∈ M, ∀ x ∈ r, -16777216 ≤ x ∧ x ≤ 16777216) :
    (∀ k, k ≤ n → ∀ u ∈ frameV M n k, ∀ a ∈ u, -131072 ≤ a ∧ a ≤ 131072) ∧ ∀ k, k < n → RedOk (frameV M n k) (colV M k) ∧ ∀ j, j < n → RedOk (frameV M n k) (axV j) := by
  refine ⟨fun k hk u hu a ha => ?_, fun k hk => ?_⟩
  · obtain ⟨fs, hl, he, hg⟩ := frame_good hM hn h k hk
    rw [he, List.mem_map] at hu
    obtain ⟨q, hq, rfl⟩ := hu
    have := comp_bd (A := 65556) (by decide) (V4.nrm_sq (hg.1 q hq).1) a ha
    omega
  · obtain ⟨fs, hl, he, hg⟩ := frame_good hM hn h k (by omega)
    rw [he, col_l (by omega)]
    exact ⟨red_ok4 (fun q hq => (hg.1 q hq).1) (by omega) (col_sq h k), fun j hj => by rw [ax_l (by omega)]; exact red_ok4 (fun q hq => (hg.1 q hq).1) (by omega) (ax_sq j)⟩
end Go.Proofs.Ytmcdkbnpcmiojaa
