/-
  slices.Clone of intervals.
  box.Bisect.
-/
import Derived.Test.YtpepgheocemjdaaHull
import Derived.Test.YtpepgheocemjdaaIw1
import Derived.Test.YtpepgheocemjdaaLoop
namespace Go.Proofs.Ytpepgheocemjdaa
open Go.ChangeShapes Go.WideShapes Go.ChangeAt Go.RowKit
set_option linter.unusedVariables false
set_option linter.unusedSimpArgs false
set_option maxRecDepth 100000

theorem cz_one : ∀ (l : List (Int × Int)), ∀ u ∈ cz l, u.oneCell' = true
  | [], u, h => by simp [cz] at h
  | p :: l, u, h => by
    simp only [cz, List.mem_cons] at h
    rcases h with rfl | rfl | h
    · rfl
    · rfl
    · exact cz_one l u h
theorem add_off (b o j : Nat) : (⟨b, o, none⟩ : Addr).add j = ⟨b, o + j, none⟩ := by
  by_cases h : j = 0
  · subst h; simp [Addr.add]
  · simp [Addr.add, h]
theorem cz_cells {w : World} {l : List (Int × Int)} {b o : Nat} (h : ∀ k x, l[k]? = some x → ∃ b' o', (some ⟨b, o, none⟩ : Option Addr) = some ⟨b', o', none⟩ ∧ b' < w.heap.size ∧ w.cell? ⟨b', o' + k * 2, none⟩ = some (.int .i64 x.1) ∧ w.cell? ⟨b', o' + k * 2 + 1, none⟩ = some (.int .i64 x.2)) :
    ∀ j u, (cz l)[j]? = some u → w.cell? ((⟨b, o, none⟩ : Addr).add j) = some u := by
  intro j u hj
  have hjl : j < l.length * 2 := by rw [← cz_len]; exact (List.getElem?_eq_some_iff.1 hj).1
  have hk : j / 2 < l.length := by omega
  obtain ⟨b', o', e, h1, h2, h3⟩ := h (j / 2) l[j / 2] (List.getElem?_eq_getElem hk)
  obtain ⟨g1, g2⟩ := cz_get l (j / 2) l[j / 2] (List.getElem?_eq_getElem hk)
  simp only [Option.some.injEq, Addr.mk.injEq, and_true] at e
  obtain ⟨rfl, rfl⟩ := e
  rcases Nat.mod_two_eq_zero_or_one j with hm | hm
  · have hj2 : j / 2 * 2 = j := by omega
    rw [hj2] at g1 h2
    rw [g1] at hj
    rw [← hj]
    rw [add_off]
    exact h2
  · have hj2 : j / 2 * 2 + 1 = j := by omega
    rw [hj2] at g2
    rw [g2] at hj
    rw [← hj]
    have : o + j / 2 * 2 + 1 = o + j := by omega
    rw [this] at h3
    rw [add_off]
    exact h3

attribute [local irreducible] Calls

set_option maxHeartbeats 2000000 in
theorem clone_iv (v : Value) (l : List (Int × Int)) (w : World) (hv : Bx w v l) (hne : 0 < l.length) (hsm : l.length ≤ 1000) :
    Calls Try.prog 99 #[v] w fun e W' => ∃ g cap, e = .returned (.slice (some ⟨g, 0, none⟩) l.length cap) ∧ W'.ownsRow w.heap.size 23 2 (.slice (some ⟨g, 0, none⟩) l.length cap) l.length (cz l) ∧ Below w.heap.size w W' := by
  obtain ⟨hl, p, c, rfl, hp⟩ := hv
  obtain ⟨b, o, x, y, rfl, k1, hb, k2, k3⟩ := Bx.at (c := 0) (n := 0) hp hne (Below.refl _ _)
  clear k1 k2 k3 hl
  obtain ⟨i0, hi, hz0, hz1, hz2⟩ := info_parts info_iv
  have hcs : ∀ j u, (cz l)[j]? = some u → w.cell? ((⟨b, o, none⟩ : Addr).add j) = some u := cz_cells hp
  have hone : ∀ u ∈ cz l, u.oneCell' = true := cz_one l
  have hlen : (cz l).length = l.length * 2 := cz_len l
  clear hp
  generalize cz l = cs at *
  have HL := Lib.hid hlen
  have HC := Lib.hid hcs
  have HO := Lib.hid hone
  clear hlen hcs hone
  have hown : (w.alloc (.cells #[] 23)).ownsRow w.heap.size 23 2 (.slice (some ⟨w.heap.size, 0, none⟩) 0 0) 0 [] := World.ownsRow_made (e := 23) (size := 2) w #[] 0 (Nat.le_refl _) (by decide) rfl
  have hcmp : (binOp BinOp.eql 36 (.slice (some ⟨b, o, none⟩) l.length c) (.slice none 0 0)).run Try.prog w = .ok (.bool false) w := by first | rfl | simp [binOp, go_sem]
  go_enter Try.func99, Try.ntmps99
  go_wp2_with (at_builtin; refine wpList_append_own _ rfl (.tmp 5) (.tmp 6) 36 rfl w.heap.size 23 i0 (.agg #[.int .i64 0, .int .i64 0]) 2 16 Try.underlying36 hi hz0 hz1 hz2 rfl (by decide) (.slice (some ⟨w.heap.size, 0, none⟩) 0 0) 0 _ rfl hown ⟨b, o, none⟩ l.length c cs rfl HL.out ?_ HO.out (by unfold maxLen; omega) (by omega) (by simp) ?_)
  · intro j u hj
    have hw := HC.out j u hj
    rw [add_off] at hw ⊢
    exact (((Below.refl w.heap.size w).alloc (Nat.le_refl _) _).cell (p := ⟨b, o + j, none⟩) hb).trans hw
  intro v' w1 hown' hgrow _
  obtain ⟨g', cap', rfl⟩ : ∃ g cap, v' = .slice (some ⟨g, 0, none⟩) l.length cap := by
    rcases hown'.2 with ⟨_, h0⟩ | ⟨g, cap, _, h, _⟩
    · omega
    · exact ⟨g, cap, h⟩
  have hB : Below w.heap.size w w1 := Below.grown ((Below.refl _ _).alloc (Nat.le_refl _) _) hgrow (by simp) (fun k hk => (hown.lt k hk).1)
  go_wp2_with (fail)
  go_ret
  exact ⟨_, _, rfl, by simpa using hown', hB⟩
end Go.Proofs.Ytpepgheocemjdaa

namespace Go.Proofs.Ytpepgheocemjdaa
open Go.ChangeShapes Go.WideShapes Go.ChangeAt Go.RowKit
set_option linter.unusedVariables false
set_option linter.unusedSimpArgs false
set_option maxRecDepth 100000

attribute [local irreducible] Calls

theorem cz_set : ∀ (l : List (Int × Int)) (k : Nat) (x y u v : Int), l[k]? = some (x, y) → cz (l.set k (x, v)) = (cz l).set (k * 2 + 1) (.int .i64 v) ∧ cz (l.set k (u, y)) = (cz l).set (k * 2) (.int .i64 u)
  | [], k, x, y, u, v, h => by simp at h
  | p :: l, 0, x, y, u, v, h => by
    simp at h
    subst h
    simp [cz]
  | p :: l, k + 1, x, y, u, v, h => by
    have := cz_set l k x y u v (by simpa using h)
    rw [show (k + 1) * 2 = k * 2 + 1 + 1 by omega, show k * 2 + 1 + 1 + 1 = (k * 2 + 1) + 1 + 1 by omega]
    simp [cz, this.1, this.2]
theorem bis_low (p : Option Addr) (n c : Nat) (k : Int) (w : World) (hk : k < 0) :
    Calls Try.prog 46 #[.slice p n c, .int .i64 k] w fun e w' => e = .returned (.tuple #[.slice none 0 0, .slice none 0 0, .int .i64 1]) ∧ w = w' := by
  go_enter Try.func46, Try.ntmps46
  go_wp2_with (fail)
  go_ret3
  exact ⟨rfl, rfl⟩
theorem bis_high (p : Option Addr) (n c : Nat) (k : Int) (w : World) (h0 : 0 ≤ k) (hk : (n : Int) ≤ k) :
    Calls Try.prog 46 #[.slice p n c, .int .i64 k] w fun e w' => e = .returned (.tuple #[.slice none 0 0, .slice none 0 0, .int .i64 1]) ∧ w = w' := by
  go_enter Try.func46, Try.ntmps46
  go_wp2_with (fail)
  go_ret3
  exact ⟨rfl, rfl⟩
set_option maxHeartbeats 1000000 in
theorem bis_ent (v : Value) (l : List (Int × Int)) (k : Nat) (w : World) (hv : Bx w v l) (hsm : l.length ≤ 1000) (hk : k < l.length) (he : l[k]? = some (-2147483648, 2147483648)) :
    Calls Try.prog 46 #[v, .int .i64 k] w fun e w' => e = .returned (.tuple #[.slice none 0 0, .slice none 0 0, .int .i64 1]) ∧ Below w.heap.size w w' := by
  obtain ⟨hl, p, c, rfl, hp⟩ := hv
  obtain ⟨b, o, x, y, rfl, hx, hb, c1, c2⟩ := Bx.at (c := 0) (n := 0) hp hk (Below.refl _ _)
  rw [he] at hx
  simp only [Option.some.injEq, Prod.mk.injEq] at hx
  obtain ⟨rfl, rfl⟩ := hx
  have h0 : (0 : Int) ≤ k := by omega
  have h1 : (k : Int) < l.length := by omega
  clear hp he hl
  go_enter Try.func46, Try.ntmps46
  go_wp2_with (fail)
  refine (iv_ent_yes _).mono ?_
  rintro e w1 ⟨rfl, hB⟩
  go_wp2_with (fail)
  go_ret3
  exact ⟨rfl, hB⟩
set_option maxHeartbeats 4000000 in
theorem bis_ok (v : Value) (l : List (Int × Int)) (k : Nat) (x y : Int) (w : World) (hv : Bx w v l) (hsm : l.length ≤ 1000) (hx : l[k]? = some (x, y)) (hV : VI x y) (he : ¬ Ent x y) :
    Calls Try.prog 46 #[v, .int .i64 k] w fun e w' => ∃ u1 u2, e = .returned (.tuple #[u1, u2, .int .i64 0]) ∧ Bx w' u1 (l.set k (x, (x + y) / 2)) ∧ Bx w' u2 (l.set k ((x + y) / 2, y)) ∧ Below w.heap.size w w' := by
  have hk : k < l.length := (List.getElem?_eq_some_iff.1 hx).1
  have hcl := fun (w' : World) (hB : Below w.heap.size w w') => clone_iv v l w' (hv.grow hB) (by omega) hsm
  have cm := fun w => iv_mid x y w ⟨hV.bd.1, hV.bd.2.1, hV.bd.2.2.1, hV.bd.2.2.2.1⟩
  have ci := fun w => iv_ent_no x y w he
  have hset := cz_set l k x y ((x + y) / 2) ((x + y) / 2) hx
  generalize (x + y) / 2 = m at *
  obtain ⟨hl, p, c, rfl, hp⟩ := hv
  obtain ⟨b, o, x', y', rfl, hx', hb, c1, c2⟩ := Bx.at (c := 0) (n := 0) hp hk (Below.refl _ _)
  rw [hx] at hx'
  simp only [Option.some.injEq, Prod.mk.injEq] at hx'
  obtain ⟨rfl, rfl⟩ := hx'
  have h0 : (0 : Int) ≤ k := by omega
  have h1 : (k : Int) < l.length := by omega
  have HS := Lib.hid hset
  have HX := Lib.hid hx
  have hcz := cz_get l k (x, y) hx
  have HCZ := Lib.hid hcz
  have HL := Lib.hid (cz_len l)
  have HCL := Lib.hid hcl
  clear hp hV he hl hset hx hcz hcl
  go_enter Try.func46, Try.ntmps46
  go_wp2_with (fail)
  refine (ci _).mono ?_
  rintro e w1 ⟨rfl, hB1⟩
  have d1 := (hB1.cell (p := ⟨b, o + k * 2, none⟩) hb).trans c1
  have d2 := (hB1.cell (p := ⟨b, o + k * 2 + 1, none⟩) hb).trans c2
  go_wp2_with (fail)
  refine (cm _).mono ?_
  rintro e w2 ⟨rfl, hB2⟩
  have hB2' := below_then hB1 hB2
  go_wp2_with (fail)
  refine (HCL.out w2 hB2').mono ?_
  rintro e w3 ⟨g1, q1, rfl, row1, hB3⟩
  have hB3' := below_then hB2' hB3
  go_wp2_with (fail)
  refine (HCL.out w3 hB3').mono ?_
  rintro e w4 ⟨g2, q2, rfl, row2, hB4⟩
  have hB4' := below_then hB3' hB4
  have r1a := row1.lt g1 rfl
  have r2a := row2.lt g2 rfl
  have hne : g1 ≠ g2 := by omega
  have row1' := row1.kept (grown_below hB4) (.inr (by simp [Value.ownBlock]))
  have s1 := row1'.stored (k * 2 + 1) (.int .i64 m)
  have row2' := row2.kept s1.2 (.inr (by simp [Value.ownBlock]; omega))
  have s2 := row2'.stored (k * 2) (.int .i64 m)
  have row1'' := s1.1.kept s2.2 (.inr (by simp [Value.ownBlock]; omega))
  have e1 := row1'.cellAt (k * 2 + 1) (by omega)
  have e2 := row1'.frozenAt (k * 2 + 1)
  have e3 := row2'.cellAt (k * 2) (by omega)
  have e4 := row2'.frozenAt (k * 2)
  rw [HCZ.out.2] at e1
  rw [HCZ.out.1] at e3
  have R1 := Lib.hid row1''
  have R2 := Lib.hid s2.1
  have hB5 : Below w.heap.size w ((w4.setCell ⟨g1, k * 2 + 1, none⟩ (.int .i64 m)).setCell ⟨g2, k * 2, none⟩ (.int .i64 m)) := (hB4'.setCell (p := ⟨g1, k * 2 + 1, none⟩) (by have := hB2'.size; show _ ≤ g1; omega) _).setCell (p := ⟨g2, k * 2, none⟩) (by have := hB3'.size; show _ ≤ g2; omega) _
  clear row1 row2 row1' row2' s1 s2 row1''
  go_wp2_with (fail)
  go_ret3
  refine ⟨_, _, rfl, Bx.own (B := w2.heap.size) ?_ (by rw [List.length_set]; unfold maxLen; omega), Bx.own (B := w3.heap.size) ?_ (by rw [List.length_set]; unfold maxLen; omega), hB5⟩
  · have := R1.out
    rw [← HS.out.1] at this
    rw [List.length_set]
    exact this
  · have := R2.out
    rw [← HS.out.2] at this
    rw [List.length_set]
    exact this
end Go.Proofs.Ytpepgheocemjdaa
