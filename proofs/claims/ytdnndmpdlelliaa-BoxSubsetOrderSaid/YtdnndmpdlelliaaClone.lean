/-
  slices.Clone of intervals.
-/
import Derived.Test.YtdnndmpdlelliaaHull
namespace Go.Proofs.Ytdnndmpdlelliaa
open Go.ChangeShapes Go.WideShapes Go.ChangeAt Go.RowKit
set_option linter.unusedVariables false
set_option linter.unusedSimpArgs false
set_option maxRecDepth 100000

theorem cz_one : ∀ (l : List (Int × Int)), ∀ u ∈ cz l, u.oneCell' = true
  | [], u, h => by simp [cz] at h
  | p :: l, u, h => by
    simp only [cz, List.mem_cons] at h
    rcases h with rfl | rfl | h
    · rfl
    · rfl
    · exact cz_one l u h
theorem add_off (b o j : Nat) : (⟨b, o, none⟩ : Addr).add j = ⟨b, o + j, none⟩ := by
  by_cases h : j = 0
  · subst h; simp [Addr.add]
  · simp [Addr.add, h]
theorem cz_cells {w : World} {l : List (Int × Int)} {b o : Nat} (h : ∀ k x, l[k]? = some x → ∃ b' o', (some ⟨b, o, none⟩ : Option Addr) = some ⟨b', o', none⟩ ∧ b' < w.heap.size ∧ w.cell? ⟨b', o' + k * 2, none⟩ = some (.int .i64 x.1) ∧ w.cell? ⟨b', o' + k * 2 + 1, none⟩ = some (.int .i64 x.2)) :
    ∀ j u, (cz l)[j]? = some u → w.cell? ((⟨b, o, none⟩ : Addr).add j) = some u := by
  intro j u hj
  have hjl : j < l.length * 2 := by rw [← cz_len]; exact (List.getElem?_eq_some_iff.1 hj).1
  have hk : j / 2 < l.length := by omega
  obtain ⟨b', o', e, h1, h2, h3⟩ := h (j / 2) l[j / 2] (List.getElem?_eq_getElem hk)
  obtain ⟨g1, g2⟩ := cz_get l (j / 2) l[j / 2] (List.getElem?_eq_getElem hk)
  simp only [Option.some.injEq, Addr.mk.injEq, and_true] at e
  obtain ⟨rfl, rfl⟩ := e
  rcases Nat.mod_two_eq_zero_or_one j with hm | hm
  · have hj2 : j / 2 * 2 = j := by omega
    rw [hj2] at g1 h2
    rw [g1] at hj
    rw [← hj]
    rw [add_off]
    exact h2
  · have hj2 : j / 2 * 2 + 1 = j := by omega
    rw [hj2] at g2
    rw [g2] at hj
    rw [← hj]
    have : o + j / 2 * 2 + 1 = o + j := by omega
    rw [this] at h3
    rw [add_off]
    exact h3

attribute [local irreducible] Calls

set_option maxHeartbeats 2000000 in
theorem clone_iv (v : Value) (l : List (Int × Int)) (w : World) (hv : Bx w v l) (hne : 0 < l.length) (hsm : l.length ≤ 1000) :
    Calls Try.prog 118 #[v] w fun e W' => ∃ g cap, e = .returned (.slice (some ⟨g, 0, none⟩) l.length cap) ∧ W'.ownsRow w.heap.size 23 2 (.slice (some ⟨g, 0, none⟩) l.length cap) l.length (cz l) ∧ Below w.heap.size w W' := by
  obtain ⟨hl, p, c, rfl, hp⟩ := hv
  obtain ⟨b, o, x, y, rfl, k1, hb, k2, k3⟩ := Bx.at (c := 0) (n := 0) hp hne (Below.refl _ _)
  clear k1 k2 k3 hl
  obtain ⟨i0, hi, hz0, hz1, hz2⟩ := info_parts info_iv
  have hcs : ∀ j u, (cz l)[j]? = some u → w.cell? ((⟨b, o, none⟩ : Addr).add j) = some u := cz_cells hp
  have hone : ∀ u ∈ cz l, u.oneCell' = true := cz_one l
  have hlen : (cz l).length = l.length * 2 := cz_len l
  clear hp
  generalize cz l = cs at *
  have HL := Lib.hid hlen
  have HC := Lib.hid hcs
  have HO := Lib.hid hone
  clear hlen hcs hone
  have hown : (w.alloc (.cells #[] 23)).ownsRow w.heap.size 23 2 (.slice (some ⟨w.heap.size, 0, none⟩) 0 0) 0 [] := World.ownsRow_made (e := 23) (size := 2) w #[] 0 (Nat.le_refl _) (by decide) rfl
  have hcmp : (binOp BinOp.eql 48 (.slice (some ⟨b, o, none⟩) l.length c) (.slice none 0 0)).run Try.prog w = .ok (.bool false) w := by first | rfl | simp [binOp, go_sem]
  go_enter Try.func118, Try.ntmps118
  go_wp2_with (at_builtin; refine wpList_append_own _ rfl (.tmp 5) (.tmp 6) 48 rfl w.heap.size 23 i0 (.agg #[.int .i64 0, .int .i64 0]) 2 16 Try.underlying48 hi hz0 hz1 hz2 rfl (by decide) (.slice (some ⟨w.heap.size, 0, none⟩) 0 0) 0 _ rfl hown ⟨b, o, none⟩ l.length c cs rfl HL.out ?_ HO.out (by unfold maxLen; omega) (by omega) (by simp) ?_)
  · intro j u hj
    have hw := HC.out j u hj
    rw [add_off] at hw ⊢
    exact (((Below.refl w.heap.size w).alloc (Nat.le_refl _) _).cell (p := ⟨b, o + j, none⟩) hb).trans hw
  intro v' w1 hown' hgrow _
  obtain ⟨g', cap', rfl⟩ : ∃ g cap, v' = .slice (some ⟨g, 0, none⟩) l.length cap := by
    rcases hown'.2 with ⟨_, h0⟩ | ⟨g, cap, _, h, _⟩
    · omega
    · exact ⟨g, cap, h⟩
  have hB : Below w.heap.size w w1 := Below.grown ((Below.refl _ _).alloc (Nat.le_refl _) _) hgrow (by simp) (fun k hk => (hown.lt k hk).1)
  go_wp2_with (fail)
  go_ret
  exact ⟨_, _, rfl, by simpa using hown', hB⟩
end Go.Proofs.Ytdnndmpdlelliaa
