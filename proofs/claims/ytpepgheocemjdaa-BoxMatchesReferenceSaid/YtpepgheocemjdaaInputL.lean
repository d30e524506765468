/-
  A slice of numbers as an argument.
-/
import Derived.Test.YtpepgheocemjdaaInputP
namespace Go.Proofs.Ytpepgheocemjdaa
open Go.ChangeShapes Go.WideShapes Go.ChangeAt Go.RowKit
set_option linter.unusedVariables false
set_option linter.unusedSimpArgs false
set_option maxRecDepth 100000

section
variable {H : Type} {enc : TypeId × Value → H} {w : World} {base : Nat} {spare : Nat → Bool} {held : Bool}
/-- A slice of numbers, as an argument is read. -/
theorem i64_read {fuel : Nat} {c : Value} {y : DataW H × List MemPlace} (h : DataW.trod enc Try.prog w base spare held fuel 30 [c] = some y) : ∃ l : List Int, Pt w c l ∧ ∀ x ∈ l, -9223372036854775808 ≤ x ∧ x ≤ 9223372036854775807 := by
  have h2 : Try.prog.cellsOf 2 = 1 := by kernel_rfl
  rcases Go.Deep.open_slice Try.underlying30 h with ⟨hc, _⟩ | ⟨a, len, cap, m, n, D, Pl, hc, _, hl, hm, hmm, _, hi⟩
  · obtain rfl : c = .slice none 0 0 := by simpa using hc
    exact ⟨[], ⟨by simp, none, 0, rfl, fun k x h => by simp at h⟩, fun p hp => by simp at hp⟩
  · obtain rfl : c = .slice (some a) len cap := by simpa using hc
    rw [h2] at hi
    have hlm : len ≤ m := by rw [hmm]; split <;> omega
    have hel : ∀ i, i < len → ∃ x : Int, w.cell? (a.add i) = some (.int .i64 x) ∧ -9223372036854775808 ≤ x ∧ x ≤ 9223372036854775807 := fun i hil => by
      obtain ⟨cs, hcs, ht⟩ := hi i (by omega)
      obtain ⟨_, hcl, hat⟩ := World.cells?_some hcs
      obtain ⟨x, e, _, wf⟩ := DataW.trod_int Try.underlying2 ht
      subst e
      have q0 := hat 0 (by omega)
      rw [Go.Deep.add_add] at q0
      simp at q0
      exact ⟨x, q0, bounds_i64 wf⟩
    have hex : ∃ f : Nat → Int, ∀ i, i < len → w.cell? (a.add i) = some (.int .i64 (f i)) ∧ -9223372036854775808 ≤ f i ∧ f i ≤ 9223372036854775807 :=
      ⟨fun i => if h : i < len then (hel i h).choose else 0, fun i h => by simp only [h, dif_pos]; exact (hel i h).choose_spec⟩
    obtain ⟨f, hf⟩ := hex
    refine ⟨(List.range len).map f, ⟨by simp; omega, some a, cap, by simp, fun k x hx => ?_⟩, fun p hp => ?_⟩
    · have hk : k < len := by
        have := (List.getElem?_eq_some_iff.1 hx).1
        simpa using this
      obtain rfl : f k = x := by
        rw [List.getElem?_map, List.getElem?_range hk] at hx
        simpa using hx
      have hs : a.spot = none := by
        have := (cell_blk (hf 0 (by omega)).1).2
        simpa [Addr.add] using this
      obtain ⟨q1, _⟩ := hf k hk
      have hb := (cell_blk q1).1
      obtain ⟨b, o, sp⟩ := a
      simp only at hs
      subst hs
      refine ⟨b, o, rfl, ?_, ?_⟩
      · unfold Addr.add at hb
        split at hb <;> exact hb
      · by_cases hz : k = 0
        · subst hz
          simpa [Addr.add] using q1
        · simpa only [Addr.add, if_neg hz] using q1
    · obtain ⟨i, hi', rfl⟩ := List.mem_map.1 hp
      exact (hf i (List.mem_range.1 hi')).2
theorem open_i64s {r : Reach} {b0 : Nat} {v : Value} {d : DataW H} {p : List MemPlace} (hv : Value.okWide Try.prog w r b0 30 v) (h : DataW.Trod enc Try.prog w base spare held 30 v d p) :
    ∃ l : List Int, Pt w v l ∧ ∀ x ∈ l, -9223372036854775808 ≤ x ∧ x ≤ 9223372036854775807 := by
  obtain ⟨a, len, cap, rfl⟩ := okWide_slice Try.underlying30 hv
  obtain ⟨fuel, hf⟩ := h
  exact i64_read hf
end
end Go.Proofs.Ytpepgheocemjdaa
