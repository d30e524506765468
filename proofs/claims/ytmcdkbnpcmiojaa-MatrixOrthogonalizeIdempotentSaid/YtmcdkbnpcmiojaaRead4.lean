/-
  The arguments of the laws over matrices.
  The argument of MatrixMatchesReference: rows of intervals.
-/
import Derived.Deep.Slices
import Derived.Deep.Fields
import Derived.ChangeSame
import Derived.OpenShut
import Derived.Test.YtmcdkbnpcmiojaaL4A
import Derived.Test.YtmcdkbnpcmiojaaPointIn
namespace Go.Proofs.Ytmcdkbnpcmiojaa
open Go.ChangeShapes Go.WideShapes Go.ChangeAt Go.RowKit
set_option linter.unusedVariables false
set_option linter.unusedSimpArgs false
set_option maxRecDepth 100000

section
variable {H : Type} {enc : TypeId × Value → H} {w : World} {base : Nat} {spare : Nat → Bool} {held : Bool}
theorem wf64 {x : Int} (h : (Lit.int .i64 x).wf = true) : -9223372036854775808 ≤ x ∧ x ≤ 9223372036854775807 := by
  have a := bounds_i64 h
  exact ⟨a.1, by have := a.2; omega⟩
theorem cell_blk {w : World} {a : Addr} {v : Value} (h : w.cell? a = some v) : a.block < w.heap.size ∧ a.spot = none := by
  unfold World.cell? at h
  split at h
  · rename_i hh
    refine ⟨(Array.getElem?_eq_some_iff.1 hh).1, ?_⟩
    split at h
    · cases h
    · rename_i hs
      simpa using hs
  · cases h
/-- A slice of intervals, as an argument is read. -/
theorem bx_read {fuel : Nat} {c : Value} {y : DataW H × List MemPlace} (h : DataW.trod enc Try.prog w base spare held fuel 40 [c] = some y) : ∃ l : List (Int × Int), Bx w c l ∧ I64 l := by
  have h2 : Try.prog.cellsOf 38 = 2 := by kernel_rfl
  have h1 : Try.prog.cellsOf 2 = 1 := by kernel_rfl
  rcases Go.Deep.open_slice Try.underlying40 h with ⟨hc, _⟩ | ⟨a, len, cap, m, n, D, Pl, hc, _, hl, hm, hmm, _, hi⟩
  · obtain rfl : c = .slice none 0 0 := by simpa using hc
    exact ⟨[], Bx.nil, fun p hp => by simp at hp⟩
  · obtain rfl : c = .slice (some a) len cap := by simpa using hc
    rw [h2] at hi
    have hlm : len ≤ m := by rw [hmm]; split <;> omega
    have hel : ∀ i, i < len → ∃ x : Int × Int, (w.cell? (a.add (i * 2)) = some (.int .i64 x.1) ∧ w.cell? (a.add (i * 2 + 1)) = some (.int .i64 x.2)) ∧ (-9223372036854775808 ≤ x.1 ∧ x.1 ≤ 9223372036854775807) ∧ -9223372036854775808 ≤ x.2 ∧ x.2 ≤ 9223372036854775807 := fun i hil => by
      obtain ⟨cs, hcs, ht⟩ := hi i (by omega)
      obtain ⟨_, hcl, hat⟩ := World.cells?_some hcs
      obtain ⟨y0, y1, n', _, _, t0, t1⟩ := trod_struct2 Try.underlying38 ht
      obtain ⟨x0, e0, _, w0⟩ := DataW.trod_int Try.underlying2 t0
      obtain ⟨x1, e1, _, w1⟩ := DataW.trod_int Try.underlying2 t1
      match cs, hcl with
      | [c0, c1], _ =>
        have q0 := hat 0 (by omega)
        have q1 := hat 1 (by omega)
        rw [Go.Deep.add_add] at q0 q1
        simp [h1] at e0 e1 q0 q1
        subst e0 e1
        exact ⟨(x0, x1), ⟨q0, q1⟩, wf64 w0, wf64 w1⟩
    have hex : ∃ f : Nat → Int × Int, ∀ i, i < len → (w.cell? (a.add (i * 2)) = some (.int .i64 (f i).1) ∧ w.cell? (a.add (i * 2 + 1)) = some (.int .i64 (f i).2)) ∧ (-9223372036854775808 ≤ (f i).1 ∧ (f i).1 ≤ 9223372036854775807) ∧ -9223372036854775808 ≤ (f i).2 ∧ (f i).2 ≤ 9223372036854775807 :=
      ⟨fun i => if h : i < len then (hel i h).choose else (0, 0), fun i h => by simp only [h, dif_pos]; exact (hel i h).choose_spec⟩
    obtain ⟨f, hf⟩ := hex
    refine ⟨(List.range len).map f, ⟨by simp; omega, some a, cap, by simp, fun k x hx => ?_⟩, fun p hp => ?_⟩
    · have hk : k < len := by
        have := (List.getElem?_eq_some_iff.1 hx).1
        simpa using this
      obtain rfl : f k = x := by
        rw [List.getElem?_map, List.getElem?_range hk] at hx
        simpa using hx
      have hs : a.spot = none := by
        have := (cell_blk (hf 0 (by omega)).1.1).2
        simpa [Addr.add] using this
      obtain ⟨⟨q0, q1⟩, _⟩ := hf k hk
      have hb := (cell_blk q1).1
      obtain ⟨b, o, sp⟩ := a
      simp only at hs
      subst hs
      refine ⟨b, o, rfl, ?_, ?_, ?_⟩
      · simpa [Addr.add] using hb
      · by_cases hz : k = 0
        · subst hz
          simpa [Addr.add] using q0
        · have : k * 2 ≠ 0 := by omega
          simpa only [Addr.add, if_neg this] using q0
      · simpa [Addr.add, Nat.add_assoc] using q1
    · obtain ⟨i, hi', rfl⟩ := List.mem_map.1 hp
      exact (hf i (List.mem_range.1 hi')).2
/-- A slice of numbers, as an argument is read. -/
theorem i64_read {fuel : Nat} {c : Value} {y : DataW H × List MemPlace} (h : DataW.trod enc Try.prog w base spare held fuel 22 [c] = some y) : ∃ l : List Int, Pt w c l ∧ ∀ x ∈ l, -9223372036854775808 ≤ x ∧ x ≤ 9223372036854775807 := by
  have h2 : Try.prog.cellsOf 2 = 1 := by kernel_rfl
  rcases Go.Deep.open_slice Try.underlying22 h with ⟨hc, _⟩ | ⟨a, len, cap, m, n, D, Pl, hc, _, hl, hm, hmm, _, hi⟩
  · obtain rfl : c = .slice none 0 0 := by simpa using hc
    exact ⟨[], ⟨by simp, none, 0, rfl, fun k x h => by simp at h⟩, fun p hp => by simp at hp⟩
  · obtain rfl : c = .slice (some a) len cap := by simpa using hc
    rw [h2] at hi
    have hlm : len ≤ m := by rw [hmm]; split <;> omega
    have hel : ∀ i, i < len → ∃ x : Int, w.cell? (a.add i) = some (.int .i64 x) ∧ -9223372036854775808 ≤ x ∧ x ≤ 9223372036854775807 := fun i hil => by
      obtain ⟨cs, hcs, ht⟩ := hi i (by omega)
      obtain ⟨_, hcl, hat⟩ := World.cells?_some hcs
      obtain ⟨x, e, _, wf⟩ := DataW.trod_int Try.underlying2 ht
      subst e
      have q0 := hat 0 (by omega)
      rw [Go.Deep.add_add] at q0
      simp at q0
      exact ⟨x, q0, bounds_i64 wf⟩
    have hex : ∃ f : Nat → Int, ∀ i, i < len → w.cell? (a.add i) = some (.int .i64 (f i)) ∧ -9223372036854775808 ≤ f i ∧ f i ≤ 9223372036854775807 :=
      ⟨fun i => if h : i < len then (hel i h).choose else 0, fun i h => by simp only [h, dif_pos]; exact (hel i h).choose_spec⟩
    obtain ⟨f, hf⟩ := hex
    refine ⟨(List.range len).map f, ⟨by simp; omega, some a, cap, by simp, fun k x hx => ?_⟩, fun p hp => ?_⟩
    · have hk : k < len := by
        have := (List.getElem?_eq_some_iff.1 hx).1
        simpa using this
      obtain rfl : f k = x := by
        rw [List.getElem?_map, List.getElem?_range hk] at hx
        simpa using hx
      have hs : a.spot = none := by
        have := (cell_blk (hf 0 (by omega)).1).2
        simpa [Addr.add] using this
      obtain ⟨q1, _⟩ := hf k hk
      have hb := (cell_blk q1).1
      obtain ⟨b, o, sp⟩ := a
      simp only at hs
      subst hs
      refine ⟨b, o, rfl, ?_, ?_⟩
      · unfold Addr.add at hb
        split at hb <;> exact hb
      · by_cases hz : k = 0
        · subst hz
          simpa [Addr.add] using q1
        · simpa only [Addr.add, if_neg hz] using q1
    · obtain ⟨i, hi', rfl⟩ := List.mem_map.1 hp
      exact (hf i (List.mem_range.1 hi')).2
theorem open_i64s {r : Reach} {b0 : Nat} {v : Value} {d : DataW H} {p : List MemPlace} (hv : Value.okWide Try.prog w r b0 22 v) (h : DataW.Trod enc Try.prog w base spare held 22 v d p) :
    ∃ l : List Int, Pt w v l ∧ ∀ x ∈ l, -9223372036854775808 ≤ x ∧ x ≤ 9223372036854775807 := by
  obtain ⟨a, len, cap, rfl⟩ := okWide_slice Try.underlying22 hv
  obtain ⟨fuel, hf⟩ := h
  exact i64_read hf
end
end Go.Proofs.Ytmcdkbnpcmiojaa

namespace Go.Proofs.Ytmcdkbnpcmiojaa
open Go.ChangeShapes Go.WideShapes Go.ChangeAt Go.RowKit
set_option linter.unusedVariables false
set_option linter.unusedSimpArgs false
set_option maxRecDepth 100000

section
variable {H : Type} {enc : TypeId × Value → H} {w : World} {base : Nat} {spare : Nat → Bool} {held : Bool}
/-- A slice of rows of intervals, as an argument is read. -/
theorem mx_read {fuel : Nat} {c : Value} {y : DataW H × List MemPlace} (h : DataW.trod enc Try.prog w base spare held fuel 34 [c] = some y) : ∃ M : List (List (Int × Int)), Mx w c M ∧ ∀ r ∈ M, I64 r := by
  have h2 : Try.prog.cellsOf 40 = 1 := by kernel_rfl
  rcases Go.Deep.open_slice Try.underlying34 h with ⟨hc, _⟩ | ⟨a, len, cap, m, n, D, Pl, hc, _, hl, hm, hmm, _, hi⟩
  · obtain rfl : c = .slice none 0 0 := by simpa using hc
    exact ⟨[], ⟨by simp, none, 0, rfl, fun k x h => by simp at h⟩, fun r hr => by simp at hr⟩
  · obtain rfl : c = .slice (some a) len cap := by simpa using hc
    rw [h2] at hi
    have hlm : len ≤ m := by rw [hmm]; split <;> omega
    have hel : ∀ i, i < len → ∃ x : Value × List (Int × Int), w.cell? (a.add i) = some x.1 ∧ Bx w x.1 x.2 ∧ I64 x.2 := fun i hil => by
      obtain ⟨cs, hcs, ht⟩ := hi i (by omega)
      obtain ⟨_, hcl, hat⟩ := World.cells?_some hcs
      match cs, hcl with
      | [c0], _ =>
        obtain ⟨l, hb, h64⟩ := bx_read ht
        have q0 := hat 0 (by omega)
        rw [Go.Deep.add_add] at q0
        simp at q0
        exact ⟨(c0, l), q0, hb, h64⟩
    have hex : ∃ f : Nat → Value × List (Int × Int), ∀ i, i < len → w.cell? (a.add i) = some (f i).1 ∧ Bx w (f i).1 (f i).2 ∧ I64 (f i).2 :=
      ⟨fun i => if h : i < len then (hel i h).choose else (.bool true, []), fun i h => by simp only [h, dif_pos]; exact (hel i h).choose_spec⟩
    obtain ⟨f, hf⟩ := hex
    refine ⟨(List.range len).map fun i => (f i).2, ⟨by simp; omega, some a, cap, by simp, fun k x hx => ?_⟩, fun r hr => ?_⟩
    · have hk : k < len := by
        have := (List.getElem?_eq_some_iff.1 hx).1
        simpa using this
      obtain rfl : (f k).2 = x := by
        rw [List.getElem?_map, List.getElem?_range hk] at hx
        simpa using hx
      have hs : a.spot = none := by
        have := (cell_blk (hf 0 (by omega)).1).2
        simpa [Addr.add] using this
      obtain ⟨q1, q2, _⟩ := hf k hk
      have hb := (cell_blk q1).1
      obtain ⟨b, o, sp⟩ := a
      simp only at hs
      subst hs
      refine ⟨b, o, (f k).1, rfl, ?_, ?_, q2⟩
      · unfold Addr.add at hb
        split at hb <;> exact hb
      · by_cases hz : k = 0
        · subst hz
          simpa [Addr.add] using q1
        · simpa only [Addr.add, if_neg hz] using q1
    · obtain ⟨i, hi', rfl⟩ := List.mem_map.1 hr
      exact (hf i (List.mem_range.1 hi')).2.2
theorem open_rows {r : Reach} {b0 : Nat} {v : Value} {d : DataW H} {p : List MemPlace} (hv : Value.okWide Try.prog w r b0 34 v) (h : DataW.Trod enc Try.prog w base spare held 34 v d p) :
    ∃ M : List (List (Int × Int)), Mx w v M ∧ ∀ r ∈ M, I64 r := by
  obtain ⟨a, len, cap, rfl⟩ := okWide_slice Try.underlying34 hv
  obtain ⟨fuel, hf⟩ := h
  exact mx_read hf
end
end Go.Proofs.Ytmcdkbnpcmiojaa
