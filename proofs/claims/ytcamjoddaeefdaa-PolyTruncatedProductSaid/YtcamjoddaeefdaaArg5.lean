/-
  The argument of the laws over polynomials.
-/
import Derived.Deep.Slices
import Derived.Deep.Fields
import Derived.ChangeSame
import Derived.OpenShut
import Derived.Test.YtcamjoddaeefdaaVs
namespace Go.Proofs.Ytcamjoddaeefdaa
open Go.ChangeShapes Go.WideShapes Go.ChangeAt Go.RowKit
set_option linter.unusedVariables false
set_option linter.unusedSimpArgs false
set_option maxRecDepth 100000

section
variable {H : Type} {enc : TypeId × Value → H} {w : World} {base : Nat} {spare : Nat → Bool} {held : Bool}
theorem wf64t {x : Int} (h : (Lit.int .i64 x).wf = true) : -9223372036854775808 ≤ x ∧ x ≤ 9223372036854775807 := by
  have a := bounds_i64 h
  exact ⟨a.1, by have := a.2; omega⟩
theorem wf8t {x : Int} (h : (Lit.int .u8 x).wf = true) : 0 ≤ x ∧ x ≤ 255 := by
  have a := bounds_u8 h
  exact ⟨a.1, by have := a.2; omega⟩
theorem cell_blkT {w : World} {a : Addr} {v : Value} (h : w.cell? a = some v) : a.block < w.heap.size ∧ a.spot = none := by
  unfold World.cell? at h
  split at h
  · rename_i hh
    refine ⟨(Array.getElem?_eq_some_iff.1 hh).1, ?_⟩
    split at h
    · cases h
    · rename_i hs
      simpa using hs
  · cases h
theorem add_spot (a : Addr) (n : Nat) (h : a.spot = none) : a.add n = ⟨a.block, a.off + n, none⟩ := by
  obtain ⟨b, o, s⟩ := a
  simp only at h
  subst h
  by_cases hz : n = 0 <;> simp [Addr.add, hz]
/-- A slice of terms, as an argument is read. -/
theorem tx_read {fuel : Nat} {c : Value} {y : DataW H × List MemPlace} (h : DataW.trod enc Try.prog w base spare held fuel 22 [c] = some y) : ∃ l : List Tm, Tx w c l ∧ ∀ t ∈ l, TV t := by
  have h2 : Try.prog.cellsOf 39 = 7 := by kernel_rfl
  have h1 : Try.prog.cellsOf 2 = 1 := by kernel_rfl
  have h3 : Try.prog.cellsOf 37 = 6 := by kernel_rfl
  have h4 : Try.prog.cellsOf 5 = 1 := by kernel_rfl
  rcases Go.Deep.open_slice Try.underlying22 h with ⟨hc, _⟩ | ⟨a, len, cap, m, n, D, Pl, hc, _, hl, hm, hmm, _, hi⟩
  · obtain rfl : c = .slice none 0 0 := by simpa using hc
    exact ⟨[], Tx.nil _ _ _, fun p hp => by simp at hp⟩
  · obtain rfl : c = .slice (some a) len cap := by simpa using hc
    rw [h2] at hi
    have hlm : len ≤ m := by rw [hmm]; split <;> omega
    have hel : ∀ i, i < len → ∃ x : Tm, TV x ∧ ∀ j u, (encT x)[j]? = some u → w.cell? (a.add (i * 7 + j)) = some u := fun i hil => by
      obtain ⟨cs, hcs, ht⟩ := hi i (by omega)
      obtain ⟨_, hcl, hat⟩ := World.cells?_some hcs
      obtain ⟨y0, y1, n', _, _, t0, t1⟩ := trod_struct2 Try.underlying39 ht
      obtain ⟨k, e0, _, w0⟩ := DataW.trod_int Try.underlying2 t0
      obtain ⟨xs, m', _, _, _, hxl, hx⟩ := DataW.trod_array Try.underlying37 t1
      match cs, hcl with
      | [c0, c1, c2, c3, c4, c5, c6], _ =>
        match xs, hxl with
        | [z0, z1, z2, z3, z4, z5], _ =>
          have j0 := hx 0 (by omega)
          have j1 := hx 1 (by omega)
          have j2 := hx 2 (by omega)
          have j3 := hx 3 (by omega)
          have j4 := hx 4 (by omega)
          have j5 := hx 5 (by omega)
          simp [h4, h3] at j0 j1 j2 j3 j4 j5
          obtain ⟨x0, f0, _, v0⟩ := DataW.trod_int Try.underlying5 j0
          obtain ⟨x1, f1, _, v1⟩ := DataW.trod_int Try.underlying5 j1
          obtain ⟨x2, f2, _, v2⟩ := DataW.trod_int Try.underlying5 j2
          obtain ⟨x3, f3, _, v3⟩ := DataW.trod_int Try.underlying5 j3
          obtain ⟨x4, f4, _, v4⟩ := DataW.trod_int Try.underlying5 j4
          obtain ⟨x5, f5, _, v5⟩ := DataW.trod_int Try.underlying5 j5
          simp [h1] at e0 f0 f1 f2 f3 f4 f5
          subst e0 f0 f1 f2 f3 f4 f5
          refine ⟨(k, [x0, x1, x2, x3, x4, x5]), ⟨⟨rfl, ?_⟩, wf64t w0⟩, fun j u hu => ?_⟩
          · intro x hx'
            simp only [List.mem_cons, List.not_mem_nil, or_false] at hx'
            rcases hx' with rfl | rfl | rfl | rfl | rfl | rfl
            · exact wf8t v0
            · exact wf8t v1
            · exact wf8t v2
            · exact wf8t v3
            · exact wf8t v4
            · exact wf8t v5
          · have hj : j < 7 := by
              have := (List.getElem?_eq_some_iff.1 hu).1
              simpa [encT] using this
            have q := hat j (by omega)
            rw [Go.Deep.add_add] at q
            rw [q, ← hu]
            rfl
    have hex : ∃ f : Nat → Tm, ∀ i, i < len → TV (f i) ∧ ∀ j u, (encT (f i))[j]? = some u → w.cell? (a.add (i * 7 + j)) = some u :=
      ⟨fun i => if h : i < len then (hel i h).choose else (0, []), fun i h => by simp only [h, dif_pos]; exact (hel i h).choose_spec⟩
    obtain ⟨f, hf⟩ := hex
    refine ⟨(List.range len).map f, ⟨by simp; omega, some a, cap, by simp, fun k x hx => ?_⟩, fun p hp => ?_⟩
    · have hk : k < len := by
        have := (List.getElem?_eq_some_iff.1 hx).1
        simpa using this
      obtain rfl : f k = x := by
        rw [List.getElem?_map, List.getElem?_range hk] at hx
        simpa using hx
      obtain ⟨hv, hcell⟩ := hf k hk
      have q0 := (hf 0 (by omega)).2 0 _ rfl
      have hs : a.spot = none := by
        have := (cell_blkT q0).2
        simpa [Addr.add] using this
      have hb : a.block < w.heap.size := by
        have := (cell_blkT q0).1
        rw [add_spot a _ hs] at this
        exact this
      refine ⟨a.block, a.off, ?_, hb, fun j u hu => ?_⟩
      · obtain ⟨b, o, sp⟩ := a
        simp only at hs
        subst hs
        rfl
      · have q := hcell j u hu
        rw [add_spot a _ hs] at q
        rw [Nat.add_assoc]
        exact q
    · obtain ⟨i, hi', rfl⟩ := List.mem_map.1 hp
      exact (hf i (List.mem_range.1 hi')).1
theorem wf8i {x : Int} (h : (Lit.int .i8 x).wf = true) : -128 ≤ x ∧ x ≤ 127 := by
  have a : IntKind.has .i8 x := by simpa [Lit.wf, IntKind.has] using h
  unfold IntKind.has at a
  rw [show IntKind.i8.min = -128 by decide, show IntKind.i8.max = 127 by decide] at a
  exact a
theorem open_operands5 {r : Reach} {b0 : Nat} {v : Value} {d : DataW H} {p : List MemPlace} (hv : Value.okWide Try.prog w r b0 25 v) (h : DataW.Trod enc Try.prog w base spare held 25 v d p) :
    ∃ (vA vB : Value) (k n : Int) (la lb : List Tm), v = .agg #[vA, vB, .int .i64 k, .int .i8 n] ∧ (Tx w vA la ∧ ∀ t ∈ la, TV t) ∧ (Tx w vB lb ∧ ∀ t ∈ lb, TV t) ∧ (-9223372036854775808 ≤ k ∧ k ≤ 9223372036854775807) ∧ -128 ≤ n ∧ n ≤ 127 := by
  have k1 : Try.prog.cellsOf 22 = 1 := by kernel_rfl
  have k2 : Try.prog.cellsOf 2 = 1 := by kernel_rfl
  have k3 : Try.prog.cellsOf 23 = 1 := by kernel_rfl
  obtain ⟨cs, rfl, hsz⟩ := okWide_struct Try.underlying25 hv
  obtain ⟨l⟩ := cs
  match l, hsz.trans (show Try.prog.cellsOf 25 = 4 by kernel_rfl) with
  | [c0, c1, c2, c3], _ =>
    obtain ⟨fuel, hf⟩ := h
    obtain ⟨xs, n, _, _, _, hlen, hg⟩ := DataW.trod_struct Try.underlying25 hf
    match xs, hlen with
    | [y0, y1, y2, y3], _ =>
      have g0 := hg 0 _ rfl
      have g1 := hg 1 _ rfl
      have g2 := hg 2 _ rfl
      have g3 := hg 3 _ rfl
      simp [Value.cells, k1, k2, k3] at g0 g1 g2 g3
      obtain ⟨la, a1, a2⟩ := tx_read g0
      obtain ⟨lb, b1, b2⟩ := tx_read g1
      obtain ⟨k, e2, _, w2⟩ := DataW.trod_int Try.underlying2 g2
      obtain ⟨x, e3, _, w3⟩ := DataW.trod_int Try.underlying23 g3
      obtain rfl : c2 = .int .i64 k := by simpa using e2
      obtain rfl : c3 = .int .i8 x := by simpa using e3
      exact ⟨c0, c1, k, x, la, lb, rfl, ⟨a1, a2⟩, ⟨b1, b2⟩, wf64t w2, wf8i w3⟩
end
end Go.Proofs.Ytcamjoddaeefdaa
