/-
  Literals in memory; the contracts of package tape at given answers.
  The sanity of the laws over tapes.
  The argument of the laws over tapes.
-/
import Derived.Test.YtecmgiihacigaaaUA
import Derived.Test.YtecmgiihacigaaaU8
import Derived.WalkKit
import Derived.ProofKit
import Derived.OpenShut
import Derived.Deep.Matrix
namespace Go.Proofs.Ytecmgiihacigaaa
open Go.ChangeShapes Go.WideShapes Go.ChangeAt Go.RowKit Go.Maps
set_option linter.unusedVariables false
set_option linter.unusedSimpArgs false
set_option maxRecDepth 100000
attribute [local irreducible] Calls
theorem allocs_below : ∀ (L : List Obj) (w : World), Below w.heap.size w (L.foldl World.alloc w)
  | [], w => Below.refl _ _
  | o :: L, w => below_then ((Below.refl _ _).alloc (Nat.le_refl _) _) (allocs_below L (w.alloc o))
theorem allocs_at : ∀ (L : List Obj) (w : World) (i : Nat) (o : Obj), L[i]? = some o → (L.foldl World.alloc w).heap[w.heap.size + i]? = some o
  | [], w, i, o, h => by simp at h
  | x :: L, w, 0, o, h => by
    simp at h
    subst h
    have hb := allocs_below L (w.alloc x)
    exact (hb.block w.heap.size (by rw [alloc_sz]; omega)).trans (World.alloc_heap_new w x)
  | x :: L, w, i + 1, o, h => by
    have := allocs_at L (w.alloc x) i o (by simpa using h)
    rw [alloc_sz] at this
    rw [show w.heap.size + (i + 1) = w.heap.size + 1 + i by omega]
    exact this
/-- A block of memory. -/
def Blk (W : World) (b : Nat) (o : Obj) : Prop := W.heap[b]? = some o
theorem Blk.grow {W W' : World} {b : Nat} {o : Obj} (h : Blk W b o) (hB : Below W.heap.size W W') : Blk W' b o := (hB.block b (Array.getElem?_eq_some_iff.1 h).1).trans h
theorem rx_blk {α : Type} {enc : α → List Value} {sz : Nat} (hsz : ∀ x, (enc x).length = sz) {W : World} {b n : Nat} {cs : Array Value} {t : TypeId} {l : List α} (h : Blk W b (.cells cs t (0, 0))) (hc : cs.toList = cr enc l) (hn : l.length = n) (hl : l.length ≤ maxLen) : Rx enc sz W (.slice (some ⟨b, 0, none⟩) n n) l := by
  subst hn
  refine ⟨hl, _, _, rfl, fun i x hx => ⟨b, 0, rfl, (Array.getElem?_eq_some_iff.1 h).1, fun j u hu => ?_⟩⟩
  have hcr := cr_get hsz i x hx j u hu
  rw [← hc, Array.getElem?_toList] at hcr
  rw [Nat.zero_add]
  exact heapN_cell h hcr
theorem point_at (x : Int) (w : World) (h1 : mkLo x x = x) (h2 : mkHi x x = x) : Calls Try.prog 24 #[.int .i64 x] w fun e w' => e = .returned (.agg #[.int .i64 x, .int .i64 x]) ∧ Below w.heap.size w w' := by
  have h := r2point x w
  rwa [h1, h2] at h
theorem eval_at (n : Int) (vl vo vx : Value) (t1 t2 : Int) (L : List Is) (out : List Int) (X R : List (Int × Int)) (w : World) (hl : Ix w vl L) (ho : Px w vo out) (hx : Vx w vx X) (hn : (X.length : Int) = n) (htv : tvB n L out = true) (hvx : ∀ p ∈ X, VI p.1 p.2) (hvt : VI t1 t2) (hR : outV (evL X (t1, t2) L) out = R) :
    Calls Try.prog 26 #[.agg #[.int .i64 n, vl, vo], vx, .agg #[.int .i64 t1, .int .i64 t2]] w fun e w' => ∃ u, e = .returned u ∧ Vx w' u R ∧ Below w.heap.size w w' := by
  subst hn hR
  exact eval_ok vl vo vx t1 t2 L out X w hl ho hx htv hvx hvt
theorem px_map {W : World} {B n : Nat} {v : Value} {t : TypeId} {l : List Int} (h : W.ownsRow B t 1 v n (l.map (fun x => Value.int .i64 x))) (hn : l.length = n) (hl : l.length ≤ maxLen) : Px W v l := by
  subst hn
  have h2 : W.ownsRow B t 1 v l.length (cr enc1 l) := by rw [cr1_map]; exact h
  exact Rx.own (enc := enc1) (fun _ => rfl) h2 hl
theorem valid_at (n : Int) (vl vo : Value) (L : List Is) (out : List Int) (b : Bool) (w : World) (hl : Ix w vl L) (ho : Px w vo out) (hR : tvB n L out = b) :
    Calls Try.prog 51 #[.agg #[.int .i64 n, vl, vo]] w fun e w' => e = .returned (.bool b) ∧ Below w.heap.size w w' := by
  subst hR
  exact tvalid_ok n vl vo L out w hl ho
/-- One lower-case letter, not t, is a name. -/
theorem nm_one (c : UInt8) (h1 : ltB c.toNat = true) (h2 : (c == 116) = false) : Nm ⟨#[c]⟩ := by
  have e : (⟨#[c]⟩ : ByteArray).toList = [c] := by rw [ByteArray.toList_eq]
  refine ⟨Nat.zero_lt_one, by show 1 ≤ 12; decide, ?_, ?_, ?_, ?_, ?_, ?_, fun _ => h1⟩
  · rw [e]; rfl
  · rw [e]; simp; simpa using h2
  · rw [e]; simp
  · rw [e]; simp
  · rw [e]; simp
  · intro d hd
    have hd : d = c := by simpa using hd
    subst hd
    rw [h1]
    rfl
end Go.Proofs.Ytecmgiihacigaaa

namespace Go.Proofs.Ytecmgiihacigaaa
open Go.ChangeShapes Go.WideShapes Go.ChangeAt Go.RowKit Go.Maps
set_option linter.unusedVariables false
set_option linter.unusedSimpArgs false
set_option maxRecDepth 100000
attribute [local irreducible] Calls
theorem san_comp : compT ([(.e2 ⟨9, 0, 0, 0⟩ (.e0 ⟨2, 1, 0, 0⟩) (.e0 ⟨2, 1, 0, 0⟩)), .e2 ⟨7, 0, 0, 0⟩ (.e2 ⟨9, 0, 0, 0⟩ (.e0 ⟨2, 1, 0, 0⟩) (.e0 ⟨2, 1, 0, 0⟩)) (.e0 ⟨3, 0, 0, 0⟩)] : List Ex) [] = ([⟨2, 1, 0, 0, 0⟩, ⟨9, 0, 0, 0, 0⟩, ⟨3, 0, 0, 0, 0⟩, ⟨7, 1, 2, 0, 0⟩], [1, 3]) := by decide
theorem san_rows : ([(.e2 ⟨9, 0, 0, 0⟩ (.e0 ⟨2, 1, 0, 0⟩) (.e0 ⟨2, 1, 0, 0⟩)), .e2 ⟨7, 0, 0, 0⟩ (.e2 ⟨9, 0, 0, 0⟩ (.e0 ⟨2, 1, 0, 0⟩) (.e0 ⟨2, 1, 0, 0⟩)) (.e0 ⟨3, 0, 0, 0⟩)] : List Ex).map pre = [[⟨9, 0, 0, 0⟩, ⟨2, 1, 0, 0⟩, ⟨2, 1, 0, 0⟩], [⟨7, 0, 0, 0⟩, ⟨9, 0, 0, 0⟩, ⟨2, 1, 0, 0⟩, ⟨2, 1, 0, 0⟩, ⟨3, 0, 0, 0⟩]] := rfl
theorem san_eval : outV (evL [(0, 0), (131072, 131072)] (65536, 65536) [⟨2, 1, 0, 0, 0⟩, ⟨9, 0, 0, 0, 0⟩, ⟨3, 0, 0, 0, 0⟩, ⟨7, 1, 2, 0, 0⟩]) [1, 3] = [(262144, 262144), (327680, 327680)] := by decide
theorem san_opt : optL [⟨3, 0, 0, 0, 0⟩, ⟨1, 0, 0, 5, 5⟩, ⟨1, 0, 0, 5, 5⟩, ⟨7, 2, 1, 0, 0⟩] [3] = ([⟨1, 0, 0, 5, 5⟩, ⟨7, 0, 0, 0, 0⟩], [1]) := by decide
theorem san_root : outV (evL [(-1, -1)] (0, 0) [⟨2, 0, 0, 0, 0⟩, ⟨6, 0, 0, 0, 0⟩]) [1] = [(-2147483648, 2147483648)] := by decide
theorem san_dec : ([1, 3] : List Int).map (rowD [⟨2, 1, 0, 0, 0⟩, ⟨9, 0, 0, 0, 0⟩, ⟨3, 0, 0, 0, 0⟩, ⟨7, 1, 2, 0, 0⟩]) = [[⟨9, 0, 0, 0⟩, ⟨2, 1, 0, 0⟩, ⟨2, 1, 0, 0⟩], [⟨7, 0, 0, 0⟩, ⟨9, 0, 0, 0⟩, ⟨2, 1, 0, 0⟩, ⟨2, 1, 0, 0⟩, ⟨3, 0, 0, 0⟩]] := by decide
theorem san_one : ([1] : List Int).map (rowD [⟨1, 0, 0, 65536, 65536⟩, ⟨4, 0, 0, 0, 0⟩]) = [[⟨4, 0, 0, 0⟩, ⟨1, 0, 65536, 65536⟩]] := by decide
theorem san_sys : SyV [⟨#[120]⟩, ⟨#[121]⟩] (([(.e2 ⟨9, 0, 0, 0⟩ (.e0 ⟨2, 1, 0, 0⟩) (.e0 ⟨2, 1, 0, 0⟩)), .e2 ⟨7, 0, 0, 0⟩ (.e2 ⟨9, 0, 0, 0⟩ (.e0 ⟨2, 1, 0, 0⟩) (.e0 ⟨2, 1, 0, 0⟩)) (.e0 ⟨3, 0, 0, 0⟩)] : List Ex).map pre) := by
  refine ⟨rfl, by decide, by decide, ?_, ?_, ?_⟩
  · intro s hs
    simp at hs
    rcases hs with rfl | rfl
    · exact nm_one 120 (by decide) (by decide)
    · exact nm_one 121 (by decide) (by decide)
  · simp
  · rw [san_rows]
    intro r hr
    simp at hr
    rcases hr with rfl | rfl <;> decide
theorem san_ar : ∀ t ∈ ([(.e2 ⟨9, 0, 0, 0⟩ (.e0 ⟨2, 1, 0, 0⟩) (.e0 ⟨2, 1, 0, 0⟩)), .e2 ⟨7, 0, 0, 0⟩ (.e2 ⟨9, 0, 0, 0⟩ (.e0 ⟨2, 1, 0, 0⟩) (.e0 ⟨2, 1, 0, 0⟩)) (.e0 ⟨3, 0, 0, 0⟩)] : List Ex), Ar t := by
  intro t ht
  simp at ht
  rcases ht with rfl | rfl
  · exact ⟨by decide, rfl, rfl⟩
  · exact ⟨by decide, ⟨by decide, rfl, rfl⟩, rfl⟩
theorem san_nw : ∀ t ∈ ([(.e2 ⟨9, 0, 0, 0⟩ (.e0 ⟨2, 1, 0, 0⟩) (.e0 ⟨2, 1, 0, 0⟩)), .e2 ⟨7, 0, 0, 0⟩ (.e2 ⟨9, 0, 0, 0⟩ (.e0 ⟨2, 1, 0, 0⟩) (.e0 ⟨2, 1, 0, 0⟩)) (.e0 ⟨3, 0, 0, 0⟩)] : List Ex), ∀ y ∈ pre t, NW y := by
  have h : ∀ r ∈ ([[⟨9, 0, 0, 0⟩, ⟨2, 1, 0, 0⟩, ⟨2, 1, 0, 0⟩], [⟨7, 0, 0, 0⟩, ⟨9, 0, 0, 0⟩, ⟨2, 1, 0, 0⟩, ⟨2, 1, 0, 0⟩, ⟨3, 0, 0, 0⟩]] : List (List Nd)), ∀ y ∈ r, NW y := by simp [NW, W64]
  rw [← san_rows] at h
  intro t ht y hy
  exact h (pre t) (List.mem_map_of_mem ht) y hy
theorem sbox_self (va vb : Value) (l : List (Int × Int)) (N : Nat) (w : World) (ha : Vx w va l) (hb : Vx w vb l) (hl : l.length = N) : Calls Try.prog 16 #[va, vb] w fun e w' => e = .returned (.bool true) ∧ Below w.heap.size w w' := by
  have h := sameboxes_ok va vb l l N w ha hb hl hl
  rwa [sbGo_self] at h
end Go.Proofs.Ytecmgiihacigaaa

namespace Go.Proofs.Ytecmgiihacigaaa
open Go.ChangeShapes Go.WideShapes Go.ChangeAt Go.RowKit
set_option linter.unusedVariables false
set_option linter.unusedSimpArgs false
set_option maxRecDepth 100000
section
variable {H : Type} {enc : TypeId × Value → H} {w : World} {base : Nat} {spare : Nat → Bool} {held : Bool}
theorem wf64t {x : Int} (h : (Lit.int .i64 x).wf = true) : -9223372036854775808 ≤ x ∧ x ≤ 9223372036854775807 := by
  have a := bounds_i64 h
  exact ⟨a.1, by have := a.2; omega⟩
theorem cell_blkT {w : World} {a : Addr} {v : Value} (h : w.cell? a = some v) : a.block < w.heap.size ∧ a.spot = none := by
  unfold World.cell? at h
  split at h
  · rename_i hh
    refine ⟨(Array.getElem?_eq_some_iff.1 hh).1, ?_⟩
    split at h
    · cases h
    · rename_i hs
      simpa using hs
  · cases h
theorem add_spot (a : Addr) (n : Nat) (h : a.spot = none) : a.add n = ⟨a.block, a.off + n, none⟩ := by
  obtain ⟨b, o, s⟩ := a
  simp only at h
  subst h
  by_cases hz : n = 0 <;> simp [Addr.add, hz]
/-- A slice of records, out of its elements. -/
theorem rx_of {α : Type} {en : α → List Value} {sz : Nat} {P : α → Prop} (d : α) {a : Addr} {len cap : Nat} (hl : len ≤ maxLen) (hen : ∀ x, ∃ u, (en x)[0]? = some u)
    (hel : ∀ i, i < len → ∃ x : α, P x ∧ ∀ j u, (en x)[j]? = some u → w.cell? (a.add (i * sz + j)) = some u) : ∃ l : List α, Rx en sz w (.slice (some a) len cap) l ∧ ∀ x ∈ l, P x := by
  have hex : ∃ f : Nat → α, ∀ i, i < len → P (f i) ∧ ∀ j u, (en (f i))[j]? = some u → w.cell? (a.add (i * sz + j)) = some u :=
    ⟨fun i => if h : i < len then (hel i h).choose else d, fun i h => by simp only [h, dif_pos]; exact (hel i h).choose_spec⟩
  obtain ⟨f, hf⟩ := hex
  refine ⟨(List.range len).map f, ⟨by simp; omega, some a, cap, by simp, fun k x hx => ?_⟩, fun p hp => ?_⟩
  · have hk : k < len := by
      have := (List.getElem?_eq_some_iff.1 hx).1
      simpa using this
    obtain rfl : f k = x := by
      rw [List.getElem?_map, List.getElem?_range hk] at hx
      simpa using hx
    obtain ⟨hv, hcell⟩ := hf k hk
    obtain ⟨u0, hu0⟩ := hen (f 0)
    have q0 := (hf 0 (by omega)).2 0 _ hu0
    have hs : a.spot = none := by
      have := (cell_blkT q0).2
      simpa [Addr.add] using this
    have hb : a.block < w.heap.size := by
      have := (cell_blkT q0).1
      rw [add_spot a _ hs] at this
      exact this
    refine ⟨a.block, a.off, ?_, hb, fun j u hu => ?_⟩
    · obtain ⟨b, o, sp⟩ := a
      simp only at hs
      subst hs
      rfl
    · have q := hcell j u hu
      rw [add_spot a _ hs] at q
      rw [Nat.add_assoc]
      exact q
  · obtain ⟨i, hi', rfl⟩ := List.mem_map.1 hp
    exact (hf i (List.mem_range.1 hi')).1
/-- A slice of instructions, as an argument is read. -/
theorem ix_read {fuel : Nat} {c : Value} {y : DataW H × List MemPlace} (h : DataW.trod enc Try.prog w base spare held fuel 22 [c] = some y) : ∃ l : List Is, Ix w c l ∧ ∀ x ∈ l, IW x := by
  have h2 : Try.prog.cellsOf 62 = 5 := by kernel_rfl
  have h1 : Try.prog.cellsOf 3 = 1 := by kernel_rfl
  have h3 : Try.prog.cellsOf 45 = 2 := by kernel_rfl
  have h4 : Try.prog.cellsOf 2 = 1 := by kernel_rfl
  rcases Go.Deep.open_slice Try.underlying22 h with ⟨hc, _⟩ | ⟨a, len, cap, m, n, D, Pl, hc, _, hl, hm, hmm, _, hi⟩
  · obtain rfl : c = .slice none 0 0 := by simpa using hc
    exact ⟨[], Rx.nil _ _ _, fun p hp => by simp at hp⟩
  · obtain rfl : c = .slice (some a) len cap := by simpa using hc
    rw [h2] at hi
    have hlm : len ≤ m := by rw [hmm]; split <;> omega
    refine rx_of (en := encI) (sz := 5) (P := IW) ⟨0, 0, 0, 0, 0⟩ (by omega) (fun x => ⟨_, rfl⟩) (fun i hil => ?_)
    obtain ⟨cs, hcs, ht⟩ := hi i (by omega)
    obtain ⟨_, hcl, hat⟩ := World.cells?_some hcs
    obtain ⟨xs, n', _, _, _, hlen, hg⟩ := DataW.trod_struct Try.underlying62 ht
    match cs, hcl with
    | [c0, c1, c2, c3, c4], _ =>
      match xs, hlen with
      | [y0, y1, y2, y3], _ =>
        have g0 := hg 0 _ rfl
        have g1 := hg 1 _ rfl
        have g2 := hg 2 _ rfl
        have g3 := hg 3 _ rfl
        simp [Value.cells, h1, h3, h4] at g0 g1 g2 g3
        obtain ⟨k0, e0, _, w0⟩ := DataW.trod_int Try.underlying3 g0
        obtain ⟨k1, e1, _, w1⟩ := DataW.trod_int Try.underlying3 g1
        obtain ⟨k2, e2, _, w2⟩ := DataW.trod_int Try.underlying3 g2
        obtain ⟨y0', y1', n'', _, _, t0, t1⟩ := trod_struct2 Try.underlying45 g3
        obtain ⟨k3, e3, _, w3⟩ := DataW.trod_int Try.underlying2 t0
        obtain ⟨k4, e4, _, w4⟩ := DataW.trod_int Try.underlying2 t1
        simp [h4] at e0 e1 e2 e3 e4
        subst e0 e1 e2 e3 e4
        refine ⟨⟨k0, k1, k2, k3, k4⟩, ⟨wf64t w0, wf64t w1, wf64t w2, wf64t w3, wf64t w4⟩, fun j u hu => ?_⟩
        have hj : j < 5 := by
          have := (List.getElem?_eq_some_iff.1 hu).1
          simpa [encI] using this
        have q := hat j (by omega)
        rw [Go.Deep.add_add] at q
        rw [q, ← hu]
        rfl
/-- A slice of ints, as an argument is read. -/
theorem px_read {fuel : Nat} {c : Value} {y : DataW H × List MemPlace} (h : DataW.trod enc Try.prog w base spare held fuel 23 [c] = some y) : ∃ l : List Int, Px w c l ∧ ∀ x ∈ l, W64 x := by
  have h1 : Try.prog.cellsOf 3 = 1 := by kernel_rfl
  rcases Go.Deep.open_slice Try.underlying23 h with ⟨hc, _⟩ | ⟨a, len, cap, m, n, D, Pl, hc, _, hl, hm, hmm, _, hi⟩
  · obtain rfl : c = .slice none 0 0 := by simpa using hc
    exact ⟨[], Rx.nil _ _ _, fun p hp => by simp at hp⟩
  · obtain rfl : c = .slice (some a) len cap := by simpa using hc
    rw [h1] at hi
    have hlm : len ≤ m := by rw [hmm]; split <;> omega
    refine rx_of (en := enc1) (sz := 1) (P := W64) 0 (by omega) (fun x => ⟨_, rfl⟩) (fun i hil => ?_)
    obtain ⟨cs, hcs, ht⟩ := hi i (by omega)
    obtain ⟨_, hcl, hat⟩ := World.cells?_some hcs
    match cs, hcl with
    | [c0], _ =>
      obtain ⟨k0, e0, _, w0⟩ := DataW.trod_int Try.underlying3 ht
      simp at e0
      subst e0
      refine ⟨k0, wf64t w0, fun j u hu => ?_⟩
      have hj : j < 1 := by
        have := (List.getElem?_eq_some_iff.1 hu).1
        simpa [enc1] using this
      have q := hat j (by omega)
      rw [Go.Deep.add_add] at q
      rw [q, ← hu]
      rfl
/-- A slice of intervals, as an argument is read. -/
theorem vx_read {fuel : Nat} {c : Value} {y : DataW H × List MemPlace} (h : DataW.trod enc Try.prog w base spare held fuel 26 [c] = some y) : ∃ l : List (Int × Int), Vx w c l ∧ ∀ p ∈ l, W64 p.1 ∧ W64 p.2 := by
  have h3 : Try.prog.cellsOf 45 = 2 := by kernel_rfl
  have h4 : Try.prog.cellsOf 2 = 1 := by kernel_rfl
  rcases Go.Deep.open_slice Try.underlying26 h with ⟨hc, _⟩ | ⟨a, len, cap, m, n, D, Pl, hc, _, hl, hm, hmm, _, hi⟩
  · obtain rfl : c = .slice none 0 0 := by simpa using hc
    exact ⟨[], Rx.nil _ _ _, fun p hp => by simp at hp⟩
  · obtain rfl : c = .slice (some a) len cap := by simpa using hc
    rw [h3] at hi
    have hlm : len ≤ m := by rw [hmm]; split <;> omega
    refine rx_of (en := encB) (sz := 2) (P := fun p : Int × Int => W64 p.1 ∧ W64 p.2) (0, 0) (by omega) (fun x => ⟨_, rfl⟩) (fun i hil => ?_)
    obtain ⟨cs, hcs, ht⟩ := hi i (by omega)
    obtain ⟨_, hcl, hat⟩ := World.cells?_some hcs
    obtain ⟨y0', y1', n'', _, _, t0, t1⟩ := trod_struct2 Try.underlying45 ht
    match cs, hcl with
    | [c3, c4], _ =>
      obtain ⟨k3, e3, _, w3⟩ := DataW.trod_int Try.underlying2 t0
      obtain ⟨k4, e4, _, w4⟩ := DataW.trod_int Try.underlying2 t1
      simp [h4] at e3 e4
      subst e3 e4
      refine ⟨(k3, k4), ⟨wf64t w3, wf64t w4⟩, fun j u hu => ?_⟩
      have hj : j < 2 := by
        have := (List.getElem?_eq_some_iff.1 hu).1
        simpa [encB] using this
      have q := hat j (by omega)
      rw [Go.Deep.add_add] at q
      rw [q, ← hu]
      rfl
theorem open_insts8 {r : Reach} {b0 : Nat} {v : Value} {d : DataW H} {p : List MemPlace} (hv : Value.okWide Try.prog w r b0 22 v) (h : DataW.Trod enc Try.prog w base spare held 22 v d p) :
    ∃ l : List Is, Ix w v l ∧ ∀ x ∈ l, IW x := by
  obtain ⟨a, len, cap, rfl⟩ := okWide_slice Try.underlying22 hv
  obtain ⟨fuel, hf⟩ := h
  exact ix_read hf
end
end Go.Proofs.Ytecmgiihacigaaa
