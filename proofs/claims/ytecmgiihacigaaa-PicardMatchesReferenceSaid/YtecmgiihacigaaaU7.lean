/-
  Package tape: the closure of Decompile.
  Package tape: Decompile.
  Package tape: the walk of Decompile.
-/
import Derived.Test.YtecmgiihacigaaaU6
import Derived.Maps.AppendAt
import Derived.Laws.EntriesVeiled
namespace Go.Proofs.Ytecmgiihacigaaa
open Go.ChangeShapes Go.WideShapes Go.ChangeAt Go.RowKit Go.Maps
set_option linter.unusedVariables false
set_option linter.unusedSimpArgs false
set_option maxRecDepth 100000
attribute [local irreducible] Calls
/-- The node of an instruction. -/
def ndI (x : Is) : Nd := ⟨x.op, if x.op = 2 then x.a else 0, x.lo, x.hi⟩
/-- The expression of an instruction. -/
def decL (L : List Is) : Nat → Int → List Nd
  | 0, _ => []
  | f + 1, i => match L[i.toNat]? with
    | none => []
    | some x => ndI x :: (opsI x).flatMap (decL L f)
theorem decL_at {L : List Is} {f i : Nat} {x : Is} (h : L[i]? = some x) : decL L (f + 1) i = ndI x :: (opsI x).flatMap (decL L f) := by
  show (match L[((i : Nat) : Int).toNat]? with | none => [] | some x => ndI x :: (opsI x).flatMap (decL L f)) = _
  rw [Int.toNat_natCast, h]
theorem flat_snoc {ys : List Int} {r : Nat} {y : Int} (g : Int → List Nd) (h : ys[r]? = some y) : (ys.take (r + 1)).flatMap g = (ys.take r).flatMap g ++ g y := by
  rw [List.take_add_one, h]
  simp
theorem flat_le (ys : List Int) (r : Nat) (g : Int → List Nd) : ((ys.take r).flatMap g).length ≤ (ys.flatMap g).length := by
  have h : ys.flatMap g = (ys.take r).flatMap g ++ (ys.drop r).flatMap g := by rw [← List.flatMap_append, List.take_append_drop]
  rw [h, List.length_append]
  omega
section
variable {w0 W W' : World} {B tb eb fb : Nat} {C : Array Value} {v v' : Value} {E E' : List Nd}
end
theorem one_n (x : Nd) : ∀ u ∈ encN x, u.oneCell' = true := by
  intro u hu
  simp only [encN, List.mem_cons, List.not_mem_nil, or_false] at hu
  rcases hu with rfl | rfl | rfl | rfl <;> rfl
theorem px_ext {W W' : World} {eb n c : Nat} {u u' : Value} {p : Option Addr} {l : List Int} (h : Px W (.slice p n c) l) (hp : ∀ a : Addr, p = some a → a.block < W.heap.size ∧ a.block ≠ eb ∧ some a.block ≠ u.ownBlock) (E : Ext eb eb u u' W W') : Px W' (.slice p n c) l := by
  obtain ⟨h1, q, c', e, h2⟩ := h
  simp only [Value.slice.injEq] at e
  obtain ⟨rfl, rfl, rfl⟩ := e
  refine ⟨h1, _, _, rfl, fun i x hx => ?_⟩
  obtain ⟨b, o, rfl, h3, h4⟩ := h2 i x hx
  obtain ⟨g1, g2, g3⟩ := hp _ rfl
  have hb := E.blk b g1 g2 g2 g3
  exact ⟨b, o, rfl, Nat.lt_of_lt_of_le h3 E.size, fun j v hv => (World.cell?_of_block (a := ⟨b, o + i * 1 + j, none⟩) hb).trans (h4 j v hv)⟩
end Go.Proofs.Ytecmgiihacigaaa

namespace Go.Proofs.Ytecmgiihacigaaa
open Go.ChangeShapes Go.WideShapes Go.ChangeAt Go.RowKit Go.Maps
set_option linter.unusedVariables false
set_option linter.unusedSimpArgs false
set_option maxRecDepth 100000
attribute [local irreducible] Calls
/-- A number of nodes, or 201. -/
def cap (n : Int) : Int := if 201 < n then 201 else n
theorem cap_sum (sz : List Int) (g : Int → List Nd) : ∀ ys : List Int, (∀ y ∈ ys, sz.getD y.toNat 0 = cap (g y).length) → (smI sz ys = (ys.flatMap g).length ∧ smI sz ys ≤ 402 * ys.length) ∨ (201 ≤ smI sz ys ∧ 201 ≤ ((ys.flatMap g).length : Int))
  | [], _ => .inl (by simp [smI])
  | y :: ys, h => by
    have hy := h y (by simp)
    have ih := cap_sum sz g ys (fun z hz => h z (by simp [hz]))
    have e1 : smI sz (y :: ys) = sz.getD y.toNat 0 + smI sz ys := by simp [smI]
    have e2 : (((y :: ys).flatMap g).length : Int) = (g y).length + (ys.flatMap g).length := by simp
    have hn : 0 ≤ smI sz ys := by
      rcases ih with h | h
      · omega
      · omega
    rw [e1, e2, hy, List.length_cons]
    unfold cap
    push_cast
    split <;> rcases ih with h | h <;> omega
theorem size_at {L : List Is} {N : Int} (hvin : ∀ (k : Nat) (x : Is), L[k]? = some x → vinB k N x = true) : ∀ f i : Nat, i < f → i < L.length → (szL L).getD i 0 = cap (decL L f i).length := by
  have pre : ∀ (m i : Nat), i < m → m ≤ L.length → (szL (L.take m)).getD i 0 = (szL (L.take (i + 1))).getD i 0 := by
    intro m
    induction m with
    | zero => intro i h; omega
    | succ m ih =>
      intro i hi hm
      obtain ⟨x, hx⟩ : ∃ x, L[m]? = some x := ⟨_, List.getElem?_eq_getElem (by omega)⟩
      by_cases e : i = m
      · rw [e]
      · rw [szL_snoc hx, ← ih i (by omega) (by omega), List.getD_eq_getElem?_getD, List.getD_eq_getElem?_getD, List.getElem?_append_left (by rw [szL_len, List.length_take]; omega)]
  intro f
  induction f with
  | zero => intro i h; omega
  | succ f ih =>
    intro i hi hL
    obtain ⟨x, hx⟩ : ∃ x, L[i]? = some x := ⟨_, List.getElem?_eq_getElem hL⟩
    have h1 := pre L.length i hL (Nat.le_refl _)
    rw [List.take_length] at h1
    rw [h1, szL_snoc hx, decL_at hx, List.getD_eq_getElem?_getD, List.getElem?_append_right (by rw [szL_len, List.length_take]; omega), szL_len, List.length_take, Nat.min_eq_left (by omega), Nat.sub_self]
    show szI (szL (L.take i)) x = _
    have ho := ops_lt (hvin i x hx)
    have hc := cap_sum (szL (L.take i)) (decL L f) (opsI x) (fun y hy => by
      have hb := ho y hy
      obtain ⟨j, rfl⟩ : ∃ j : Nat, y = j := ⟨y.toNat, by omega⟩
      rw [Int.toNat_natCast, pre i j (by omega) (by omega), ← pre L.length j (by omega) (Nat.le_refl _), List.take_length]
      exact ih j (by omega) (by omega))
    unfold szI cap
    rw [List.length_cons]
    push_cast
    rcases hc with h | h
    · rw [h.1, Int.add_comm]
    · rw [if_pos (by omega), if_pos (by omega)]
/-- The row of an output. -/
def rowD (L : List Is) (y : Int) : List Nd := if (decL L L.length y).length ≤ 200 then decL L L.length y else []
/-- All but the variable of the expression stays. -/
structure Oth (eb : Nat) (W W' : World) : Prop where
  os : W'.os = W.os
  tape : W'.tape = W.tape
  output : W'.output = W.output
  size : W.heap.size ≤ W'.heap.size
  blk : ∀ k, k < W.heap.size → k ≠ eb → W'.heap[k]? = W.heap[k]?
section
variable {eb B : Nat} {W W' W'' : World}
theorem Oth.set (eb : Nat) (W : World) (v : Value) : Oth eb W (W.setCell ⟨eb, 0, none⟩ v) :=
  have h := grownBy_setN W ⟨eb, 0, none⟩ v
  ⟨h.os, h.tape, h.output, h.size, fun k hk hn => h.block k hk (fun e => hn (Option.some.inj e))⟩
theorem Oth.ext {n c : Nat} {v : Value} (h : Ext eb eb (.slice none n c) v W W') : Oth eb W W' := ⟨h.os, h.tape, h.output, h.size, fun k hk hn => h.blk k hk hn hn (by simp [Value.ownBlock])⟩
theorem Oth.trans (h : Oth eb W W') (k : Oth eb W' W'') : Oth eb W W'' := ⟨k.os.trans h.os, k.tape.trans h.tape, k.output.trans h.output, Nat.le_trans h.size k.size, fun j hj hn => (k.blk j (Nat.lt_of_lt_of_le hj h.size) hn).trans (h.blk j hj hn)⟩
theorem Oth.below (h : Oth eb W W') {b : Nat} (hb : b ≤ eb) (hw : b ≤ W.heap.size) : Below b W W' := ⟨h.os, h.tape, h.output, h.size, fun k hk => h.blk k (by omega) (by omega)⟩
theorem row_oth {n sz : Nat} {v : Value} {t : TypeId} {xs : List Value} (hr : W.ownsRow B t sz v n xs) (h : Oth eb W W') (hb : eb < B) : W'.ownsRow B t sz v n xs := by
  refine ⟨hr.1, hr.2.imp id ?_⟩
  rintro ⟨g, cap, cur, e, hg, hh, rest⟩
  exact ⟨g, cap, cur, e, hg, (h.blk g (Array.getElem?_eq_some_iff.1 hh).1 (by omega)).trans hh, rest⟩
end
end Go.Proofs.Ytecmgiihacigaaa

namespace Go.Proofs.Ytecmgiihacigaaa
open Go.ChangeShapes Go.WideShapes Go.ChangeAt Go.RowKit Go.Maps
set_option linter.unusedVariables false
set_option linter.unusedSimpArgs false
set_option maxRecDepth 100000
attribute [local irreducible] Calls
theorem row_app {B B' n n' sz sz' : Nat} {W W' : World} {v r : Value} {t t' : TypeId} {xs ys : List Value} (ht : t' ≠ t) (hr : W.ownsRow B t sz v n xs) (ho : W.ownsRow B' t' sz' r n' ys) (hg : W.grownBy W' r.ownBlock) : W'.ownsRow B t sz v n xs := by
  refine ⟨hr.1, hr.2.imp id ?_⟩
  rintro ⟨g, cap, cur, e, hgb, hh, rest⟩
  refine ⟨g, cap, cur, e, hgb, (hg.block g (Array.getElem?_eq_some_iff.1 hh).1 (fun e2 => ?_)).trans hh, rest⟩
  rcases id ho.2 with ⟨e1, _⟩ | ⟨g', cap', cur', e1, _, hh', _⟩
  · rw [e1] at e2; simp [Value.ownBlock] at e2
  · rw [e1] at e2
    simp only [Value.ownBlock, Option.some.injEq] at e2
    rw [e2, hh'] at hh
    simp only [Option.some.injEq, Obj.cells.injEq] at hh
    exact ht hh.2.1
end Go.Proofs.Ytecmgiihacigaaa
