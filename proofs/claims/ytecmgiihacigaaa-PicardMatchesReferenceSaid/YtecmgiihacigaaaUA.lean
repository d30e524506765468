/-
  Package tape: the closure of Optimize.
  Package tape: Optimize.
-/
import Derived.Test.YtecmgiihacigaaaU9
import Derived.Laws.EntriesVeiled
namespace Go.Proofs.Ytecmgiihacigaaa
open Go.ChangeShapes Go.WideShapes Go.ChangeAt Go.RowKit Go.Maps
set_option linter.unusedVariables false
set_option linter.unusedSimpArgs false
set_option maxRecDepth 100000
attribute [local irreducible] Calls
/-- What the closure leaves. -/
structure ExtO (bl bm mb : Nat) (u u' : Value) (W W' : World) : Prop where
  size : W.heap.size ≤ W'.heap.size
  blk : ∀ k, k < W.heap.size → k ≠ bl → k ≠ bm → k ≠ mb → some k ≠ u.ownBlock → W'.heap[k]? = W.heap[k]?
  own : ∀ g, u'.ownBlock = some g → u.ownBlock = some g ∨ W.heap.size ≤ g
theorem MpI.at {mb n : Nat} {M : Int → Option Nat} {W W' : World} (h : MpI mb n M W) (e : W'.heap[mb]? = W.heap[mb]?) : MpI mb n M W' := by
  obtain ⟨D, ⟨es, cl, hb, r1, r2, r3⟩, h2⟩ := h
  exact ⟨D, ⟨es, cl, e.trans hb, r1, r2, r3⟩, h2⟩
theorem MpI.blk {mb n : Nat} {M : Int → Option Nat} {W : World} (h : MpI mb n M W) : ∃ es cl, W.heap[mb]? = some (.map es cl) := by
  obtain ⟨D, ⟨es, cl, hb, _⟩, _⟩ := h
  exact ⟨es, cl, hb⟩
theorem ExtO.of {bl bm mb : Nat} {u : Value} {W W' : World} (h : Below W.heap.size W W') : ExtO bl bm mb u u W W' :=
  ⟨h.size, fun k hk _ _ _ _ => h.block k hk, fun _ h => .inl h⟩
theorem ExtO.ofE {bl bm mb : Nat} {u u' : Value} {W W' : World} (h : Ext bl bm u u' W W') : ExtO bl bm mb u u' W W' :=
  ⟨h.size, fun k hk h1 h2 _ h3 => h.blk k hk h1 h2 h3, h.own⟩
theorem ExtO.ofM {bl bm mb : Nat} {u : Value} {W W' : World} (h : W.grownBy W' (some mb)) : ExtO bl bm mb u u W W' :=
  ⟨h.size, fun k hk _ _ h3 _ => h.block k hk (fun e => h3 (Option.some.inj e)), fun _ h => .inl h⟩
theorem ExtO.trans {bl bm mb : Nat} {u u' u'' : Value} {W W' W'' : World} (h : ExtO bl bm mb u u' W W') (k : ExtO bl bm mb u' u'' W' W'') : ExtO bl bm mb u u'' W W'' :=
  ⟨Nat.le_trans h.size k.size, fun j hj h1 h2 h4 h3 => (k.blk j (Nat.lt_of_lt_of_le hj h.size) h1 h2 h4 (fun e => by
    rcases h.own j e.symm with h5 | h5
    · exact h3 h5.symm
    · omega)).trans (h.blk j hj h1 h2 h4 h3), fun g hg => by
    rcases k.own g hg with h5 | h5
    · exact h.own g h5
    · exact .inr (Nat.le_trans h.size h5)⟩
theorem ExtO.local {bl bm mb : Nat} {u u' : Value} {W W' : World} (E : ExtO bl bm mb u u' W W') {k : Nat} {o : Obj} (hk : W.heap[k]? = some o) (h1 : k ≠ bl) (h2 : k ≠ bm) (h4 : k ≠ mb) (h3 : ∀ g, u.ownBlock = some g → g ≠ k) : W'.heap[k]? = some o :=
  (E.blk k (Array.getElem?_eq_some_iff.1 hk).1 h1 h2 h4 (fun e => h3 k e.symm rfl)).trans hk
theorem ExtO.newset {bl bm mb : Nat} {u u' : Value} {W W' : World} (h : ExtO bl bm mb u u' W W') {X : Nat} (hX : W.heap.size ≤ X) (o : Nat) (v : Value) : ExtO bl bm mb u u' W (W'.setCell ⟨X, o, none⟩ v) :=
  have hg := grownBy_setN W' ⟨X, o, none⟩ v
  ⟨Nat.le_trans h.size hg.size, fun k hk h1 h2 h4 h3 => (hg.block k (Nat.lt_of_lt_of_le hk h.size) (fun e => by have := Option.some.inj e; dsimp only at this; omega)).trans (h.blk k hk h1 h2 h4 h3), h.own⟩
section
variable {w0 : World} {B bl bm mb eb cb lb ob : Nat} {C : Array Value} {n : Nat} {u u' : Value} {T T' : List Is} {M M' : Int → Option Nat} {W W' : World}
theorem px_exto {m c : Nat} {p : Option Addr} {l : List Int} (h : Px W (.slice p m c) l) (hp : ∀ a : Addr, p = some a → a.block < W.heap.size ∧ a.block ≠ bl ∧ a.block ≠ bm ∧ a.block ≠ mb ∧ some a.block ≠ u.ownBlock) (E : ExtO bl bm mb u u' W W') : Px W' (.slice p m c) l := by
  obtain ⟨h1, q, c', e, h2⟩ := h
  simp only [Value.slice.injEq] at e
  obtain ⟨rfl, rfl, rfl⟩ := e
  refine ⟨h1, _, _, rfl, fun i x hx => ?_⟩
  obtain ⟨b, o, rfl, h3, h4⟩ := h2 i x hx
  obtain ⟨g1, g2, g3, g4, g5⟩ := hp _ rfl
  have hb := E.blk b g1 g2 g3 g4 g5
  exact ⟨b, o, rfl, Nat.lt_of_lt_of_le h3 E.size, fun j v hv => (World.cell?_of_block (a := ⟨b, o + i * 1 + j, none⟩) hb).trans (h4 j v hv)⟩
end
theorem iw_of {N k : Int} {x : Is} (h : vinB k N x = true) (hk : k ≤ 100000) (hN : N ≤ 6) : IW x := by
  have h1 := vin_cases h
  have h2 := ops_cases h
  obtain ⟨op, a, b, lo, hi⟩ := x
  dsimp only at h1 h2
  unfold vinB ixB at h
  dsimp only at h
  unfold IW W64
  dsimp only
  split at h
  · simp only [Bool.and_eq_true, decide_eq_true_eq] at h
    obtain ⟨ha, hb, hv⟩ := h
    unfold VI Ent Num at hv
    omega
  · split at h
    · simp only [Bool.and_eq_true, decide_eq_true_eq] at h
      omega
    · split at h
      · simp only [Bool.and_eq_true, decide_eq_true_eq] at h
        omega
      · split at h
        · simp only [Bool.and_eq_true, decide_eq_true_eq] at h
          omega
        · split at h
          · simp only [Bool.and_eq_true, decide_eq_true_eq] at h
            omega
          · cases h
theorem px_drew {m c : Nat} {p : Option Addr} {l : List Int} {W : World} (h : Px W (.slice p m c) l) : Px W.drew (.slice p m c) l := h.grow ((Below.refl _ _).drew)
theorem size_setN (W : World) (a : Addr) (v : Value) : (W.setCell a v).heap.size = W.heap.size := by
  show (W.heap.modify _ _).size = _
  exact Array.size_modify
theorem px_set {m c : Nat} {p : Option Addr} {l : List Int} {W : World} (h : Px W (.slice p m c) l) {X o : Nat} {y : Value} (hp : ∀ a : Addr, p = some a → a.block ≠ X) : Px (W.setCell ⟨X, o, none⟩ y) (.slice p m c) l := by
  obtain ⟨h1, q, c', e, h2⟩ := h
  simp only [Value.slice.injEq] at e
  obtain ⟨rfl, rfl, rfl⟩ := e
  refine ⟨h1, _, _, rfl, fun i x hx => ?_⟩
  obtain ⟨b, o', rfl, h3, h4⟩ := h2 i x hx
  have hb := (grownBy_setN W ⟨X, o, none⟩ y).block b h3 (fun e => hp _ rfl (Option.some.inj e))
  exact ⟨b, o', rfl, by rw [size_setN]; exact h3, fun j v hv => (World.cell?_of_block (a := ⟨b, o' + i * 1 + j, none⟩) hb).trans (h4 j v hv)⟩
end Go.Proofs.Ytecmgiihacigaaa

namespace Go.Proofs.Ytecmgiihacigaaa
open Go.ChangeShapes Go.WideShapes Go.ChangeAt Go.RowKit Go.Maps
set_option linter.unusedVariables false
set_option linter.unusedSimpArgs false
set_option maxRecDepth 100000
attribute [local irreducible] Calls
theorem comp_take (ts : List Ex) (k : Nat) : ∃ S, (compT ts []).1 = (compT (ts.take k) []).1 ++ S := by
  have h := compT_app (ts.take k) (ts.drop k) []
  rw [List.take_append_drop] at h
  obtain ⟨S, hS⟩ := compT_pre (ts.drop k) (compT (ts.take k) []).1
  exact ⟨S, by rw [h]; exact hS.symm⟩
end Go.Proofs.Ytecmgiihacigaaa
