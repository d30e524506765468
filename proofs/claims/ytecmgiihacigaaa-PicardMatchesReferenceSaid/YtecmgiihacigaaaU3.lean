/-
  Package tape: the closure of Compile.
  Package ode: names; Valid of a valid system.
  Package ode: Valid of a valid system.
  Package tape: the list's tape; Compile.
  Package tape: Compile.
-/
import Derived.Test.YtecmgiihacigaaaU2
import Derived.Test.YtecmgiihacigaaaPredIn
import Derived.Test.YtecmgiihacigaaaPredL
import Derived.Laws.EntriesVeiled
namespace Go.Proofs.Ytecmgiihacigaaa
open Go.ChangeShapes Go.WideShapes Go.ChangeAt Go.RowKit Go.Maps
set_option linter.unusedVariables false
set_option linter.unusedSimpArgs false
set_option maxRecDepth 100000
attribute [local irreducible] Calls
section
variable {P : Program}
theorem tupon_enter {w w1 : World} {K : Value → World → Prop} {r : Result Next} {f : FuncId} {args : Array Value} (hr : r = .ok (.enter f args) w1) (hw : w1 = w) (h : Calls P f args w fun e w'' => ∃ v, e = .returned v ∧ Below w.heap.size w w'' ∧ K v w'') : uponP P w K r := by
  subst hr
  exact ⟨hw, h⟩
theorem tupon_value {w w1 : World} {K : Value → World → Prop} {r : Result Next} {v : Value} (hr : r = .ok (.value v) w1) (hB : Below w.heap.size w w1) (h : K v w1) : uponP P w K r := by
  subst hr
  exact ⟨hB, h⟩
end
section
variable {B bl bm eb lb : Nat} {u u' : Value} {L : List Is} {W W' : World}
theorem own_ne {X : Nat} (h : ∀ g, u.ownBlock = some g → g ≠ X) : u.ownBlock = none ∨ u.ownBlock ≠ some X := .inr fun e => h X e rfl
theorem boxed_ne {k : Nat} {t : TypeId} {v : Value} {X : Nat} {cs : Array Value} {z : Nat × Nat} (hb : Boxed W k t v) (hX : W.heap[X]? = some (.cells cs 62 z)) (ht : t ≠ 62) : X ≠ k := by
  rintro rfl
  unfold Boxed at hb
  rw [hX] at hb
  simp only [Option.some.injEq, Obj.cells.injEq] at hb
  exact ht hb.2.1.symm
theorem Ext.newset (h : Ext bl bm u u' W W') {X : Nat} (hX : W.heap.size ≤ X) (o : Nat) (v : Value) : Ext bl bm u u' W (W'.setCell ⟨X, o, none⟩ v) :=
  have hg := grownBy_setN W' ⟨X, o, none⟩ v
  ⟨hg.os.trans h.os, hg.tape.trans h.tape, hg.output.trans h.output, Nat.le_trans h.size hg.size, fun k hk h1 h2 h3 => (hg.block k (Nat.lt_of_lt_of_le hk h.size) (fun e => by have := Option.some.inj e; dsimp only at this; omega)).trans (h.blk k hk h1 h2 h3), h.own⟩
theorem IsC.set {X : Nat} {x : Is} (h : IsC W X x) (k : Int) : IsC (W.setCell ⟨X, 1, none⟩ (.int .i64 k)) X ⟨x.op, k, x.b, x.lo, x.hi⟩ ∧ IsC (W.setCell ⟨X, 2, none⟩ (.int .i64 k)) X ⟨x.op, x.a, k, x.lo, x.hi⟩ := ⟨cellsT_setN (o := 1) (u := .int .i64 k) h, cellsT_setN (o := 2) (u := .int .i64 k) h⟩
end
end Go.Proofs.Ytecmgiihacigaaa

namespace Go.Proofs.Ytecmgiihacigaaa
open Go.ChangeShapes Go.WideShapes Go.ChangeAt Go.RowKit
set_option linter.unusedVariables false
set_option linter.unusedSimpArgs false
set_option maxRecDepth 100000
attribute [local irreducible] Calls
def ltB (c : Int) : Bool := decide (97 ≤ c) && decide (c ≤ 122)
def dgB (c : Int) : Bool := decide (48 ≤ c) && decide (c ≤ 57)
theorem toList_inj {a b : ByteArray} (h : a.toList = b.toList) : a = b := by
  rw [ByteArray.toList_eq, ByteArray.toList_eq] at h
  exact ByteArray.ext (Array.toList_inj.1 h)
/-- All bytes are letters or digits. -/
def NB (s : ByteArray) : Prop := ∀ c ∈ s.data.toList, (ltB c.toNat || dgB c.toNat) = true
/-- A name. -/
structure Nm (s : ByteArray) : Prop where
  pos : 0 < s.size
  len : s.size ≤ 12
  k0 : (s.toList == []) = false
  k1 : (s.toList == [116]) = false
  k2 : (s.toList == [115, 113, 114]) = false
  k3 : (s.toList == [115, 113, 114, 116]) = false
  k4 : (s.toList == [97, 108, 108]) = false
  nb : NB s
  l0 : ∀ h : 0 < s.size, ltB (s[0].toNat) = true
end Go.Proofs.Ytecmgiihacigaaa

namespace Go.Proofs.Ytecmgiihacigaaa
open Go.ChangeShapes Go.WideShapes Go.ChangeAt Go.RowKit
set_option linter.unusedVariables false
set_option linter.unusedSimpArgs false
set_option maxRecDepth 100000
attribute [local irreducible] Calls
section
variable {P : Program}
theorem ob_gtrue {ops : Array Oper} {ds : List Tmp} {a0 : Act} {w0 : World} {Φ : Tmp → Value → World → Prop} {o : Oper} (ts : List Tmp) (j : Nat) (want : Bool) (u : Tmp) (hg : o.guard = some (j, want)) (hj : ((ops[j]?).bind (·.dst)) = some u) (ht : o.looksAt #[] = ts)
    (hin : inL u ds = true) (hu : ∀ v w, Φ u v w → v = .bool want)
    (h : ∀ (a : Act) (g : Grown w0), seenAll Φ ds a0 a g.w ts → uponP P g.w (meets Φ o.dst) ((execOp a.eval o).run P g.w)) : Obl P ops ds a0 w0 Φ o :=
  ob_guard ts j want u hg hj ht fun a g hs hsu => by
    refine ⟨fun _ => h a g hs, fun hn => ?_⟩
    obtain ⟨v, hv, hp⟩ := seen_in hin hsu
    exact absurd (by rw [hv, hu v _ hp]) hn

end
theorem heapN_cellj {W : World} {b k : Nat} {cs : Array Value} {t : TypeId} {z : Nat × Nat} {u : Value} (h : W.heap[b]? = some (.cells cs t z)) (hk : cs[k]? = some u) : W.cell? ⟨b, k, none⟩ = some u := by
  simp [World.cell?, h, hk]
/-- A valid system. -/
structure SyV (names : List ByteArray) (rows : List (List Nd)) : Prop where
  len : rows.length = names.length
  pos : 1 ≤ names.length
  le : names.length ≤ 6
  nm : ∀ s ∈ names, Nm s
  nd : names.Nodup
  ex : ∀ r ∈ rows, veB names.length r = true
theorem veB_len {n : Int} {l : List Nd} (h : veB n l = true) : l.length ≤ 200 := by
  unfold veB at h
  simp only [Bool.and_eq_true, decide_eq_true_eq] at h
  exact h.1
theorem nodup_take {l : List ByteArray} {k : Nat} {s : ByteArray} (h : l.Nodup) (hx : l[k]? = some s) : s ∉ l.take k := by
  intro hm
  obtain ⟨i, hi⟩ := List.getElem?_of_mem hm
  have hi' := (List.getElem?_eq_some_iff.1 hi).1
  rw [List.length_take] at hi'
  rw [List.getElem?_take, if_pos (by omega)] at hi
  obtain ⟨h1, h2⟩ := List.getElem?_eq_some_iff.1 hi
  obtain ⟨h3, h4⟩ := List.getElem?_eq_some_iff.1 hx
  have := (List.getElem_inj (h₀ := h1) (h₁ := h3) h).1 (h2.trans h4.symm)
  omega
end Go.Proofs.Ytecmgiihacigaaa

namespace Go.Proofs.Ytecmgiihacigaaa
open Go.ChangeShapes Go.WideShapes Go.ChangeAt Go.RowKit Go.Maps
set_option linter.unusedVariables false
set_option linter.unusedSimpArgs false
set_option maxRecDepth 100000
attribute [local irreducible] Calls
/-- The list and the places behind emitting expressions one after the other. -/
def compT : List Ex → List Is → List Is × List Int
  | [], L => (L, [])
  | t :: ts, L => ((compT ts (emitT t L).1).1, ((emitT t L).2 : Int) :: (compT ts (emitT t L).1).2)
theorem compT_app : ∀ (ts us : List Ex) (L : List Is), compT (ts ++ us) L = ((compT us (compT ts L).1).1, (compT ts L).2 ++ (compT us (compT ts L).1).2)
  | [], us, L => rfl
  | t :: ts, us, L => by
    show compT (t :: (ts ++ us)) L = _
    simp only [compT, compT_app ts us (emitT t L).1, List.cons_append]
theorem compT_snoc {ts : List Ex} {k : Nat} {t : Ex} (h : ts[k]? = some t) : compT (ts.take (k + 1)) [] = ((emitT t (compT (ts.take k) []).1).1, (compT (ts.take k) []).2 ++ [((emitT t (compT (ts.take k) []).1).2 : Int)]) := by
  rw [List.take_add_one, h]
  show compT (ts.take k ++ [t]) [] = _
  rw [compT_app]
  rfl
theorem compT_le : ∀ (ts : List Ex) (L : List Is), L.length ≤ (compT ts L).1.length ∧ (compT ts L).2.length = ts.length
  | [], L => ⟨Nat.le_refl _, rfl⟩
  | t :: ts, L => by
    have h := compT_le ts (emitT t L).1
    have h1 := (emitT_len t L).1
    exact ⟨Nat.le_trans h1 h.1, by show (compT ts (emitT t L).1).2.length + 1 = _; rw [h.2]; rfl⟩
theorem compT_take (ts : List Ex) (k : Nat) : (compT (ts.take k) []).1.length ≤ (compT ts []).1.length := by
  have h := compT_app (ts.take k) (ts.drop k) []
  rw [List.take_append_drop] at h
  rw [h]
  exact (compT_le _ _).1
theorem info_int : (Try.prog.info? 3).map (fun i => (i.zero, i.size, i.bytes)) = some (some (.int .i64 0), 1, 8) := by kernel_rfl
end Go.Proofs.Ytecmgiihacigaaa

namespace Go.Proofs.Ytecmgiihacigaaa
open Go.ChangeShapes Go.WideShapes Go.ChangeAt Go.RowKit Go.Maps
set_option linter.unusedVariables false
set_option linter.unusedSimpArgs false
set_option maxRecDepth 100000
attribute [local irreducible] Calls
theorem alloc_sz (w : World) (o : Obj) : (w.alloc o).heap.size = w.heap.size + 1 := Array.size_push _
theorem own_base {B B' n sz : Nat} {W : World} {v : Value} {t : TypeId} {xs : List Value} (h : W.ownsRow B t sz v n xs) (hB : B' ≤ B) : W.ownsRow B' t sz v n xs := by
  refine ⟨h.1, h.2.imp id ?_⟩
  rintro ⟨g, cap, cur, e, hg, rest⟩
  exact ⟨g, cap, cur, e, Nat.le_trans hB hg, rest⟩
theorem own_setT {B n sz X : Nat} {W : World} {v : Value} {t t' : TypeId} {cs : Array Value} {z : Nat × Nat} {xs : List Value} (h : W.ownsRow B t sz v n xs) (hX : W.heap[X]? = some (.cells cs t' z)) (ht : t' ≠ t) (o : Nat) (y : Value) : (W.setCell ⟨X, o, none⟩ y).ownsRow B t sz v n xs := by
  refine h.kept (grownBy_setN W ⟨X, o, none⟩ y) (own_ne fun g hg e => ?_)
  rcases id h.2 with ⟨e1, _⟩ | ⟨g', cap, cur, e1, _, hh, _⟩
  · rw [e1] at hg; simp [Value.ownBlock] at hg
  · rw [e1] at hg
    simp only [Value.ownBlock, Option.some.injEq] at hg
    rw [hg, e, hX] at hh
    simp only [Option.some.injEq, Obj.cells.injEq] at hh
    exact ht hh.2.1
theorem one_i64' (n : Int) : ∀ u ∈ [Value.int .i64 n], u.oneCell' = true := by
  intro u hu
  simp at hu
  subst hu
  rfl
theorem own_ints {B n : Nat} {w : World} {v : Value} {xs : List Value} (h : w.ownsRow B 3 1 v n xs) : ∃ p c, v = .slice p n c := by
  rcases id h.2 with ⟨rfl, h0⟩ | ⟨g, cap, cur, rfl, _⟩
  · have h1 := h.1
    rw [h0] at h1
    subst h0
    exact ⟨none, 0, rfl⟩
  · exact ⟨_, _, rfl⟩
end Go.Proofs.Ytecmgiihacigaaa
