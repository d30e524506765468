/-
  ode.extent; Clone of nodes.
  ode.Operands.
  Package tape: the list of instructions with its map of indices.
  Package tape: newList, indexOf.
  Expressions as trees; what emitting them makes; what an emission leaves.
-/
import Derived.Test.YtecmgiihacigaaaU1
import Derived.Laws.AppendOwnNone
import Derived.DeepKeys4
import Derived.Maps.OwnSet
import Derived.Maps.AppendAt
import Derived.Test.YtecmgiihacigaaaPredL
import Derived.Deep.RegionLaw
namespace Go.Proofs.Ytecmgiihacigaaa
open Go.ChangeShapes Go.WideShapes Go.ChangeAt Go.RowKit
set_option linter.unusedVariables false
set_option linter.unusedSimpArgs false
set_option maxRecDepth 100000
attribute [local irreducible] Calls
def exGo : List Nd → Int → Nat → Nat
  | [], _, i => i
  | x :: r, M, i => if M + (arI x.op - 1) = 0 then i + 1 else exGo r (M + (arI x.op - 1)) (i + 1)
theorem exGo_le : ∀ (l : List Nd) (M : Int) (i : Nat), exGo l M i ≤ i + l.length ∧ i ≤ exGo l M i
  | [], _, i => ⟨Nat.le_refl _, Nat.le_refl _⟩
  | x :: r, M, i => by
    unfold exGo
    split
    · simp only [List.length_cons]; omega
    · have h := exGo_le r (M + (arI x.op - 1)) (i + 1)
      simp only [List.length_cons]; omega
theorem encN_one (l : List Nd) : ∀ u ∈ cr encN l, u.oneCell' = true := by
  intro u hu
  unfold cr at hu
  obtain ⟨t, _, h⟩ := List.mem_flatMap.1 hu
  simp only [encN, List.mem_cons, List.not_mem_nil, or_false] at h
  rcases h with rfl | rfl | rfl | rfl <;> rfl
/-- Nodes in a slice with room: the length is within the capacity, nil has none. -/
def NxC (w : World) (v : Value) (l : List Nd) : Prop := Nx w v l ∧ ∃ p c, v = .slice p l.length c ∧ l.length ≤ c ∧ (p = none → c = 0)
theorem grows_nxc : Grows NxC := fun _ _ _ _ h hb => ⟨h.1.grow hb, h.2⟩
theorem nxc_own {W : World} {B : Nat} {v : Value} {l : List Nd} {t : TypeId} (h : W.ownsRow B t 4 v l.length (cr encN l)) (hl : l.length ≤ maxLen) : NxC W v l := by
  refine ⟨Rx.own encN_len h hl, ?_⟩
  rcases id h.2 with ⟨e, h0⟩ | ⟨g, cap, cur, e, _, _, hc, _⟩
  · exact ⟨none, 0, by rw [e, h0], by omega, fun _ => rfl⟩
  · exact ⟨_, cap, e, hc, fun h => by cases h⟩
theorem grown_belowN {W W' : World} (h : Below W.heap.size W W') : W.grownBy W' none := ⟨h.os, h.tape, h.output, h.size, fun k hk _ => h.block k hk⟩
theorem own_keptN {W W' : World} {B n size : Nat} {e : TypeId} {v : Value} {xs : List Value} (h : W.ownsRow B e size v n xs) (hB : Below W.heap.size W W') : W'.ownsRow B e size v n xs := by
  refine h.kept (grown_belowN hB) ?_
  cases v.ownBlock with
  | none => exact .inl rfl
  | some k => exact .inr (by simp)
end Go.Proofs.Ytecmgiihacigaaa

namespace Go.Proofs.Ytecmgiihacigaaa
open Go.ChangeShapes Go.WideShapes Go.ChangeAt Go.RowKit
set_option linter.unusedVariables false
set_option linter.unusedSimpArgs false
set_option maxRecDepth 100000
attribute [local irreducible] Calls
theorem one_newN (w : World) (x : Value) (t : TypeId) : ∀ j u, [x][j]? = some u → (w.alloc (.cells #[x] t)).cell? ((⟨w.heap.size, 0, none⟩ : Addr).add j) = some u := by
  intro j u hj
  have hk : j < 1 := by have := (List.getElem?_eq_some_iff.1 hj).1; simpa using this
  obtain rfl : j = 0 := by omega
  cases hj
  simp [Addr.add, go_sem]
def opGo : Nat → List Nd → List (List Nd)
  | 0, _ => []
  | k + 1, r => r.take (exGo r 1 0) :: opGo k (r.drop (exGo r 1 0))
def operands : List Nd → List (List Nd)
  | [] => []
  | x :: r => opGo (arI x.op).toNat r
theorem opGo_len : ∀ (k : Nat) (r : List Nd), (opGo k r).length = k
  | 0, _ => rfl
  | k + 1, r => by simp [opGo, opGo_len k]
end Go.Proofs.Ytecmgiihacigaaa

namespace Go.Proofs.Ytecmgiihacigaaa
open Go.ChangeShapes Go.WideShapes Go.ChangeAt Go.RowKit Go.Maps
set_option linter.unusedVariables false
set_option linter.unusedSimpArgs false
set_option maxRecDepth 100000
/-- An instruction's cells are 64-bit. -/
def W64 (x : Int) : Prop := -9223372036854775808 ≤ x ∧ x ≤ 9223372036854775807
def IW (x : Is) : Prop := W64 x.op ∧ W64 x.a ∧ W64 x.b ∧ W64 x.lo ∧ W64 x.hi
def kI (x : Is) : Lit := .string (keyBytes [.int .i64 x.op, .int .i64 x.a, .int .i64 x.b, .int .i64 x.lo, .int .i64 x.hi])
theorem wf64i {x : Int} (h : W64 x) : (Lit.int .i64 x).wf = true := WalkArith.wf_i64 (by unfold W64 at h; omega)
theorem keyI {x : Is} (h : IW x) : keyOf Try.prog 62 (valI' x) = some (kI x) := by
  obtain ⟨h0, h1, h2, h3, h4⟩ := h
  have w0 := wf64i h0
  have w1 := wf64i h1
  have w2 := wf64i h2
  have w3 := wf64i h3
  have w4 := wf64i h4
  have hkt : Try.prog.keyType 62 = true := by kernel_rfl
  have hce : Try.prog.cellsOf 62 = 5 := by kernel_rfl
  have hcv : Try.prog.cellsOf 45 = 2 := by kernel_rfl
  have hc1 : Try.prog.cellsOf 3 = 1 := by kernel_rfl
  have hc2 : Try.prog.cellsOf 2 = 1 := by kernel_rfl
  have hts : ∃ m, Try.prog.types.size = m + 2 := ⟨Try.prog.types.size - 2, by have : 1 < Try.prog.types.size := of_decide_eq_true (by kernel_rfl); omega⟩
  obtain ⟨m, hm⟩ := hts
  unfold keyOf valI'
  simp only [Try.underlying62]
  rw [if_pos (by simp [hkt, Value.formed, Try.underlying62, hce]), hm]
  unfold Program.keyLits
  simp only [Try.underlying62, Value.cells]
  rw [if_pos ⟨by rw [hce]; rfl, by kernel_rfl⟩]
  simp [List.mapM_cons, hc1, hc2, hcv, hce, Program.keyLits, Try.underlying3, Try.underlying2, Try.underlying45, w0, w1, w2, w3, w4, kI]
  rw [if_pos (by intro i hi; rcases (show i = 0 ∨ i = 1 by omega) with rfl | rfl <;> simp)]
  rfl
theorem lawI : Keyed Try.prog 62 := Keyed.of_law (deep_law (m := 3) (by omega) (by kernel_rfl) (by kernel_rfl) (by kernel_rfl))
theorem kI_inj {x y : Is} (hx : IW x) (hy : IW y) (h : kI x = kI y) : x = y := by
  have e := lawI.inj (keyI hx) (h ▸ keyI hy)
  obtain ⟨a, b, c, d, f⟩ := x
  obtain ⟨a', b', c', d', f'⟩ := y
  simp [valI'] at e
  simp [e]
/-! ### the elements -/
def dN (i : Nat) : DataW Unit := .lit (.int .i64 i)
def elN : Value → Option (DataW Unit × List MemPlace)
  | .int .i64 a => some (.lit (.int .i64 a), [])
  | _ => none
theorem elN_inv {v : Value} {x : DataW Unit} {p : List MemPlace} (h : elN v = some (x, p)) : ∃ a, v = .int .i64 a ∧ x = .lit (.int .i64 a) := by
  unfold elN at h
  split at h
  · rename_i a
    simp only [Option.some.injEq, Prod.mk.injEq] at h
    exact ⟨a, rfl, h.1.symm⟩
  · cases h
/-- The place of an instruction in a list. -/
def idxI (L : List Is) (x : Is) : Nat := L.findIdx (fun y => decide (y = x))
theorem idxI_le (L : List Is) (x : Is) : idxI L x ≤ L.length := List.findIdx_le_length
theorem idxI_mem {L : List Is} {x : Is} : idxI L x < L.length ↔ x ∈ L := by
  unfold idxI
  rw [List.findIdx_lt_length]
  simp
theorem idxI_app {L : List Is} {x y : Is} (h : x ∈ L) : idxI (L ++ [y]) x = idxI L x := by
  unfold idxI
  rw [List.findIdx_append, if_pos (by rw [List.findIdx_lt_length]; exact ⟨x, h, by simp⟩)]
theorem idxI_new {L : List Is} {x : Is} (h : x ∉ L) : idxI (L ++ [x]) x = L.length := by
  unfold idxI
  rw [List.findIdx_append, if_neg (by rw [List.findIdx_lt_length]; rintro ⟨y, hy, e⟩; simp at e; exact h (e ▸ hy))]
  simp
/-- The list behind an instruction emitted, and its place. -/
def emitI (L : List Is) (x : Is) : List Is := if x ∈ L then L else L ++ [x]
theorem emitI_in {L : List Is} {x : Is} (h : x ∈ L) : emitI L x = L := if_pos h
theorem emitI_new {L : List Is} {x : Is} (h : x ∉ L) : emitI L x = L ++ [x] := if_neg h
/-- What the map holds. -/
def KnowL (L : List Is) (D : DataW Unit) : Prop := IsMap D ∧ ∀ x : Is, IW x → Maps.has D (kI x) = decide (x ∈ L) ∧ (x ∈ L → ∀ z, D.atKey (kI x) z = dN (idxI L x))
theorem knowL_start : KnowL [] (.map []) := ⟨isMap_empty, fun x _ => ⟨by simp [Maps.has], fun h => by simp at h⟩⟩
theorem knowL_put {L : List Is} {D : DataW Unit} (h : KnowL L D) {x : Is} (hx : IW x) (hn : x ∉ L) : KnowL (L ++ [x]) (D.put (kI x) (dN L.length)) := by
  have hk : WideAt.IsKeyLit (kI x) := trivial
  refine ⟨h.1.put _ _, fun y hy => ?_⟩
  by_cases q : y = x
  · subst q
    refine ⟨?_, fun _ z => ?_⟩
    · rw [has_put_same h.1 hk]
      simp
    · rw [atKey_put_same h.1 hk, idxI_new hn]
  · have q' : kI y ≠ kI x := fun e => q (kI_inj hy hx e)
    refine ⟨?_, fun hm z => ?_⟩
    · rw [has_put_other q', (h.2 y hy).1]
      simp [q]
    · have hm' : y ∈ L := by
        rcases List.mem_append.1 hm with e | e
        · exact e
        · exact absurd (List.mem_singleton.1 e) q
      rw [atKey_put_other q', (h.2 y hy).2 hm', idxI_app hm']
end Go.Proofs.Ytecmgiihacigaaa

namespace Go.Proofs.Ytecmgiihacigaaa
open Go.ChangeShapes Go.WideShapes Go.ChangeAt Go.RowKit Go.Maps
set_option linter.unusedVariables false
set_option linter.unusedSimpArgs false
set_option maxRecDepth 100000
attribute [local irreducible] Calls
/-- append onto a row of the call's own, as one step of a region that draws. -/
theorem step_append_ownN {P : Program} {ops : Array Oper} {o : Oper} {a : Act} {w : World} {K : Act → World → Prop} {Q : Exit → Act → World → Prop} {E : Prop}
    (hg : o.guard = none) (s x : Operand) (t : TypeId) (hop : o.op = Op.call { callee := Callee.builtin Builtin.append, args := #[s, x], argTypes := #[t, t] })
    (base : Nat) (e : TypeId) (i : TypeInfo) (z : Value) (size bytes : Nat) (h1 : P.underlying t = some (.slice e)) (h2 : P.info? e = some i) (h3 : i.zero = some z) (h4 : i.size = size) (h5 : i.bytes = bytes) (h6 : z.cells.size = size) (h7 : 0 < size)
    (v : Value) (n : Nat) (xs : List Value) (hs : a.eval s = v) (hown : w.ownsRow base e size v n xs)
    (ad : Addr) (m c : Nat) (news : List Value) (hx : a.eval x = .slice (some ad) m c) (hn : news.length = m * size) (hc : ∀ j u, news[j]? = some u → w.cell? (ad.add j) = some u) (h1c : ∀ u ∈ news, u.oneCell' = true)
    (b1 : n + m ≤ maxLen) (b2 : (n + m) * bytes ≤ 140737488355328) (hb : base ≤ w.heap.size) (hm : 0 < m)
    (hK : ∀ p' c' w', w'.ownsRow base e size (.slice p' (n + m) c') (n + m) (xs ++ news) → w.grownBy w' v.ownBlock → ((Value.slice p' (n + m) c').ownBlock = v.ownBlock ∨ (Value.slice p' (n + m) c').ownBlock = some w.heap.size) → K (a.put o.dst (.slice p' (n + m) c')) w') :
    if Region.wanted o (yielded ops a.tmps) = true then Oper.wp P o a w K Q else E := by
  have hw : Region.wanted o (yielded ops a.tmps) = true := by simp [Region.wanted, hg]
  rw [if_pos hw]
  obtain ⟨v', w', hrun, r1, r2, _, r3⟩ := run_append_own_at (P := P) w base t o.type e i z size bytes h1 h2 h3 h4 h5 h6 h7 v n xs hown ad m c news hn hc h1c b1 b2 hb
  unfold Oper.wp
  simp [execOp, hop, resolve, invoke, builtin, hs, hx, hrun, Result.andThen]
  obtain ⟨p', c', rfl⟩ : ∃ p c, v' = .slice p (n + m) c := by
    rcases id r1.2 with ⟨e, h0⟩ | ⟨g, cap, cur, e, _⟩
    · exact absurd h0 (by omega)
    · exact ⟨_, _, e⟩
  exact hK p' c' w' r1 r2 r3
theorem cellsT_setN {W : World} {b o : Nat} {cs : Array Value} {t : TypeId} {z : Nat × Nat} {u : Value} (h : W.heap[b]? = some (.cells cs t z)) : (W.setCell ⟨b, o, none⟩ u).heap[b]? = some (.cells (cs.setIfInBounds o u) t z) := by
  obtain ⟨hlt, hk⟩ := Array.getElem?_eq_some_iff.1 h
  show (W.heap.modify b _)[b]? = _
  rw [Array.getElem?_eq_getElem (by rw [Array.size_modify]; exact hlt), Array.getElem_modify_self, hk]
  rfl
/-- What a list's emissions leave: all but the list's own three blocks. -/
structure Ext (bl bm : Nat) (u u' : Value) (W W' : World) : Prop where
  os : W'.os = W.os
  tape : W'.tape = W.tape
  output : W'.output = W.output
  size : W.heap.size ≤ W'.heap.size
  blk : ∀ k, k < W.heap.size → k ≠ bl → k ≠ bm → some k ≠ u.ownBlock → W'.heap[k]? = W.heap[k]?
  own : ∀ g, u'.ownBlock = some g → u.ownBlock = some g ∨ W.heap.size ≤ g
theorem Ext.of {bl bm : Nat} {u : Value} {W W' : World} (h : Below W.heap.size W W') : Ext bl bm u u W W' :=
  have g := grown_belowN h
  ⟨g.os, g.tape, g.output, g.size, fun k hk _ _ _ => g.block k hk (by simp), fun _ h => .inl h⟩
theorem Ext.trans {bl bm : Nat} {u u' u'' : Value} {W W' W'' : World} (h : Ext bl bm u u' W W') (k : Ext bl bm u' u'' W' W'') : Ext bl bm u u'' W W'' :=
  ⟨k.os.trans h.os, k.tape.trans h.tape, k.output.trans h.output, Nat.le_trans h.size k.size, fun j hj h1 h2 h3 => (k.blk j (Nat.lt_of_lt_of_le hj h.size) h1 h2 (fun e => by
    rcases h.own j e.symm with h4 | h4
    · exact h3 h4.symm
    · omega)).trans (h.blk j hj h1 h2 h3), fun g hg => by
    rcases k.own g hg with h4 | h4
    · exact h.own g h4
    · exact .inr (Nat.le_trans h.size h4)⟩
section
variable {B bl bm : Nat} {u : Value} {L : List Is} {W : World}
theorem grownBy_setN (W : World) (a : Addr) (v : Value) : W.grownBy (W.setCell a v) (some a.block) := ⟨rfl, rfl, rfl, (KeepsWalks.setCell W _ v).size, fun k _ hk => Below.heap_setCell _ _ _ k (fun e => hk (by rw [e]))⟩
end
theorem heapN_cell {W : World} {b k : Nat} {cs : Array Value} {t : TypeId} {z : Nat × Nat} {u : Value} (h : W.heap[b]? = some (.cells cs t z)) (hk : cs[k]? = some u) : W.cell? ⟨b, k, none⟩ = some u := by
  simp [World.cell?, h, hk]
theorem grown_ad {W0 W6 : World} {o : Obj} {r : Option Nat} (hg : ((W0.alloc o).drew.drew).grownBy W6 r) : W0.grownBy W6 r :=
  ⟨hg.os, hg.tape, hg.output, Nat.le_trans (by simp) hg.size, fun k hk hr => (hg.block k (by simp; omega) hr).trans (Below.heap_alloc W0 o k hk)⟩
theorem info_is : (Try.prog.info? 62).map (fun i => (i.zero, i.size, i.bytes)) = some (some (.agg #[.int .i64 0, .int .i64 0, .int .i64 0, .int .i64 0, .int .i64 0]), 5, 40) := by kernel_rfl
theorem new_i (w : World) (x : Is) : ∀ j u, (encI x)[j]? = some u → (w.alloc (.cells #[.int .i64 x.op, .int .i64 x.a, .int .i64 x.b, .int .i64 x.lo, .int .i64 x.hi] 62)).cell? ((⟨w.heap.size, 0, none⟩ : Addr).add j) = some u := by
  intro j u hj
  have hk : j < 5 := by have := (List.getElem?_eq_some_iff.1 hj).1; simpa [encI] using this
  unfold encI at hj
  match j, hk, hj with
  | 0, _, hj => cases hj; simp [Addr.add, go_sem]
  | 1, _, hj => cases hj; simp [Addr.add, go_sem]
  | 2, _, hj => cases hj; simp [Addr.add, go_sem]
  | 3, _, hj => cases hj; simp [Addr.add, go_sem]
  | 4, _, hj => cases hj; simp [Addr.add, go_sem]
theorem one_i (x : Is) : ∀ u ∈ encI x, u.oneCell' = true := by
  intro u hu
  simp only [encI, List.mem_cons, List.not_mem_nil, or_false] at hu
  rcases hu with rfl | rfl | rfl | rfl | rfl <;> rfl
end Go.Proofs.Ytecmgiihacigaaa

namespace Go.Proofs.Ytecmgiihacigaaa
open Go.ChangeShapes Go.WideShapes Go.ChangeAt Go.RowKit Go.Maps
set_option linter.unusedVariables false
set_option linter.unusedSimpArgs false
set_option maxRecDepth 100000
attribute [local irreducible] Calls
/-- An expression: a root and up to two operands. -/
inductive Ex where
  | e0 (x : Nd)
  | e1 (x : Nd) (a : Ex)
  | e2 (x : Nd) (a b : Ex)
/-- The nodes of an expression in prefix order. -/
def pre : Ex → List Nd
  | .e0 x => [x]
  | .e1 x a => x :: pre a
  | .e2 x a b => x :: (pre a ++ pre b)
/-- Every root has the operands that its operation asks for. -/
def Ar : Ex → Prop
  | .e0 x => arI x.op = 0
  | .e1 x a => arI x.op = 1 ∧ Ar a
  | .e2 x a b => arI x.op = 2 ∧ Ar a ∧ Ar b
theorem pre_pos : ∀ t : Ex, 0 < (pre t).length
  | .e0 _ => by simp [pre]
  | .e1 _ _ => by simp [pre]
  | .e2 _ _ _ => by simp [pre]
theorem exGo_cons (x : Nd) (r : List Nd) (M : Int) (i : Nat) : exGo (x :: r) M i = if M + (arI x.op - 1) = 0 then i + 1 else exGo r (M + (arI x.op - 1)) (i + 1) := rfl
theorem ex_pre : ∀ (t : Ex) (r : List Nd) (M : Int) (i : Nat), Ar t → 1 ≤ M → exGo (pre t ++ r) M i = if M = 1 then i + (pre t).length else exGo r (M - 1) (i + (pre t).length)
  | .e0 x, r, M, i, h, hM => by
    unfold Ar at h
    show exGo (x :: r) M i = _
    rw [exGo_cons, h]
    by_cases h1 : M = 1
    · rw [if_pos (by omega), if_pos h1]; rfl
    · rw [if_neg (by omega), if_neg h1]
      show exGo r (M + (0 - 1)) (i + 1) = exGo r (M - 1) (i + 1)
      rw [show M + (0 - 1) = M - 1 by omega]
  | .e1 x a, r, M, i, h, hM => by
    unfold Ar at h
    show exGo (x :: (pre a ++ r)) M i = _
    rw [exGo_cons, h.1, if_neg (by omega), show M + (1 - 1) = M by omega, ex_pre a r M (i + 1) h.2 hM]
    have e : (pre (.e1 x a)).length = (pre a).length + 1 := by simp [pre]
    rw [e, show i + 1 + (pre a).length = i + ((pre a).length + 1) by omega]
  | .e2 x a b, r, M, i, h, hM => by
    unfold Ar at h
    show exGo (x :: ((pre a ++ pre b) ++ r)) M i = _
    rw [exGo_cons, h.1, if_neg (by omega), show M + (2 - 1) = M + 1 by omega, List.append_assoc, ex_pre a (pre b ++ r) (M + 1) (i + 1) h.2.1 (by omega), if_neg (by omega), show M + 1 - 1 = M by omega, ex_pre b r M _ h.2.2 hM]
    have e : (pre (.e2 x a b)).length = (pre a).length + (pre b).length + 1 := by simp [pre]
    rw [e, show i + 1 + (pre a).length + (pre b).length = i + ((pre a).length + (pre b).length + 1) by omega]
theorem ex_one {t : Ex} (h : Ar t) (r : List Nd) : exGo (pre t ++ r) 1 0 = (pre t).length := by
  rw [ex_pre t r 1 0 h (by omega), if_pos rfl, Nat.zero_add]
theorem ops0 {x : Nd} (h : Ar (.e0 x)) : operands (pre (.e0 x)) = [] := by
  unfold Ar at h
  show opGo (arI x.op).toNat [] = []
  rw [h]; rfl
theorem ops1 {x : Nd} {a : Ex} (h : Ar (.e1 x a)) : operands (pre (.e1 x a)) = [pre a] := by
  unfold Ar at h
  show opGo (arI x.op).toNat (pre a) = _
  rw [h.1]
  show (pre a).take (exGo (pre a) 1 0) :: opGo 0 _ = _
  have e := ex_one h.2 []
  rw [List.append_nil] at e
  rw [e, List.take_length]
  rfl
theorem ops2 {x : Nd} {a b : Ex} (h : Ar (.e2 x a b)) : operands (pre (.e2 x a b)) = [pre a, pre b] := by
  unfold Ar at h
  show opGo (arI x.op).toNat (pre a ++ pre b) = _
  rw [h.1]
  show (pre a ++ pre b).take (exGo (pre a ++ pre b) 1 0) :: opGo 1 ((pre a ++ pre b).drop (exGo (pre a ++ pre b) 1 0)) = _
  rw [ex_one h.2.1 (pre b), List.take_left, List.drop_left]
  show _ :: (pre b).take (exGo (pre b) 1 0) :: opGo 0 _ = _
  have e := ex_one h.2.2 []
  rw [List.append_nil] at e
  rw [e, List.take_length]
  rfl
/-- The list and the place behind emitting an expression. -/
def emitT : Ex → List Is → List Is × Nat
  | .e0 x, L => (emitI L ⟨x.op, x.n, 0, x.lo, x.hi⟩, idxI (emitI L ⟨x.op, x.n, 0, x.lo, x.hi⟩) ⟨x.op, x.n, 0, x.lo, x.hi⟩)
  | .e1 x a, L => (emitI (emitT a L).1 ⟨x.op, (emitT a L).2, 0, x.lo, x.hi⟩, idxI (emitI (emitT a L).1 ⟨x.op, (emitT a L).2, 0, x.lo, x.hi⟩) ⟨x.op, (emitT a L).2, 0, x.lo, x.hi⟩)
  | .e2 x a b, L => (emitI (emitT b (emitT a L).1).1 ⟨x.op, (emitT a L).2, (emitT b (emitT a L).1).2, x.lo, x.hi⟩, idxI (emitI (emitT b (emitT a L).1).1 ⟨x.op, (emitT a L).2, (emitT b (emitT a L).1).2, x.lo, x.hi⟩) ⟨x.op, (emitT a L).2, (emitT b (emitT a L).1).2, x.lo, x.hi⟩)
theorem emitI_len (L : List Is) (x : Is) : L.length ≤ (emitI L x).length ∧ (emitI L x).length ≤ L.length + 1 := by
  unfold emitI
  split
  · omega
  · simp
theorem emitI_idx (L : List Is) (x : Is) : idxI (emitI L x) x < (emitI L x).length := by
  rw [idxI_mem]
  unfold emitI
  split
  · assumption
  · simp
theorem emitT_len : ∀ (t : Ex) (L : List Is), L.length ≤ (emitT t L).1.length ∧ (emitT t L).1.length ≤ L.length + (pre t).length ∧ (emitT t L).2 < (emitT t L).1.length
  | .e0 x, L => by
    have h := emitI_len L ⟨x.op, x.n, 0, x.lo, x.hi⟩
    exact ⟨h.1, h.2, emitI_idx _ _⟩
  | .e1 x a, L => by
    have h1 := emitT_len a L
    have h := emitI_len (emitT a L).1 ⟨x.op, (emitT a L).2, 0, x.lo, x.hi⟩
    have e : (pre (.e1 x a)).length = (pre a).length + 1 := by simp [pre]
    exact ⟨Nat.le_trans h1.1 h.1, by rw [e]; exact Nat.le_trans h.2 (by omega), emitI_idx _ _⟩
  | .e2 x a b, L => by
    have h1 := emitT_len a L
    have h2 := emitT_len b (emitT a L).1
    have h := emitI_len (emitT b (emitT a L).1).1 ⟨x.op, (emitT a L).2, (emitT b (emitT a L).1).2, x.lo, x.hi⟩
    have e : (pre (.e2 x a b)).length = (pre a).length + (pre b).length + 1 := by simp [pre]
    exact ⟨Nat.le_trans h1.1 (Nat.le_trans h2.1 h.1), by rw [e]; exact Nat.le_trans h.2 (by omega), emitI_idx _ _⟩
/-- Nodes whose cells are 64-bit. -/
def NW (x : Nd) : Prop := W64 x.op ∧ W64 x.n ∧ W64 x.lo ∧ W64 x.hi
section
variable {B bl bm : Nat} {u u' : Value} {L : List Is} {W W' : World}
end
end Go.Proofs.Ytecmgiihacigaaa
