/-
  U1
-/
import Derived.Test.YtbppfohcicepcaaGreatKba
import Derived.Test.YtbppfohcicepcaaGreatKbb
import Derived.Test.YtbppfohcicepcaaGreatKbd
import Derived.Test.YtbppfohcicepcaaGreatKbe
import Derived.OwnWalk
import Derived.RangeFuncBox
import Derived.RangeFuncRecord
import Derived.Laws.AppendOwn
namespace Go.Proofs.YtbppfohcicepcaaGreat
open Go.ChangeShapes Go.WideShapes Go.ChangeAt Go.RowKit
set_option linter.unusedVariables false
set_option linter.unusedSimpArgs false
set_option maxRecDepth 100000
theorem wrapN (n : Int) (h1 : -9223372036854775808 ≤ n) (h2 : n ≤ 9223372036854775807) : IntKind.i64.wrap n = n := by
  unfold IntKind.wrap
  simp [IntKind.signed, IntKind.bits]
  omega
/-- The slice v holds the records l, each of sz cells. -/
def Rx {α : Type} (enc : α → List Value) (sz : Nat) (w : World) (v : Value) (l : List α) : Prop := l.length ≤ maxLen ∧ ∃ p cap, v = .slice p l.length cap ∧
  ∀ i x, l[i]? = some x → ∃ b o, p = some ⟨b, o, none⟩ ∧ b < w.heap.size ∧ ∀ j u, (enc x)[j]? = some u → w.cell? ⟨b, o + i * sz + j, none⟩ = some u
section
variable {α : Type} {enc : α → List Value} {sz : Nat}
theorem Rx.grow {w w' : World} {v : Value} {l : List α} (h : Rx enc sz w v l) (hb : Below w.heap.size w w') : Rx enc sz w' v l := by
  obtain ⟨h1, p, c, rfl, h2⟩ := h
  refine ⟨h1, p, c, rfl, fun i x hx => ?_⟩
  obtain ⟨b, o, rfl, h3, h4⟩ := h2 i x hx
  exact ⟨b, o, rfl, Nat.lt_of_lt_of_le h3 hb.size, fun j u hu => (hb.cell (p := ⟨b, o + i * sz + j, none⟩) h3).trans (h4 j u hu)⟩
theorem Rx.nil (w : World) (p : Option Addr) (c : Nat) : Rx enc sz w (.slice p 0 c) [] := ⟨Nat.zero_le _, p, c, rfl, fun i x h => by simp at h⟩
theorem Rx.cut {w : World} {v : Value} {l : List α} (h : Rx enc sz w v l) : ∃ p c, v = .slice p l.length c := by
  obtain ⟨_, p, c, e, _⟩ := h
  exact ⟨p, c, e⟩
theorem Rx.rd {w : World} {p : Option Addr} {n c i : Nat} {l : List α} {x : α} (h : Rx enc sz w (.slice p n c) l) (hx : l[i]? = some x) : ∃ b o, p = some ⟨b, o, none⟩ ∧ b < w.heap.size ∧ ∀ (g : Grown w) (j : Nat) (u : Value), (enc x)[j]? = some u → g.w.cell? ⟨b, o + i * sz + j, none⟩ = some u := by
  obtain ⟨_, q, c', e, h⟩ := h
  obtain ⟨b, o, hq, h1, h2⟩ := h i x hx
  simp only [Value.slice.injEq] at e
  exact ⟨b, o, e.1.trans hq, h1, fun g j u hu => (g.cell h1).trans (h2 j u hu)⟩
/-- The cells of a row of records. -/
def cr (enc : α → List Value) (l : List α) : List Value := l.flatMap enc
theorem cr_snoc (l : List α) (t : α) : cr enc (l ++ [t]) = cr enc l ++ enc t := by simp [cr]
theorem cr_get (hsz : ∀ x, (enc x).length = sz) : ∀ {l : List α} (i : Nat) (x : α), l[i]? = some x → ∀ j u, (enc x)[j]? = some u → (cr enc l)[i * sz + j]? = some u
  | [], i, x, h, _, _, _ => by simp at h
  | t :: l, i, x, h, j, u, hu => by
    have e1 := hsz t
    show (enc t ++ cr enc l)[i * sz + j]? = some u
    match i with
    | 0 =>
      simp only [List.getElem?_cons_zero, Option.some.injEq] at h
      subst h
      rw [Nat.zero_mul, Nat.zero_add, List.getElem?_append_left (List.getElem?_eq_some_iff.1 hu).1]
      exact hu
    | i + 1 =>
      rw [List.getElem?_cons_succ] at h
      have e2 := cr_get hsz (l := l) i x h j u hu
      have e3 : (i + 1) * sz + j - sz = i * sz + j := by rw [Nat.add_mul, Nat.one_mul]; omega
      rw [List.getElem?_append_right (by rw [e1, Nat.add_mul, Nat.one_mul]; omega), e1, e3]
      exact e2
theorem cr_len (hsz : ∀ x, (enc x).length = sz) : ∀ l : List α, (cr enc l).length = l.length * sz
  | [] => by simp [cr]
  | t :: l => by
    have e1 := hsz t
    have e2 := cr_len hsz l
    show (enc t ++ cr enc l).length = _
    rw [List.length_append, e1, e2, List.length_cons, Nat.add_mul, Nat.one_mul, Nat.add_comm]
theorem cr_inv (hsz : ∀ x, (enc x).length = sz) : ∀ {l : List α} (j : Nat) (u : Value), (cr enc l)[j]? = some u → ∃ i x j', l[i]? = some x ∧ (enc x)[j']? = some u ∧ j = i * sz + j'
  | [], j, u, h => by simp [cr] at h
  | t :: l, j, u, h => by
    have e1 := hsz t
    change (enc t ++ cr enc l)[j]? = some u at h
    by_cases hj : j < sz
    · rw [List.getElem?_append_left (by omega)] at h
      exact ⟨0, t, j, rfl, h, by omega⟩
    · rw [List.getElem?_append_right (by omega), e1] at h
      obtain ⟨i, x, j', h1, h2, h3⟩ := cr_inv hsz _ _ h
      exact ⟨i + 1, x, j', by simpa using h1, h2, by rw [Nat.add_mul, Nat.one_mul]; omega⟩
theorem Rx.flat (hsz : ∀ x, (enc x).length = sz) {w : World} {b o n c : Nat} {l : List α} (h : Rx enc sz w (.slice (some ⟨b, o, none⟩) n c) l) (j : Nat) (u : Value) (hu : (cr enc l)[j]? = some u) : w.cell? ⟨b, o + j, none⟩ = some u := by
  obtain ⟨i, x, j', h1, h2, h3⟩ := cr_inv hsz j u hu
  obtain ⟨_, q, c', e, h4⟩ := h
  obtain ⟨b', o', hq, _, h5⟩ := h4 i x h1
  simp only [Value.slice.injEq] at e
  have e2 := e.1.trans hq
  simp only [Option.some.injEq, Addr.mk.injEq, and_true] at e2
  obtain ⟨rfl, rfl⟩ := e2
  rw [h3, ← Nat.add_assoc]
  exact h5 j' u h2
theorem Rx.drop {w : World} {b o n c k c' : Nat} {q : Option Addr} {l : List α} (h : Rx enc sz w (.slice (some ⟨b, o, none⟩) n c) l) (hk : k ≤ n) (hq : k < n → q = some ⟨b, o + k * sz, none⟩) : Rx enc sz w (.slice q (n - k) c') (l.drop k) := by
  obtain ⟨h1, p, c1, e, h2⟩ := h
  simp only [Value.slice.injEq] at e
  obtain ⟨e1, e2, _⟩ := e
  refine ⟨by rw [List.length_drop]; omega, q, c', by rw [List.length_drop, e2], fun i x hx => ?_⟩
  rw [List.getElem?_drop] at hx
  obtain ⟨b', o', hp, h3, h4⟩ := h2 (k + i) x hx
  have hl := (List.getElem?_eq_some_iff.1 hx).1
  have e3 := e1.trans hp
  simp only [Option.some.injEq, Addr.mk.injEq, and_true] at e3
  obtain ⟨rfl, rfl⟩ := e3
  refine ⟨b, o + k * sz, hq (by omega), h3, fun j u hu => ?_⟩
  have h6 := h4 j u hu
  rw [Nat.add_mul] at h6
  rw [show o + k * sz + i * sz + j = o + (k * sz + i * sz) + j by omega]
  exact h6
theorem Rx.take {w : World} {p : Option Addr} {n c k c' : Nat} {l : List α} (h : Rx enc sz w (.slice p n c) l) (hk : k ≤ n) : Rx enc sz w (.slice p k c') (l.take k) := by
  obtain ⟨h1, p', c1, e, h2⟩ := h
  simp only [Value.slice.injEq] at e
  obtain ⟨rfl, rfl, _⟩ := e
  refine ⟨by rw [List.length_take]; omega, p, c', by rw [List.length_take, Nat.min_eq_left hk], fun i x hx => ?_⟩
  have hi := (List.getElem?_eq_some_iff.1 hx).1
  rw [List.length_take] at hi
  rw [List.getElem?_take, if_pos (by omega)] at hx
  exact h2 i x hx
theorem Rx.own (hsz : ∀ x, (enc x).length = sz) {W : World} {B : Nat} {v : Value} {l : List α} {t : TypeId} (h : W.ownsRow B t sz v l.length (cr enc l)) (hl : l.length ≤ maxLen) : Rx enc sz W v l := by
  refine ⟨hl, ?_⟩
  rcases id h.2 with ⟨e, h0⟩ | ⟨g, cap, cur, e, _⟩
  · have : l = [] := List.length_eq_zero_iff.1 h0
    subst this
    exact ⟨none, 0, e, fun i x hx => by simp at hx⟩
  · refine ⟨some ⟨g, 0, none⟩, cap, e, fun i x hx => ⟨g, 0, rfl, (h.lt g (by rw [e]; rfl)).2, fun j u hu => ?_⟩⟩
    have hi := (List.getElem?_eq_some_iff.1 hx).1
    have hj : j < sz := by
      have := (List.getElem?_eq_some_iff.1 hu).1
      rw [hsz x] at this
      exact this
    subst e
    have hm : i * sz + j < l.length * sz := by
      have h1 : (i + 1) * sz ≤ l.length * sz := Nat.mul_le_mul_right _ hi
      rw [Nat.add_mul, Nat.one_mul] at h1
      omega
    have hc := h.cellAt (i * sz + j) hm
    rw [cr_get hsz i x hx j u hu] at hc
    rw [Nat.zero_add]
    exact hc
/-- A block of records, as a slice. -/
theorem Rx.cells (hsz : ∀ x, (enc x).length = sz) (W : World) (l : List α) (t : TypeId) (hl : l.length ≤ maxLen) : Rx enc sz (W.alloc (.cells (cr enc l).toArray t)) (.slice (some ⟨W.heap.size, 0, none⟩) l.length l.length) l := by
  refine ⟨hl, _, _, rfl, fun i x hx => ⟨_, _, rfl, by simp, fun j u hu => ?_⟩⟩
  have hc := cr_get hsz i x hx j u hu
  rw [Nat.zero_add]
  have hb := World.alloc_heap_new W (.cells (cr enc l).toArray t)
  simp only [World.cell?, hb]
  simpa using hc
end
/-- A node: operation, index, constant. -/
structure Nd where
  op : Int
  n : Int
  lo : Int
  hi : Int
instance : DecidableEq Nd := fun x y => if h : x.op = y.op ∧ x.n = y.n ∧ x.lo = y.lo ∧ x.hi = y.hi then isTrue (by cases x; cases y; simp at h; simp [h]) else isFalse (by rintro rfl; simp at h)
def encN (x : Nd) : List Value := [.int .i64 x.op, .int .i64 x.n, .int .i64 x.lo, .int .i64 x.hi]
theorem encN_len (x : Nd) : (encN x).length = 4 := rfl
/-- An instruction: operation, operands, constant. -/
structure Is where
  op : Int
  a : Int
  b : Int
  lo : Int
  hi : Int
instance : DecidableEq Is := fun x y => if h : x.op = y.op ∧ x.a = y.a ∧ x.b = y.b ∧ x.lo = y.lo ∧ x.hi = y.hi then isTrue (by cases x; cases y; simp at h; simp [h]) else isFalse (by rintro rfl; simp at h)
def encI (x : Is) : List Value := [.int .i64 x.op, .int .i64 x.a, .int .i64 x.b, .int .i64 x.lo, .int .i64 x.hi]
abbrev Nx := Rx encN 4
abbrev Ix := Rx encI 5
def encS (x : ByteArray) : List Value := [.string x]
theorem nd_rd {w : World} {p : Option Addr} {n c i : Nat} {l : List Nd} {x : Nd} (h : Nx w (.slice p n c) l) (hx : l[i]? = some x) : ∃ b o, p = some ⟨b, o, none⟩ ∧ b < w.heap.size ∧ ∀ g : Grown w, g.w.cell? ⟨b, o + i * 4, none⟩ = some (.int .i64 x.op) ∧ g.w.cell? ⟨b, o + i * 4 + 1, none⟩ = some (.int .i64 x.n) ∧ g.w.cell? ⟨b, o + i * 4 + 2, none⟩ = some (.int .i64 x.lo) ∧ g.w.cell? ⟨b, o + i * 4 + 3, none⟩ = some (.int .i64 x.hi) := by
  obtain ⟨b, o, rfl, h1, rd⟩ := h.rd hx
  exact ⟨b, o, rfl, h1, fun g => ⟨rd g 0 _ rfl, rd g 1 _ rfl, rd g 2 _ rfl, rd g 3 _ rfl⟩⟩
/-- Slices of slices. -/
def Lx {α : Type} (P : World → Value → α → Prop) (w : World) (v : Value) (l : List α) : Prop := l.length ≤ maxLen ∧ ∃ p cap, v = .slice p l.length cap ∧
  ∀ k x, l[k]? = some x → ∃ b o u, p = some ⟨b, o, none⟩ ∧ b < w.heap.size ∧ w.cell? ⟨b, o + k, none⟩ = some u ∧ P w u x
def Grows {α : Type} (P : World → Value → α → Prop) : Prop := ∀ (w w' : World) (v : Value) (x : α), P w v x → Below w.heap.size w w' → P w' v x
theorem Lx.grow {α : Type} {P : World → Value → α → Prop} (hP : Grows P) {w w' : World} {v : Value} {l : List α} (h : Lx P w v l) (hb : Below w.heap.size w w') : Lx P w' v l := by
  obtain ⟨hl, p, cap, rfl, h⟩ := h
  refine ⟨hl, p, cap, rfl, fun k x hx => ?_⟩
  obtain ⟨b, o, u, rfl, h1, h2, h3⟩ := h k x hx
  exact ⟨b, o, u, rfl, Nat.lt_of_lt_of_le h1 hb.size, (hb.cell (p := ⟨b, o + k, none⟩) h1).trans h2, hP _ _ _ _ h3 hb⟩
theorem Lx.cut {α : Type} {P : World → Value → α → Prop} {w : World} {v : Value} {l : List α} (h : Lx P w v l) : ∃ p c, v = .slice p l.length c := by
  obtain ⟨_, p, c, e, _⟩ := h
  exact ⟨p, c, e⟩
theorem Lx.rd {α : Type} {P : World → Value → α → Prop} (hP : Grows P) {w : World} {p : Option Addr} {n c j : Nat} {l : List α} {x : α} (h : Lx P w (.slice p n c) l) (hx : l[j]? = some x) : ∃ b o u, p = some ⟨b, o, none⟩ ∧ b < w.heap.size ∧ ∀ g : Grown w, b < g.w.heap.size ∧ g.w.cell? ⟨b, o + j, none⟩ = some u ∧ P g.w u x := by
  obtain ⟨_, q, c', e, h⟩ := h
  obtain ⟨b, o, u, hq, h1, h2, h3⟩ := h j x hx
  simp only [Value.slice.injEq] at e
  exact ⟨b, o, u, e.1.trans hq, h1, fun g => ⟨Nat.lt_of_lt_of_le h1 g.h.size, (g.cell (b := b) h1).trans h2, hP _ _ _ _ h3 g.h⟩⟩
theorem Lx.nil {α : Type} {P : World → Value → α → Prop} {w : World} : Lx P w (.slice none 0 0) ([] : List α) := ⟨by simp, none, 0, rfl, fun k x h => by simp at h⟩
/-- A node, an instruction in a block. -/
def NdC (W : World) (b : Nat) (x : Nd) : Prop := W.heap[b]? = some (.cells #[.int .i64 x.op, .int .i64 x.n, .int .i64 x.lo, .int .i64 x.hi] 63 (0, 0))
theorem NdC.lt {W : World} {b : Nat} {x : Nd} (h : NdC W b x) : b < W.heap.size := (Array.getElem?_eq_some_iff.1 h).1
theorem NdC.c0 {W : World} {b : Nat} {x : Nd} (h : NdC W b x) : W.cell? ⟨b, 0, none⟩ = some (.int .i64 x.op) := by simp [World.cell?, show W.heap[b]? = _ from h]
theorem NdC.c1 {W : World} {b : Nat} {x : Nd} (h : NdC W b x) : W.cell? ⟨b, 1, none⟩ = some (.int .i64 x.n) := by simp [World.cell?, show W.heap[b]? = _ from h]
theorem NdC.c2 {W : World} {b : Nat} {x : Nd} (h : NdC W b x) : W.cell? ⟨b, 2, none⟩ = some (.int .i64 x.lo) := by simp [World.cell?, show W.heap[b]? = _ from h]
theorem NdC.c3 {W : World} {b : Nat} {x : Nd} (h : NdC W b x) : W.cell? ⟨b, 3, none⟩ = some (.int .i64 x.hi) := by simp [World.cell?, show W.heap[b]? = _ from h]
theorem NdC.frozen {W : World} {b : Nat} {x : Nd} (h : NdC W b x) (o : Nat) : W.frozen? ⟨b, o, none⟩ = false := by simp [World.frozen?, show W.heap[b]? = _ from h]
theorem NdC.grow {W W' : World} {b : Nat} {x : Nd} (h : NdC W b x) (hB : Below W.heap.size W W') : NdC W' b x := (hB.block b h.lt).trans h
theorem NdC.new (W : World) (x : Nd) : NdC (W.alloc (.cells #[.int .i64 x.op, .int .i64 x.n, .int .i64 x.lo, .int .i64 x.hi] 63)) W.heap.size x := World.alloc_heap_new W _
end Go.Proofs.YtbppfohcicepcaaGreat
namespace Go.Proofs.YtbppfohcicepcaaGreat
open Go.ChangeShapes Go.WideShapes Go.ChangeAt Go.RowKit
set_option linter.unusedVariables false
set_option linter.unusedSimpArgs false
set_option maxRecDepth 100000
attribute [local irreducible] Calls
def arI (op : Int) : Int := if op = 4 ∨ op = 5 ∨ op = 6 then 1 else if op = 7 ∨ op = 8 ∨ op = 9 ∨ op = 10 then 2 else 0
theorem arI_bd (op : Int) : 0 ≤ arI op ∧ arI op ≤ 2 := by
  unfold arI
  split
  · decide
  · split <;> decide
theorem arity_ok (op : Int) (w : World) : Calls Tryz.prog 95 #[.int .i64 op] w fun e w' => e = .returned (.int .i64 (arI op)) ∧ Below w.heap.size w w' := by
  by_cases h4 : op = 4
  · subst h4
    rw [show arI 4 = 1 by decide]
    go_enter Tryz.func95, Tryz.ntmps95
    go_wp2_with (fail)
    go_ret
    exact ⟨rfl, Below.refl _ _⟩
  have q4 : (op == 4) = false := by simpa using h4
  by_cases h5 : op = 5
  · subst h5
    rw [show arI 5 = 1 by decide]
    go_enter Tryz.func95, Tryz.ntmps95
    go_wp2_with (fail)
    go_ret
    exact ⟨rfl, Below.refl _ _⟩
  have q5 : (op == 5) = false := by simpa using h5
  by_cases h6 : op = 6
  · subst h6
    rw [show arI 6 = 1 by decide]
    go_enter Tryz.func95, Tryz.ntmps95
    go_wp2_with (fail)
    go_ret
    exact ⟨rfl, Below.refl _ _⟩
  have q6 : (op == 6) = false := by simpa using h6
  by_cases h7 : op = 7
  · subst h7
    rw [show arI 7 = 2 by decide]
    go_enter Tryz.func95, Tryz.ntmps95
    go_wp2_with (fail)
    go_ret
    exact ⟨rfl, Below.refl _ _⟩
  have q7 : (op == 7) = false := by simpa using h7
  by_cases h8 : op = 8
  · subst h8
    rw [show arI 8 = 2 by decide]
    go_enter Tryz.func95, Tryz.ntmps95
    go_wp2_with (fail)
    go_ret
    exact ⟨rfl, Below.refl _ _⟩
  have q8 : (op == 8) = false := by simpa using h8
  by_cases h9 : op = 9
  · subst h9
    rw [show arI 9 = 2 by decide]
    go_enter Tryz.func95, Tryz.ntmps95
    go_wp2_with (fail)
    go_ret
    exact ⟨rfl, Below.refl _ _⟩
  have q9 : (op == 9) = false := by simpa using h9
  by_cases h10 : op = 10
  · subst h10
    rw [show arI 10 = 2 by decide]
    go_enter Tryz.func95, Tryz.ntmps95
    go_wp2_with (fail)
    go_ret
    exact ⟨rfl, Below.refl _ _⟩
  have q10 : (op == 10) = false := by simpa using h10
  rw [show arI op = 0 by unfold arI; rw [if_neg (by omega), if_neg (by omega)]]
  go_enter Tryz.func95, Tryz.ntmps95
  go_wp2_with (fail)
  go_ret
  exact ⟨rfl, Below.refl _ _⟩
def vnB (n : Int) (x : Nd) : Bool :=
  if x.op = 1 then decide (x.n = 0) && decide (VI x.lo x.hi)
  else if x.op = 2 then decide (x.lo = 0) && decide (x.hi = 0) && (decide (0 ≤ x.n) && decide (x.n < n))
  else if 3 ≤ x.op ∧ x.op ≤ 10 then decide (x.n = 0) && decide (x.lo = 0) && decide (x.hi = 0) else false
set_option maxHeartbeats 8000000 in
theorem vnode_ok (op k lo hi n : Int) (w : World) : Calls Tryz.prog 113 #[.agg #[.int .i64 op, .int .i64 k, .int .i64 lo, .int .i64 hi], .int .i64 n] w fun e w' => e = .returned (.bool (vnB n ⟨op, k, lo, hi⟩)) ∧ Below w.heap.size w w' := by
  have hb : Below w.heap.size w (w.alloc (.cells #[.int .i64 op, .int .i64 k, .int .i64 lo, .int .i64 hi] 63)) := (Below.refl _ _).alloc (Nat.le_refl _) _
  by_cases h1 : op = 1
  · subst h1
    rw [show vnB n ⟨1, k, lo, hi⟩ = (decide (k = 0) && decide (VI lo hi)) by simp [vnB]]
    by_cases hk : k = 0
    · subst hk
      obtain ⟨R, hR⟩ : ∃ R, decide (VI lo hi) = R := ⟨_, rfl⟩
      have KV := Lib.hid (fun w => iv_valid lo hi R w hR)
      rw [hR, decide_eq_true rfl, Bool.true_and]
      clear hR
      go_enter Tryz.func113, Tryz.ntmps113
      go_wp2_with (fail)
      refine (KV.out _).mono ?_
      rintro e w1 ⟨rfl, hB⟩
      go_wp2_with (fail)
      go_ret
      exact ⟨rfl, below_then hb hB⟩
    · have q1 : (k == 0) = false := by simpa using hk
      rw [decide_eq_false hk, Bool.false_and]
      go_enter Tryz.func113, Tryz.ntmps113
      go_wp2_with (fail)
      go_ret
      exact ⟨rfl, hb⟩
  by_cases h2 : op = 2
  · subst h2
    rw [show vnB n ⟨2, k, lo, hi⟩ = (decide (lo = 0) && decide (hi = 0) && (decide (0 ≤ k) && decide (k < n))) by simp [vnB]]
    by_cases hl : lo = 0
    · subst hl
      by_cases hh : hi = 0
      · subst hh
        rw [decide_eq_true rfl, Bool.true_and, Bool.true_and]
        by_cases hk : 0 ≤ k
        · have hk' : decide (k ≥ 0) = true := by simpa using hk
          rw [decide_eq_true hk, Bool.true_and]
          go_enter Tryz.func113, Tryz.ntmps113
          go_wp2_with (fail)
          go_ret
          exact ⟨rfl, hb⟩
        · have hk' : decide (k ≥ 0) = false := by simpa using hk
          rw [decide_eq_false hk, Bool.false_and]
          go_enter Tryz.func113, Tryz.ntmps113
          go_wp2_with (fail)
          go_ret
          exact ⟨rfl, hb⟩
      · have q1 : (hi == 0) = false := by simpa using hh
        rw [decide_eq_false hh, Bool.and_false, Bool.false_and]
        go_enter Tryz.func113, Tryz.ntmps113
        go_wp2_with (fail)
        go_ret
        exact ⟨rfl, hb⟩
    · have q1 : (lo == 0) = false := by simpa using hl
      rw [decide_eq_false hl, Bool.false_and, Bool.false_and]
      go_enter Tryz.func113, Tryz.ntmps113
      go_wp2_with (fail)
      go_ret
      exact ⟨rfl, hb⟩
  by_cases h3 : op = 3
  · subst h3
    rw [show vnB n ⟨3, k, lo, hi⟩ = (decide (k = 0) && decide (lo = 0) && decide (hi = 0)) by simp [vnB]]
    by_cases hk : k = 0
    · subst hk
      by_cases hl : lo = 0
      · subst hl
        by_cases hh : hi = 0
        · subst hh
          go_enter Tryz.func113, Tryz.ntmps113
          go_wp2_with (fail)
          go_ret
          exact ⟨rfl, hb⟩
        · have q1 : (hi == 0) = false := by simpa using hh
          rw [decide_eq_false hh, Bool.and_false]
          go_enter Tryz.func113, Tryz.ntmps113
          go_wp2_with (fail)
          go_ret
          exact ⟨rfl, hb⟩
      · have q1 : (lo == 0) = false := by simpa using hl
        rw [decide_eq_false hl, Bool.and_false, Bool.false_and]
        go_enter Tryz.func113, Tryz.ntmps113
        go_wp2_with (fail)
        go_ret
        exact ⟨rfl, hb⟩
    · have q1 : (k == 0) = false := by simpa using hk
      rw [decide_eq_false hk, Bool.false_and, Bool.false_and]
      go_enter Tryz.func113, Tryz.ntmps113
      go_wp2_with (fail)
      go_ret
      exact ⟨rfl, hb⟩
  by_cases h4 : op = 4
  · subst h4
    rw [show vnB n ⟨4, k, lo, hi⟩ = (decide (k = 0) && decide (lo = 0) && decide (hi = 0)) by simp [vnB]]
    by_cases hk : k = 0
    · subst hk
      by_cases hl : lo = 0
      · subst hl
        by_cases hh : hi = 0
        · subst hh
          go_enter Tryz.func113, Tryz.ntmps113
          go_wp2_with (fail)
          go_ret
          exact ⟨rfl, hb⟩
        · have q1 : (hi == 0) = false := by simpa using hh
          rw [decide_eq_false hh, Bool.and_false]
          go_enter Tryz.func113, Tryz.ntmps113
          go_wp2_with (fail)
          go_ret
          exact ⟨rfl, hb⟩
      · have q1 : (lo == 0) = false := by simpa using hl
        rw [decide_eq_false hl, Bool.and_false, Bool.false_and]
        go_enter Tryz.func113, Tryz.ntmps113
        go_wp2_with (fail)
        go_ret
        exact ⟨rfl, hb⟩
    · have q1 : (k == 0) = false := by simpa using hk
      rw [decide_eq_false hk, Bool.false_and, Bool.false_and]
      go_enter Tryz.func113, Tryz.ntmps113
      go_wp2_with (fail)
      go_ret
      exact ⟨rfl, hb⟩
  by_cases h5 : op = 5
  · subst h5
    rw [show vnB n ⟨5, k, lo, hi⟩ = (decide (k = 0) && decide (lo = 0) && decide (hi = 0)) by simp [vnB]]
    by_cases hk : k = 0
    · subst hk
      by_cases hl : lo = 0
      · subst hl
        by_cases hh : hi = 0
        · subst hh
          go_enter Tryz.func113, Tryz.ntmps113
          go_wp2_with (fail)
          go_ret
          exact ⟨rfl, hb⟩
        · have q1 : (hi == 0) = false := by simpa using hh
          rw [decide_eq_false hh, Bool.and_false]
          go_enter Tryz.func113, Tryz.ntmps113
          go_wp2_with (fail)
          go_ret
          exact ⟨rfl, hb⟩
      · have q1 : (lo == 0) = false := by simpa using hl
        rw [decide_eq_false hl, Bool.and_false, Bool.false_and]
        go_enter Tryz.func113, Tryz.ntmps113
        go_wp2_with (fail)
        go_ret
        exact ⟨rfl, hb⟩
    · have q1 : (k == 0) = false := by simpa using hk
      rw [decide_eq_false hk, Bool.false_and, Bool.false_and]
      go_enter Tryz.func113, Tryz.ntmps113
      go_wp2_with (fail)
      go_ret
      exact ⟨rfl, hb⟩
  by_cases h6 : op = 6
  · subst h6
    rw [show vnB n ⟨6, k, lo, hi⟩ = (decide (k = 0) && decide (lo = 0) && decide (hi = 0)) by simp [vnB]]
    by_cases hk : k = 0
    · subst hk
      by_cases hl : lo = 0
      · subst hl
        by_cases hh : hi = 0
        · subst hh
          go_enter Tryz.func113, Tryz.ntmps113
          go_wp2_with (fail)
          go_ret
          exact ⟨rfl, hb⟩
        · have q1 : (hi == 0) = false := by simpa using hh
          rw [decide_eq_false hh, Bool.and_false]
          go_enter Tryz.func113, Tryz.ntmps113
          go_wp2_with (fail)
          go_ret
          exact ⟨rfl, hb⟩
      · have q1 : (lo == 0) = false := by simpa using hl
        rw [decide_eq_false hl, Bool.and_false, Bool.false_and]
        go_enter Tryz.func113, Tryz.ntmps113
        go_wp2_with (fail)
        go_ret
        exact ⟨rfl, hb⟩
    · have q1 : (k == 0) = false := by simpa using hk
      rw [decide_eq_false hk, Bool.false_and, Bool.false_and]
      go_enter Tryz.func113, Tryz.ntmps113
      go_wp2_with (fail)
      go_ret
      exact ⟨rfl, hb⟩
  by_cases h7 : op = 7
  · subst h7
    rw [show vnB n ⟨7, k, lo, hi⟩ = (decide (k = 0) && decide (lo = 0) && decide (hi = 0)) by simp [vnB]]
    by_cases hk : k = 0
    · subst hk
      by_cases hl : lo = 0
      · subst hl
        by_cases hh : hi = 0
        · subst hh
          go_enter Tryz.func113, Tryz.ntmps113
          go_wp2_with (fail)
          go_ret
          exact ⟨rfl, hb⟩
        · have q1 : (hi == 0) = false := by simpa using hh
          rw [decide_eq_false hh, Bool.and_false]
          go_enter Tryz.func113, Tryz.ntmps113
          go_wp2_with (fail)
          go_ret
          exact ⟨rfl, hb⟩
      · have q1 : (lo == 0) = false := by simpa using hl
        rw [decide_eq_false hl, Bool.and_false, Bool.false_and]
        go_enter Tryz.func113, Tryz.ntmps113
        go_wp2_with (fail)
        go_ret
        exact ⟨rfl, hb⟩
    · have q1 : (k == 0) = false := by simpa using hk
      rw [decide_eq_false hk, Bool.false_and, Bool.false_and]
      go_enter Tryz.func113, Tryz.ntmps113
      go_wp2_with (fail)
      go_ret
      exact ⟨rfl, hb⟩
  by_cases h8 : op = 8
  · subst h8
    rw [show vnB n ⟨8, k, lo, hi⟩ = (decide (k = 0) && decide (lo = 0) && decide (hi = 0)) by simp [vnB]]
    by_cases hk : k = 0
    · subst hk
      by_cases hl : lo = 0
      · subst hl
        by_cases hh : hi = 0
        · subst hh
          go_enter Tryz.func113, Tryz.ntmps113
          go_wp2_with (fail)
          go_ret
          exact ⟨rfl, hb⟩
        · have q1 : (hi == 0) = false := by simpa using hh
          rw [decide_eq_false hh, Bool.and_false]
          go_enter Tryz.func113, Tryz.ntmps113
          go_wp2_with (fail)
          go_ret
          exact ⟨rfl, hb⟩
      · have q1 : (lo == 0) = false := by simpa using hl
        rw [decide_eq_false hl, Bool.and_false, Bool.false_and]
        go_enter Tryz.func113, Tryz.ntmps113
        go_wp2_with (fail)
        go_ret
        exact ⟨rfl, hb⟩
    · have q1 : (k == 0) = false := by simpa using hk
      rw [decide_eq_false hk, Bool.false_and, Bool.false_and]
      go_enter Tryz.func113, Tryz.ntmps113
      go_wp2_with (fail)
      go_ret
      exact ⟨rfl, hb⟩
  by_cases h9 : op = 9
  · subst h9
    rw [show vnB n ⟨9, k, lo, hi⟩ = (decide (k = 0) && decide (lo = 0) && decide (hi = 0)) by simp [vnB]]
    by_cases hk : k = 0
    · subst hk
      by_cases hl : lo = 0
      · subst hl
        by_cases hh : hi = 0
        · subst hh
          go_enter Tryz.func113, Tryz.ntmps113
          go_wp2_with (fail)
          go_ret
          exact ⟨rfl, hb⟩
        · have q1 : (hi == 0) = false := by simpa using hh
          rw [decide_eq_false hh, Bool.and_false]
          go_enter Tryz.func113, Tryz.ntmps113
          go_wp2_with (fail)
          go_ret
          exact ⟨rfl, hb⟩
      · have q1 : (lo == 0) = false := by simpa using hl
        rw [decide_eq_false hl, Bool.and_false, Bool.false_and]
        go_enter Tryz.func113, Tryz.ntmps113
        go_wp2_with (fail)
        go_ret
        exact ⟨rfl, hb⟩
    · have q1 : (k == 0) = false := by simpa using hk
      rw [decide_eq_false hk, Bool.false_and, Bool.false_and]
      go_enter Tryz.func113, Tryz.ntmps113
      go_wp2_with (fail)
      go_ret
      exact ⟨rfl, hb⟩
  by_cases h10 : op = 10
  · subst h10
    rw [show vnB n ⟨10, k, lo, hi⟩ = (decide (k = 0) && decide (lo = 0) && decide (hi = 0)) by simp [vnB]]
    by_cases hk : k = 0
    · subst hk
      by_cases hl : lo = 0
      · subst hl
        by_cases hh : hi = 0
        · subst hh
          go_enter Tryz.func113, Tryz.ntmps113
          go_wp2_with (fail)
          go_ret
          exact ⟨rfl, hb⟩
        · have q1 : (hi == 0) = false := by simpa using hh
          rw [decide_eq_false hh, Bool.and_false]
          go_enter Tryz.func113, Tryz.ntmps113
          go_wp2_with (fail)
          go_ret
          exact ⟨rfl, hb⟩
      · have q1 : (lo == 0) = false := by simpa using hl
        rw [decide_eq_false hl, Bool.and_false, Bool.false_and]
        go_enter Tryz.func113, Tryz.ntmps113
        go_wp2_with (fail)
        go_ret
        exact ⟨rfl, hb⟩
    · have q1 : (k == 0) = false := by simpa using hk
      rw [decide_eq_false hk, Bool.false_and, Bool.false_and]
      go_enter Tryz.func113, Tryz.ntmps113
      go_wp2_with (fail)
      go_ret
      exact ⟨rfl, hb⟩
  have q1 : (op == 1) = false := by simpa using h1
  have q2 : (op == 2) = false := by simpa using h2
  have q3 : (op == 3) = false := by simpa using h3
  have q4 : (op == 4) = false := by simpa using h4
  have q5 : (op == 5) = false := by simpa using h5
  have q6 : (op == 6) = false := by simpa using h6
  have q7 : (op == 7) = false := by simpa using h7
  have q8 : (op == 8) = false := by simpa using h8
  have q9 : (op == 9) = false := by simpa using h9
  have q10 : (op == 10) = false := by simpa using h10
  rw [show vnB n ⟨op, k, lo, hi⟩ = false by unfold vnB; dsimp only; rw [if_neg h1, if_neg h2, if_neg (by omega)]]
  go_enter Tryz.func113, Tryz.ntmps113
  go_wp2_with (fail)
  go_ret
  exact ⟨rfl, hb⟩
def veGo (n : Int) : List Nd → Int → Bool
  | [], M => decide (M = 0)
  | x :: r, M => if M = 0 then false else if vnB n x = true then veGo n r (M + (arI x.op - 1)) else false
theorem drop_cons {α : Type} {l : List α} {k : Nat} {x : α} (h : l[k]? = some x) : l.drop k = x :: l.drop (k + 1) := by
  have hk := (List.getElem?_eq_some_iff.1 h)
  rw [List.drop_eq_getElem_cons hk.1, hk.2]
set_option maxHeartbeats 8000000 in
theorem complete_ok (v : Value) (l : List Nd) (n : Int) (w : World) (hv : Nx w v l) (hsm : l.length ≤ 1000000) : Calls Tryz.prog 79 #[v, .int .i64 n] w fun e w' => e = .returned (.bool (veGo n l 1)) ∧ Below w.heap.size w w' := by
  obtain ⟨p, c, rfl⟩ := hv.cut
  have hlm := hv.1
  unfold maxLen at hlm
  have HV := Lib.hid hv
  obtain ⟨R, hR⟩ : ∃ R, veGo n l 1 = R := ⟨_, rfl⟩
  have HR := Lib.hid hR
  rw [hR]
  clear hv hR
  go_enter Tryz.func79, Tryz.ntmps79
  go_wp2_with (fail)
  go_loopw [5, 10] (fun m i wr => ∃ (M : Int) (k : Nat), m = .int .i64 M ∧ i = .int .i64 k ∧ k ≤ l.length ∧ 0 ≤ M ∧ M ≤ k + 1 ∧ Hid (veGo n (l.drop k) M = R) ∧ Below w.heap.size w wr) (fun _ i _ => l.length - (intOf i).toNat)
  case atStart => exact ⟨1, 0, rfl, rfl, Nat.zero_le _, by decide, by decide, HR, Below.refl _ _⟩
  case round =>
    clear HR
    obtain ⟨M, k, rfl, rfl, hk, hM0, hM1, HR, hB⟩ := hrel
    by_cases hlt : k < l.length
    · have i2 : (k : Int) < l.length := by omega
      obtain ⟨⟨op, kk, lo, hi⟩, hx⟩ : ∃ x, l[k]? = some x := ⟨_, List.getElem?_eq_getElem hlt⟩
      obtain ⟨b, o, rfl, hbs, rd⟩ := nd_rd HV.out hx
      obtain ⟨f0, f1, f2, f3⟩ := rd ⟨wr, hB⟩
      dsimp only at f0 f1 f2 f3
      have hd := HR.out
      rw [drop_cons hx] at hd
      unfold veGo at hd
      clear rd HR hx
      have hB2 : Below w.heap.size w (wr.alloc (.cells #[.int .i64 op, .int .i64 kk, .int .i64 lo, .int .i64 hi] 63)) := hB.alloc hB.size _
      by_cases hM : M = 0
      · rw [if_pos hM] at hd
        subst hd hM
        go_wp2_with (fail)
        go_ret
        exact ⟨rfl, hB2⟩
      · have qM : (M == 0) = false := by simpa using hM
        rw [if_neg hM] at hd
        have KV := Lib.hid (fun w => vnode_ok op kk lo hi n w)
        obtain ⟨T, hT⟩ : ∃ T, vnB n ⟨op, kk, lo, hi⟩ = T := ⟨_, rfl⟩
        rw [hT] at KV hd
        have HD := Lib.hid hd
        have KA := Lib.hid (fun w => arity_ok op w)
        have ba := arI_bd op
        obtain ⟨A, hA⟩ : ∃ A, arI op = A := ⟨_, rfl⟩
        dsimp only at HD
        rw [hA] at KA ba HD
        have W1 : IntKind.i64.wrap (A - 1) = A - 1 := wrapN _ (by omega) (by omega)
        have W2 : IntKind.i64.wrap (M + (A - 1)) = M + (A - 1) := wrapN _ (by omega) (by omega)
        clear hd hT hA
        have hJ := Lib.hid (NdC.new wr ⟨op, kk, lo, hi⟩)
        go_wp2_with (fail)
        refine (KV.out _).mono ?_
        rintro e w5 ⟨rfl, hB5⟩
        have hB6 := below_then hB2 hB5
        have j0 := (hJ.out.grow hB5).c0
        dsimp only at j0
        cases T with
        | false =>
          have hd := HD.out
          rw [if_neg (by decide)] at hd
          subst hd
          clear HD
          go_wp2_with (fail)
          go_ret
          exact ⟨rfl, hB6⟩
        | true =>
          have hd := HD.out
          rw [if_pos rfl] at hd
          have HD2 := Lib.hid hd
          clear HD hd f0 f1 f2 f3
          go_wp2_with (fail)
          refine (KA.out _).mono ?_
          rintro e w6 ⟨rfl, hB7⟩
          have hB8 := below_then hB6 hB7
          clear j0
          go_wp2_with (fail)
          exact ⟨⟨M + (A - 1), k + 1, rfl, by go_num, by omega, by omega, by push_cast; omega, HD2, hB8⟩, by simp [intOf]; omega⟩
    · obtain rfl : k = l.length := by omega
      have i2 : ¬ (l.length : Int) < l.length := by omega
      have hd := HR.out
      rw [List.drop_length] at hd
      unfold veGo at hd
      clear HR
      by_cases hM : M = 0
      · rw [decide_eq_true hM] at hd
        subst hd hM
        go_wp2_with (fail)
        go_ret
        exact ⟨rfl, hB⟩
      · have qM : (M == 0) = false := by simpa using hM
        rw [decide_eq_false hM] at hd
        subst hd
        go_wp2_with (fail)
        go_ret
        exact ⟨rfl, hB⟩
end Go.Proofs.YtbppfohcicepcaaGreat
