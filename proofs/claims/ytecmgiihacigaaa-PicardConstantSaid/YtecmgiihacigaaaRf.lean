/-
  A range over a function whose rounds are counted, where what is yielded lies in memory.
-/
import Derived.RangeFuncNested
import Derived.RangeFuncBound
import Derived.RangeFuncCalls
import Derived.RangeFuncLeaves
import Derived.Shelf.Abstract
import Derived.WalkKit
import Derived.Below
namespace Go.Proofs.Ytecmgiihacigaaa
open Go Go.RowKit Go.Shelf
set_option linter.unusedVariables false
set_option linter.unusedSimpArgs false
/-- Objects that are no cells keep their place (from block B on). -/
def Keep (B : Nat) (W W' : World) : Prop := W.heap.size ≤ W'.heap.size ∧ ∀ k o, B ≤ k → W.heap[k]? = some o → o.isCells = false → W'.heap[k]? = some o
/-- How a round may be left. -/
def rfPost (B : Nat) (p : Nat → Prop) (Ix : Code → Nat → World → Prop) (i : Nat) (W : World) : Exit → Act → World → Prop
  | .normal, _, W' => Below W.heap.size W W' ∧ p (i + 1)
  | .ret, _, W' => Keep B W W' ∧ Ix .ret (i + 1) W'
  | .exit id, _, W' => Keep B W W' ∧ Ix (.exit id) (i + 1) W'
  | .goto t, _, W' => Keep B W W' ∧ Ix (.goto t) (i + 1) W'
  | .panic _, _, _ => False
  | .outgrown, _, _ => False
/-- The iterator's word: N rounds, in round i something that Y says. -/
def SeqN (P : Program) (n gf : Nat) (lb : Array Value) (N : Nat) (Y : Nat → Array Value → World → Prop) (w : World) : Prop :=
  ∀ (l : Nat) (J Jx : Nat → World → Prop) (W : World), Below w.heap.size w W → w.heap.size ≤ l → (∀ i A, J i A → ∃ r, A.heap[l]? = some (.loop r)) →
    (∀ i A B, J i A → Below A.heap.size A B → J i B) → (∀ i A B, Jx i A → Below A.heap.size A B → Jx i B) →
    (∀ i xs W1, i < N → J i W1 → Y i xs W1 → YieldAt Fence.wide (n - 1) P l xs W1 fun e W' =>
      (e = .returned (.bool true) ∧ J (i + 1) W' ∧ W1.grownBy W' (some l)) ∨ (e = .returned (.bool false) ∧ Jx (i + 1) W')) →
    J 0 W → CallsIn Fence.wide n P gf (#[.func (.yield l) #[] #[]] ++ lb) W fun e W' => (∃ v, e = .returned v) ∧ (J N W' ∨ ∃ i, Jx i W')
theorem gb_trans {A B C : World} {row : Option Nat} (h : A.grownBy B row) (k : B.grownBy C row) : A.grownBy C row :=
  ⟨k.os.trans h.os, k.tape.trans h.tape, k.output.trans h.output, Nat.le_trans h.size k.size, fun j hj hn => (k.block j (Nat.lt_of_lt_of_le hj h.size) hn).trans (h.block j hj hn)⟩
theorem gb_below {A B : World} (h : Below A.heap.size A B) (row : Option Nat) : A.grownBy B row := ⟨h.os, h.tape, h.output, h.size, fun j hj _ => h.block j hj⟩
theorem gb_old {A B : World} {l n0 : Nat} {a : World} (h : A.grownBy B (some l)) (hl : n0 ≤ l) (hb : Below n0 a A) (hn : n0 ≤ A.heap.size) : Below n0 a B := hb.grown h hn (fun k e => by cases e; exact hl)
theorem keep_below {B0 : Nat} {A B : World} (h : Below A.heap.size A B) : Keep B0 A B := ⟨h.size, fun k o _ hk _ => (h.block k (Array.getElem?_eq_some_iff.1 hk).1).trans hk⟩
theorem rf_nat {P : Program} {g : Operand} {ps : Array Tmp} {assign body : Code} {Q : Exit → Act → World → Prop} {a : Act} {w : World} (n : Nat) (h1 : 1 ≤ n) {gf : Nat} {lb : Array Value}
    (hg : a.eval g = .func (.func gf) #[] lb) (eg : ∀ args w, (callFunc gf args).run P w = .ok (.enter gf args) w)
    (N : Nat) (Y : Nat → Array Value → World → Prop) (hYs : ∀ i xs W, Y i xs W → xs.size = ps.size) (p : Nat → Prop) (Ix : Code → Nat → World → Prop) (hseq : SeqN P (n - 1) gf lb N Y w)
    (hIx : ∀ c i A k o o', Ix c i A → w.heap.size ≤ k → A.heap[k]? = some o → o.isCells = false → Ix c i (A.putObj k o')) (hIxB : ∀ c i A B, Ix c i A → Below A.heap.size A B → Ix c i B)
    (Ax : Nat → Array Value → Act → World → Prop) (hAx : ∀ i xs a' A k o o', Ax i xs a' A → w.heap.size ≤ k → A.heap[k]? = some o → o.isCells = false → Ax i xs a' (A.putObj k o')) (h0 : p 0)
    (hassign : ∀ l i xs W (K : Act → World → Prop), Y i xs W → (∀ a' W', Below W.heap.size W W' → Ax i xs a' W' → K a' W') →
      assign.wpIn (Fence.wide.inRound l) (n - 1 - 1) P (Exit.then K (fun _ _ _ => False)) { tmps := (ps.zip xs).foldl (fun t (p, v) => t.setIfInBounds p v) a.tmps, defers := [] } W)
    (hbody : ∀ l i xs a' W, w.heap.size + 1 = l → (∃ r, W.heap[l]? = some (.loop r)) → p i → i < N → Below w.heap.size w W → Ax i xs a' W → body.wpIn (Fence.wide.inRound l) (n - 1 - 1) P (rfPost w.heap.size p Ix i W) a' W)
    (hdone : ∀ W, p N → Below w.heap.size w W → W.heap[w.heap.size]? = some (.deferred (some [])) → Q .normal { a with defers := { target := .collected w.heap.size, args := #[] } :: a.defers } W)
    (hstop : ∀ c i W, Ix c i W → W.heap[w.heap.size]? = some (.deferred (some [])) → c.wpIn Fence.wide n P Q { a with defers := { target := .collected w.heap.size, args := #[] } :: a.defers } W) :
    (Code.rangeFunc g ps assign body).wpIn Fence.wide n P Q a w := by
  refine wpIn_rangeFunc fun fn hfn => ?_
  obtain ⟨rec, hrec⟩ : ∃ rec : LoopState → Option Code → Loop, rec = fun st pe => ⟨st, pe, fn, a.tmps, ps, assign, body, w.heap.size⟩ := ⟨_, rfl⟩
  obtain ⟨W1, hW1⟩ : ∃ W1, (w.alloc (.deferred (some []))).alloc (.loop (rec .ready none)) = W1 := ⟨_, rfl⟩
  have e1 : W1.heap[w.heap.size + 1]? = some (.loop (rec .ready none)) := by
    subst hW1
    have h := World.alloc_heap_new (w.alloc (.deferred (some []))) (.loop (rec .ready none))
    rwa [World.size_alloc] at h
  have e2 : W1.heap[w.heap.size]? = some (.deferred (some [])) := by
    subst hW1
    exact (Below.heap_alloc _ _ _ (by simp)).trans (World.alloc_heap_new w _)
  have hb1 : Below w.heap.size w W1 := by
    subst hW1
    exact ((Below.refl _ w).alloc (Nat.le_refl _) _).alloc (by simp) _
  refine ⟨w.heap.size + 1, [{ target := .collected w.heap.size, args := #[] }], W1, { target := .fn (.func gf) lb, args := #[.func (.yield (w.heap.size + 1)) #[] #[]] }, W1, gf, #[.func (.yield (w.heap.size + 1)) #[] #[]] ++ lb, W1,
    by rw [← hW1, hrec]; exact run_enterLoop_outer _ _ _ _ _, by simp only [resolve, hg]; simp [go_sem], fun f' hf' => by simp [Target.leads] at hf'; subst hf'; trivial, by simp [invoke, go_sem, eg], fun _ => h1, ?_⟩
  -- the caller's invariant, with the two facts of book-keeping
  refine (hseq (w.heap.size + 1) (fun i W => p i ∧ Below w.heap.size w W ∧ W.heap[w.heap.size + 1]? = some (.loop (rec .ready none)) ∧ W.heap[w.heap.size]? = some (.deferred (some [])))
    (fun i W => ∃ c, Ix c i W ∧ W.heap[w.heap.size + 1]? = some (.loop (rec .done (some c))) ∧ W.heap[w.heap.size]? = some (.deferred (some []))) W1 hb1 (Nat.le_succ _) (fun i A h => ⟨_, h.2.2.1⟩)
    (fun i A B h hAB => ⟨h.1, h.2.1.trans (hAB.mono h.2.1.size), (hAB.block _ (Array.getElem?_eq_some_iff.1 h.2.2.1).1).trans h.2.2.1, (hAB.block _ (Array.getElem?_eq_some_iff.1 h.2.2.2).1).trans h.2.2.2⟩)
    (fun i A B ⟨c, h, k1, k2⟩ hAB => ⟨c, hIxB c i A B h hAB, (hAB.block _ (Array.getElem?_eq_some_iff.1 k1).1).trans k1, (hAB.block _ (Array.getElem?_eq_some_iff.1 k2).1).trans k2⟩) ?_ ⟨h0, hb1, e1, e2⟩).mono ?_
  · rintro i xs W hi ⟨hp, hB, hl, hk⟩ hY
    have hy := run_yield (P := P) (args := xs) hl (by rw [hrec]; exact hYs i xs W hY)
    rw [hrec] at hy
    refine ⟨fn, _, assign, body, hy, roundIn_of_wpIn hfn (hassign _ i xs W _ hY fun a' Wa hBa hAxa => ?_)⟩
    have hl1 := (hBa.block _ (Array.getElem?_eq_some_iff.1 hl).1).trans hl
    have hk1 := (hBa.block _ (Array.getElem?_eq_some_iff.1 hk).1).trans hk
    have hlt := (Array.getElem?_eq_some_iff.1 hl1).1
    refine ⟨_, run_beginRound hl1 (by rw [hrec]), ?_⟩
    obtain ⟨W2, hW2⟩ : ∃ W2, Wa.putObj (w.heap.size + 1) (.loop { rec .ready none with state := .busy }) = W2 := ⟨_, rfl⟩
    have hl2 : W2.heap[w.heap.size + 1]? = some (.loop { rec .ready none with state := .busy }) := by rw [← hW2]; exact World.putObj_heap_same hlt
    have hk2 : W2.heap[w.heap.size]? = some (.deferred (some [])) := by rw [← hW2]; exact (World.putObj_heap_other (by omega)).trans hk1
    have g2 : W.grownBy W2 (some (w.heap.size + 1)) := by rw [← hW2]; exact gb_trans (gb_below hBa _) (grownBy_putObj' _ _ _)
    have hB2 : Below w.heap.size w W2 := gb_old g2 (Nat.le_succ _) hB hB.size
    have hAx2 : Ax i xs a' W2 := by rw [← hW2]; exact hAx i xs a' Wa _ _ _ hAxa (Nat.le_succ _) hl1 rfl
    rw [hW2]
    refine wpIn_mono (hbody _ i xs a' W2 rfl ⟨_, hl2⟩ hp hi hB2 hAx2) ?_
    have fin : ∀ (jump : Option Code) (W3 : World), W3.heap[w.heap.size + 1]? = some (.loop { rec .ready none with state := .busy }) → W3.heap[w.heap.size]? = some (.deferred (some [])) →
        (Instr.endRound (w.heap.size + 1) jump).run P W3 = .ok (.bool jump.isNone) (W3.putObj (w.heap.size + 1) (.loop (rec (if jump.isNone then .ready else .done) jump))) ∧
        (W3.putObj (w.heap.size + 1) (.loop (rec (if jump.isNone then .ready else .done) jump))).heap[w.heap.size + 1]? = some (.loop (rec (if jump.isNone then .ready else .done) jump)) ∧
        (W3.putObj (w.heap.size + 1) (.loop (rec (if jump.isNone then .ready else .done) jump))).heap[w.heap.size]? = some (.deferred (some [])) := fun jump W3 a3 b3 => by
      have hr := run_endRound (P := P) jump a3
      rw [hrec] at hr ⊢
      exact ⟨hr, World.putObj_heap_same (Array.getElem?_eq_some_iff.1 a3).1, (World.putObj_heap_other (by omega)).trans b3⟩
    have stop : ∀ (c : Code) (W3 : World), Keep w.heap.size W2 W3 ∧ Ix c (i + 1) W3 → ∃ v w', (Instr.endRound (w.heap.size + 1) (some c)).run P W3 = .ok v w' ∧
        ((Ending.returned v = .returned (.bool true) ∧ (p (i + 1) ∧ Below w.heap.size w w' ∧ w'.heap[w.heap.size + 1]? = some (.loop (rec .ready none)) ∧ w'.heap[w.heap.size]? = some (.deferred (some []))) ∧ W.grownBy w' (some (w.heap.size + 1))) ∨
          (Ending.returned v = .returned (.bool false) ∧ ∃ c, Ix c (i + 1) w' ∧ w'.heap[w.heap.size + 1]? = some (.loop (rec .done (some c))) ∧ w'.heap[w.heap.size]? = some (.deferred (some [])))) := fun c W3 ⟨hk3, hx3⟩ => by
      have a3 := hk3.2 _ _ (Nat.le_succ _) hl2 rfl
      obtain ⟨r1, r2, r3⟩ := fin (some c) W3 a3 (hk3.2 _ _ (Nat.le_refl _) hk2 rfl)
      exact ⟨_, _, r1, .inr ⟨rfl, c, hIx _ _ _ _ _ _ hx3 (Nat.le_succ _) a3 rfl, r2, r3⟩⟩
    rintro e a3 W3 hp3
    cases e with
    | normal =>
      obtain ⟨hb3, hpn⟩ := hp3
      have a3 := (hb3.block _ (Array.getElem?_eq_some_iff.1 hl2).1).trans hl2
      obtain ⟨r1, r2, r3⟩ := fin none W3 a3 ((hb3.block _ (Array.getElem?_eq_some_iff.1 hk2).1).trans hk2)
      have g3 : W.grownBy (W3.putObj (w.heap.size + 1) (.loop (rec .ready none))) (some (w.heap.size + 1)) := gb_trans (gb_trans g2 (gb_below hb3 _)) (grownBy_putObj' _ _ _)
      exact ⟨_, _, r1, .inl ⟨rfl, ⟨hpn, gb_old g3 (Nat.le_succ _) hB hB.size, r2, r3⟩, g3⟩⟩
    | ret => exact stop .ret W3 hp3
    | exit id => exact stop (.exit id) W3 hp3
    | goto t => exact stop (.goto t) W3 hp3
    | panic ch => exact hp3.elim
    | outgrown => exact hp3.elim
  · rintro e W2 ⟨⟨v, rfl⟩, (⟨hpN, hB, hl, hk⟩ | ⟨i, c, hx, hl, hk⟩)⟩
    · have hr := run_endLoop (P := P) hl (by rw [hrec]; simp)
      rw [hrec] at hr
      refine ⟨none, _, hr, hdone _ hpN (gb_old (grownBy_putObj' _ _ _) (Nat.le_succ _) hB hB.size) ((World.putObj_heap_other (by omega)).trans hk)⟩
    · have hr := run_endLoop (P := P) hl (by rw [hrec]; simp)
      rw [hrec] at hr
      exact ⟨some c, _, hr, hstop c i _ (hIx _ _ _ _ _ _ hx (Nat.le_succ _) hl rfl) ((World.putObj_heap_other (by omega)).trans hk)⟩
end Go.Proofs.Ytecmgiihacigaaa
