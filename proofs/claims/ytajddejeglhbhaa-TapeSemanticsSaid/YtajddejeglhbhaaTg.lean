/-
 What regions with stores to blocks of their own need.
-/
import Derived.Test.YtajddejeglhbhaaPredL
namespace Go.Proofs.Ytajddejeglhbhaa
open Go.RowKit
set_option linter.unusedVariables false
set_option linter.unusedSimpArgs false
section
variable {P : Program}
def isSt (S : List (Nat × Tmp)) (i : Nat) : Bool := S.any fun x => Nat.beq x.1 i
theorem isSt_mem {S : List (Nat × Tmp)} {i : Nat} (h : isSt S i = true) : ∃ p, (i, p) ∈ S := by
 obtain ⟨x, hx, e⟩ := List.any_eq_true.1 h
 have := Nat.eq_of_beq_eq_true e
 subst this
 exact ⟨x.2, hx⟩
def stg (S : List (Nat × Tmp)) (L : Array Bool) : Nat → Bool := fun s => isSt S s && L.getD s false
def updS (σ : Nat → Bool) (i : Nat) : Nat → Bool := fun s => if s = i then true else σ s
def allButG (S : List (Nat × Tmp)) : Nat → List Oper → Bool
 | _, [] => true
 | i, o :: r => (if isSt S i then o.dst.isNone && o.guard.isNone else o.dst.isSome) && allButG S (i + 1) r
theorem allButG_at (S : List (Nat × Tmp)) : ∀ (l : List Oper) (k : Nat), allButG S k l = true → ∀ (i : Nat) (o : Oper), l[i]? = some o → (isSt S (k + i) = true → o.dst = none ∧ o.guard = none) ∧ (isSt S (k + i) = false → ∃ d, o.dst = some d)
 | [], k, _, i, o, h => by simp at h
 | o0 :: rest, k, hk, i, o, hi => by
  simp only [allButG, Bool.and_eq_true] at hk
  match i, hi with
  | 0, hi =>
   simp at hi
   subst hi
   rw [Nat.add_zero]
   refine ⟨fun e => ?_, fun e => ?_⟩
   ·rw [if_pos e] at hk
    simpa using hk.1
   ·rw [if_neg (by rw [e]; exact Bool.false_ne_true)] at hk
    exact Option.isSome_iff_exists.1 hk.1
  | i + 1, hi =>
   have := allButG_at S rest (k + 1) hk.2 i o (by simpa using hi)
   rw [show k + 1 + i = k + (i + 1) by omega] at this
   exact this
/-- A store waits for the operation that makes its pointer. -/
def ptrB (l : List Oper) (x : Nat × Tmp) : Bool := match l[x.1]? with
 | some os => (List.range l.length).any fun ip => earlyB os ip && (match (l[ip]?).bind (·.dst) with | some d => Nat.beq d x.2 | none => false)
 | none => false
theorem ptrB_of {l : List Oper} {x : Nat × Tmp} (h : ptrB l x = true) : ∃ os ip op, l[x.1]? = some os ∧ l[ip]? = some op ∧ op.dst = some x.2 ∧ earlyB os ip = true := by
 unfold ptrB at h
 cases ho : l[x.1]? with
 | none => rw [ho] at h; cases h
 | some os =>
  rw [ho] at h
  obtain ⟨ip, _, h2⟩ := List.any_eq_true.1 h
  simp only [Bool.and_eq_true] at h2
  cases hp : l[ip]? with
  | none => rw [hp] at h2; exact absurd h2.2 Bool.false_ne_true
  | some op =>
   rw [hp] at h2
   cases hd : op.dst with
   | none => simp [hd] at h2
   | some d =>
    simp only [Option.bind_some, hd] at h2
    exact ⟨os, ip, op, rfl, hp, by rw [hd, Nat.eq_of_beq_eq_true h2.2], h2.1⟩

/-- An operation that copies slot c. -/
def CpyB (P : Program) (l : List Oper) (d c : Tmp) : Prop := ∃ (i : Nat) (o : Oper) (j : Nat) (oj : Oper), l[i]? = some o ∧ o.dst = some d ∧ o.guard = none ∧ l[j]? = some oj ∧ oj.dst = some c ∧ earlyB o j = true ∧ ∀ (a : Act) (w : World), (execOp a.eval o).run P w = .ok (.value (a.tmps.getD c undef)) w
/-- What an operation must do: its value meets the slot's predicate, and the block that it holds is new. -/
def OblG (P : Program) (ops : Array Oper) (ds : List Tmp) (a0 : Act) (w0 : World) (Φ : Tmp → Value → World → Prop) (K : Tmp → Value → Option Nat) (o : Oper) : Prop :=
 ∀ (a : Act) (g : Grown w0), seenAll Φ ds a0 a g.w (o.looksAt ops) →
  if Region.wanted o (yielded ops a.tmps) = true then uponP P g.w (fun v w' => meets Φ o.dst v w' ∧ ∀ d b, o.dst = some d → K d v = some b → g.w.heap.size ≤ b) ((execOp a.eval o).run P g.w) else meets Φ o.dst undef g.w ∧ ∀ d, o.dst = some d → K d undef = none
theorem uponP_mono {w : World} {A B : Value → World → Prop} {r : Result Next} (h : ∀ v w', A v w' → B v w') (hu : uponP P w A r) : uponP P w B r := by
 cases r with
 | ok n w' =>
  cases n with
  | value u => exact ⟨hu.1, h _ _ hu.2⟩
  | enter f args => exact ⟨hu.1, hu.2.mono fun e w'' ⟨v, he, hb, hv⟩ => ⟨v, he, hb, h _ _ hv⟩⟩
  | _ => exact hu.elim
 | _ => exact hu.elim
theorem oblg_of {ops : Array Oper} {ds : List Tmp} {a0 : Act} {w0 : World} {Φ : Tmp → Value → World → Prop} {K : Tmp → Value → Option Nat} {o : Oper} (h : Obl P ops ds a0 w0 Φ o) (hk : ∀ d v, o.dst = some d → K d v = none) : OblG P ops ds a0 w0 Φ K o := fun a g hs => by
 have := h a g hs
 split at this
 ·rename_i hw
  rw [if_pos hw]
  exact uponP_mono (fun v w' hv => ⟨hv, fun d b hd hb => by rw [hk d v hd] at hb; cases hb⟩) this
 ·rename_i hw
  rw [if_neg hw]
  exact ⟨this, fun d hd => hk d _ hd⟩
/-- Marked slots hold distinct blocks. -/
def disA (ds : List Tmp) (K : Tmp → Value → Option Nat) (a : Act) : Prop := ∀ (d d' : Tmp) (v v' : Value) (b : Nat), d ≠ d' → d ∈ ds → d' ∈ ds → a.tmps[d]? = some v → a.tmps[d']? = some v' → K d v = some b → K d' v' ≠ some b
/-- From one row of predicates to another. -/
def pairAll (R : Tmp → (Value → World → Prop) → (Value → World → Prop) → Prop) : List (Tmp × (Value → World → Prop)) → List (Tmp × (Value → World → Prop)) → Prop
 | [], [] => True
 | (d, S) :: r, (e, T) :: q => d = e ∧ R d S T ∧ pairAll R r q
 | _, _ => False
theorem lk_pair {t : Tmp} {v : Value} {W W' : World} : ∀ {l1 l2 : List (Tmp × (Value → World → Prop))}, pairAll (fun d S T => d = t → S v W → T v W') l1 l2 → lk l1 t v W → lk l2 t v W'
 | [], [], _, h => h
 | (d, S) :: r, (e, T) :: q, h, hl => by
  obtain ⟨rfl, h1, h2⟩ := h
  unfold lk at *
  by_cases hd : Nat.beq d t = true
  ·rw [if_pos hd] at *
   exact h1 (Nat.eq_of_beq_eq_true hd) hl
  ·rw [if_neg hd] at *
   exact lk_pair h2 hl
/-- A table of the blocks that slots hold. -/
def kk : List (Tmp × (Value → Option Nat)) → Tmp → Value → Option Nat
 | [], _ => fun _ => none
 | (d, f) :: r, t => if Nat.beq d t = true then f else kk r t
theorem kk_lt {W : World} {t : Tmp} {v : Value} {b : Nat} : ∀ {k : List (Tmp × (Value → Option Nat))} {l : List (Tmp × (Value → World → Prop))}, (∀ x ∈ k, x.1 = t → lk l t v W → x.2 v = some b → b < W.heap.size) → lk l t v W → kk k t v = some b → b < W.heap.size
 | [], l, _, _, h => by cases h
 | (d, f) :: r, l, h, hl, hb => by
  unfold kk at hb
  by_cases hd : Nat.beq d t = true
  ·rw [if_pos hd] at hb
   exact h (d, f) List.mem_cons_self (Nat.eq_of_beq_eq_true hd) hl hb
  ·rw [if_neg hd] at hb
   exact kk_lt (fun x hx => h x (List.mem_cons_of_mem _ hx)) hl hb
theorem updS_self (σ : Nat → Bool) (i : Nat) : updS σ i i = true := if_pos rfl
theorem updS_ne (σ : Nat → Bool) {i j : Nat} (h : j ≠ i) : updS σ i j = σ j := if_neg h
/-- An operation without a guard whose value holds a new block. -/
theorem oblg_plain {ops : Array Oper} {ds : List Tmp} {a0 : Act} {w0 : World} {Φ : Tmp → Value → World → Prop} {K : Tmp → Value → Option Nat} {o : Oper} (ts : List Tmp) (hg : o.guard = none) (ht : o.looksAt #[] = ts)
  (h : ∀ (a : Act) (g : Grown w0), seenAll Φ ds a0 a g.w ts → uponP P g.w (fun v w' => meets Φ o.dst v w' ∧ ∀ d b, o.dst = some d → K d v = some b → g.w.heap.size ≤ b) ((execOp a.eval o).run P g.w)) : OblG P ops ds a0 w0 Φ K o := fun a g hs => by
 have hw : Region.wanted o (yielded ops a.tmps) = true := by
  unfold Region.wanted
  rw [hg]
 rw [if_pos hw]
 refine h a g ?_
 rw [looks_none o (by rw [hg]; rfl), ht] at hs
 exact hs
theorem heap_setN_ne (W : World) {X Y : Nat} (h : Y ≠ X) (o : Nat) (v : Value) : (W.setCell ⟨X, o, none⟩ v).heap[Y]? = W.heap[Y]? := by
 show (W.heap.modify X _)[Y]? = _
 rw [Array.getElem?_modify, if_neg (Ne.symm h)]
def ptrK : Value → Option Nat
 | .pointer (some a) => some a.block
 | _ => none
end
end Go.Proofs.Ytajddejeglhbhaa
