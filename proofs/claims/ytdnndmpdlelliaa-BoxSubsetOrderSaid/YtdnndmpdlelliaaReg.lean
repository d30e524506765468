/-
  Regions that draw their order: operations that read, calls that make memory, new variables; then stores in their one order.
-/
import Derived.Test.YtdnndmpdlelliaaKit
import Derived.StillTail
import Derived.Below
namespace Go.Proofs.Ytdnndmpdlelliaa
open Go.RowKit

/-- A world that has grown out of another. -/
structure Grown (w0 : World) where
  w : World
  h : Below w0.heap.size w0 w
instance (w0 : World) : Nonempty (Grown w0) := ⟨⟨w0, Below.refl _ _⟩⟩
theorem Grown.cell {w0 : World} (g : Grown w0) {b o : Nat} (hb : b < w0.heap.size) : g.w.cell? ⟨b, o, none⟩ = w0.cell? ⟨b, o, none⟩ := g.h.cell (p := ⟨b, o, none⟩) hb
theorem Grown.frozen {w0 : World} (g : Grown w0) {b o : Nat} (hb : b < w0.heap.size) : g.w.frozen? ⟨b, o, none⟩ = w0.frozen? ⟨b, o, none⟩ := g.h.frozen (p := ⟨b, o, none⟩) hb
theorem grow {w0 : World} (g : Grown w0) {w' : World} (hb : Below g.w.heap.size g.w w') : ∃ g' : Grown w0, w' = g'.w := ⟨⟨w', g.h.trans (hb.mono g.h.size)⟩, rfl⟩

section
variable {P : Program} {ops : Array Oper} {w0 : World}

def isAl (o : Oper) : Bool := match o.op with | .alloc _ => true | _ => false

/-- What an operation of the head yields, in every world grown out of w0. -/
def rUpon (P : Program) (w : World) (v : Value) : Result Next → Prop
  | .ok (.value u) w' => w' = w ∧ u = v
  | .ok (.enter f args) w' => w' = w ∧ Calls P f args w (fun e w'' => e = .returned v ∧ Below w.heap.size w w'')
  | _ => False
def RQ (P : Program) (o : Oper) (a : Act) (w0 : World) (v : Value) : Prop := ∀ g : Grown w0, rUpon P g.w v ((execOp a.eval o).run P g.w)

/-- The walk of the head, in the text's order. -/
def wpData (P : Program) (w0 : World) (R : Act → Prop) : List Oper → Act → Prop
  | [], a => R a
  | o :: rest, a => if isAl o = true then wpData P w0 R rest (a.put o.dst undef) else ∃ v, RQ P o a w0 v ∧ wpData P w0 R rest (a.put o.dst v)

def dsts (l : List Oper) : List Tmp := l.filterMap (·.dst)
def okHead : List Oper → Bool
  | [] => true
  | o :: rest => (match o.dst with | some d => !(dsts rest).contains d | none => false) && o.guard.isNone && (o.looksAt #[]).all (fun t => !(dsts (o :: rest)).contains t) && okHead rest
def sizeB (l : List Oper) (n : Nat) : Bool := (dsts l).all fun d => decide (d < n)

theorem looks_none (o : Oper) (h : o.guard.isNone = true) (ops : Array Oper) : o.looksAt ops = o.looksAt #[] := by
  unfold Oper.looksAt
  cases hg : o.guard with
  | none => rfl
  | some g => rw [hg] at h; cases h

theorem exec_agree (o : Oper) (hs : ∀ cs b, o.op ≠ .select cs b) (a b : Act) (h : ∀ t ∈ o.looksAt #[], a.tmps[t]? = b.tmps[t]?) : execOp a.eval o = execOp b.eval o := by
  refine execOp_congr o hs fun x hx => ?_
  cases x with
  | tmp t =>
    have ht : t ∈ o.looksAt #[] := List.mem_append_left _ (List.mem_filterMap.2 ⟨.tmp t, by simpa using hx, rfl⟩)
    simp only [Act.eval, Array.getD_eq_getD_getElem?, h t ht]
  | _ => rfl

theorem put_get_ne (a : Act) {d t : Tmp} (v : Value) (h : d ≠ t) : (a.put (some d) v).tmps[t]? = a.tmps[t]? := by
  simp [Act.put, Array.getElem?_setIfInBounds_ne h]
theorem put_get_eq (a : Act) {d : Tmp} (v : Value) (h : d < a.tmps.size) : (a.put (some d) v).tmps[d]? = some v := by
  simp [Act.put, h]
theorem put_size (a : Act) (d : Option Tmp) (v : Value) : (a.put d v).tmps.size = a.tmps.size := by
  cases d <;> simp [Act.put]
theorem put_def (a : Act) (d : Option Tmp) (v : Value) : (a.put d v).defers = a.defers := by
  cases d <;> rfl

/-- The lexical walk's end: one frame in which every operation of the head has its value. -/
theorem wpData_end {R : Act → Prop} (N : Nat) : ∀ (l : List Oper) (a : Act), okHead l = true → sizeB l N = true → (∀ o ∈ l, ∀ cs b, o.op ≠ .select cs b) → a.tmps.size = N → wpData P w0 R l a →
    ∃ e : Act, R e ∧ e.defers = a.defers ∧ e.tmps.size = N ∧ (∀ t, t ∉ dsts l → e.tmps[t]? = a.tmps[t]?) ∧ ∀ o ∈ l, isAl o = false → ∃ d v, o.dst = some d ∧ e.tmps[d]? = some v ∧ RQ P o e w0 v
  | [], a, _, _, _, hN, h => ⟨a, h, rfl, hN, fun _ _ => rfl, fun _ h => by cases h⟩
  | o :: rest, a, hk, hz, hs, hN, h => by
    simp only [okHead, Bool.and_eq_true] at hk
    obtain ⟨⟨⟨hd, hg⟩, hl⟩, hr⟩ := hk
    cases hdst : o.dst with
    | none => rw [hdst] at hd; cases hd
    | some d =>
      rw [hdst] at hd
      have hdr : d ∉ dsts rest := by simpa using hd
      have hds : dsts (o :: rest) = d :: dsts rest := by simp [dsts, hdst]
      have hz' : sizeB rest N = true := by
        unfold sizeB at *
        rw [hds] at hz
        simp only [List.all_cons, Bool.and_eq_true] at hz
        exact hz.2
      have hdN : d < N := by
        unfold sizeB at hz
        rw [hds] at hz
        simp only [List.all_cons, Bool.and_eq_true, decide_eq_true_eq] at hz
        exact hz.1
      have go : ∀ v, wpData P w0 R rest (a.put o.dst v) → ∃ e : Act, R e ∧ e.defers = a.defers ∧ e.tmps.size = N ∧ (∀ t, t ∉ dsts (o :: rest) → e.tmps[t]? = a.tmps[t]?) ∧ e.tmps[d]? = some v ∧
          ∀ o ∈ rest, isAl o = false → ∃ d v, o.dst = some d ∧ e.tmps[d]? = some v ∧ RQ P o e w0 v := fun v hv => by
        obtain ⟨e, h1, h2, h3, h4, h5⟩ := wpData_end N rest (a.put o.dst v) hr hz' (fun o ho => hs o (List.mem_cons_of_mem _ ho)) (by rw [put_size, hN]) hv
        refine ⟨e, h1, by rw [h2, put_def], h3, fun t ht => ?_, ?_, h5⟩
        · rw [hds] at ht
          simp only [List.mem_cons, not_or] at ht
          rw [h4 t ht.2, hdst, put_get_ne _ _ (Ne.symm ht.1)]
        · rw [h4 d hdr, hdst, put_get_eq _ _ (by rw [hN]; exact hdN)]
      simp only [wpData] at h
      by_cases ha : isAl o = true
      · rw [if_pos ha] at h
        obtain ⟨e, h1, h2, h3, h4, _, h6⟩ := go _ h
        refine ⟨e, h1, h2, h3, h4, fun o' ho' hal => ?_⟩
        rcases List.mem_cons.1 ho' with rfl | ho'
        · rw [ha] at hal; cases hal
        · exact h6 o' ho' hal
      · rw [if_neg ha] at h
        obtain ⟨v, hq, hw⟩ := h
        obtain ⟨e, h1, h2, h3, h4, h5, h6⟩ := go _ hw
        refine ⟨e, h1, h2, h3, h4, fun o' ho' hal => ?_⟩
        rcases List.mem_cons.1 ho' with rfl | ho'
        · refine ⟨d, v, hdst, h5, fun g => ?_⟩
          rw [exec_agree o' (hs o' List.mem_cons_self) e a (fun t ht => h4 t (by
            have := List.all_eq_true.1 hl t ht
            simpa using this))]
          exact hq g
        · exact h6 o' ho' hal

/-- What an operation looks at comes from outside of the head or from an operation for which it waits. -/
def depB (md : Region.Mode) (ops : Array Oper) (n : Nat) : Bool :=
  (List.range n).all fun i => (List.range n).all fun j =>
    match ops[i]?, ops[j]? with
    | some oi, some oj => (match oj.dst with | some d => !(oi.looksAt #[]).contains d | none => true) || (Region.waitsFor md ops i j && !isAl oj)
    | _, _ => true
/-- Edges lead back. -/
def backB (ops : Array Oper) (n : Nat) : Bool :=
  (List.range n).all fun i => match ops[i]? with | some o => o.after.all (fun e => decide (e.on < i)) | none => false
/-- New variables of one type. -/
def alB (T : TypeId) (l : List Oper) : Bool := l.all fun o => match o.op with | .alloc t => t == T | _ => true

/-- The frame and the world behind the head, some of its operations listed. -/
structure HInv (T : TypeId) (obj : Obj) (w0 : World) (e : Act) (l : List Oper) (n : Nat) (L : Array Bool) (a : Act) (w : World) : Prop where
  bel : Below w0.heap.size w0 w
  dfr : a.defers = e.defers
  siz : a.tmps.size = e.tmps.size
  old : ∀ t, (∀ (i : Nat) (o : Oper), i < n → l[i]? = some o → (L.getD i false = false ∨ isAl o = true) → o.dst ≠ some t) → a.tmps[t]? = e.tmps[t]?
  als : ∀ (i : Nat) (o : Oper), i < n → l[i]? = some o → isAl o = true → L.getD i false = true → ∃ d b, o.dst = some d ∧ a.tmps[d]? = some (.pointer (some ⟨b, 0, none⟩)) ∧ w0.heap.size ≤ b ∧ b < w.heap.size ∧ w.heap[b]? = some obj
  far : ∀ (i : Nat) (o : Oper) (j : Nat) (o' : Oper) (d d' : Tmp), i < n → j < n → i ≠ j → l[i]? = some o → l[j]? = some o' → isAl o = true → isAl o' = true → L.getD i false = true → L.getD j false = true → o.dst = some d → o'.dst = some d' → a.tmps[d]? ≠ a.tmps[d']?

theorem dst_inj : ∀ (l : List Oper), okHead l = true → ∀ (i j : Nat) (o o' : Oper) (d : Tmp), l[i]? = some o → l[j]? = some o' → o.dst = some d → o'.dst = some d → i = j
  | [], _, i, _, o, _, _, h, _, _, _ => by simp at h
  | o0 :: rest, hk, i, j, o, o', d, hi, hj, hd, hd' => by
    simp only [okHead, Bool.and_eq_true] at hk
    obtain ⟨⟨⟨h1, _⟩, _⟩, hr⟩ := hk
    have no : ∀ (k : Nat) (x : Oper), rest[k]? = some x → o0.dst = some d → x.dst = some d → False := fun k x hx h0 hxd => by
      rw [h0] at h1
      have : d ∉ dsts rest := by simpa using h1
      exact this (List.mem_filterMap.2 ⟨x, List.mem_of_getElem? hx, hxd⟩)
    match i, j, hi, hj with
    | 0, 0, _, _ => rfl
    | 0, j + 1, hi, hj =>
      simp at hi hj
      subst hi
      exact (no j o' hj hd hd').elim
    | i + 1, 0, hi, hj =>
      simp at hi hj
      subst hj
      exact (no i o hi hd' hd).elim
    | i + 1, j + 1, hi, hj =>
      simp at hi hj
      exact congrArg (· + 1) (dst_inj rest hr i j o o' d hi hj hd hd')

theorem okHead_at : ∀ (l : List Oper), okHead l = true → ∀ (i : Nat) (o : Oper), l[i]? = some o → o.guard.isNone = true ∧ ∃ d, o.dst = some d
  | [], _, i, o, h => by simp at h
  | o0 :: rest, hk, i, o, hi => by
    simp only [okHead, Bool.and_eq_true] at hk
    obtain ⟨⟨⟨h1, h2⟩, _⟩, hr⟩ := hk
    match i, hi with
    | 0, hi =>
      simp at hi
      subst hi
      refine ⟨h2, ?_⟩
      cases hd : o0.dst with
      | none => rw [hd] at h1; cases h1
      | some d => exact ⟨d, rfl⟩
    | i + 1, hi => exact okHead_at rest hr i o (by simpa using hi)

theorem run_alloc {T : TypeId} {obj : Obj} (ev : Operand → Value) (o : Oper) (hop : o.op = .alloc T) (w : World)
    (hT : ∀ w : World, (Instr.alloc T true (.tuple #[])).run P w = .ok (.pointer (some ⟨w.heap.size, 0, none⟩)) (w.alloc obj)) :
    (execOp ev o).run P w = .ok (.value (.pointer (some ⟨w.heap.size, 0, none⟩))) (w.alloc obj) := by
  obtain ⟨dst, op, type, pos, after, guard⟩ := o
  simp only at hop
  subst hop
  have h := hT w
  show ((Instr.alloc T true (.tuple #[])) >>= fun x => pure (.value x) : Sem Next).run P w = _
  generalize Instr.alloc T true (.tuple #[]) = m at h
  simp [go_sem, h]

/-- One operation of the head, whichever comes up. -/
theorem head_step {T : TypeId} {obj : Obj} {l : List Oper} {n i : Nat} {L : Array Bool} {e a : Act} {w : World} {md : Region.Mode} {Q : Exit → Act → World → Prop} {K : Act → World → Prop}
    (hT : ∀ w : World, (Instr.alloc T true (.tuple #[])).run P w = .ok (.pointer (some ⟨w.heap.size, 0, none⟩)) (w.alloc obj))
    (hl : ∀ k, k < n → ops[k]? = l[k]?) (hk : okHead l = true) (hz : sizeB l e.tmps.size = true) (hal : alB T l = true) (hs : ∀ o ∈ l, ∀ cs b, o.op ≠ .select cs b) (hdep : depB md ops n = true)
    (he : ∀ o ∈ l, isAl o = false → ∃ d v, o.dst = some d ∧ e.tmps[d]? = some v ∧ RQ P o e w0 v)
    (hn : n = l.length) (hi : i ∈ Region.ready md ops L) (hin : i < n) (hsz : n ≤ L.size) (I : HInv T obj w0 e l n L a w)
    (next : ∀ a' w', HInv T obj w0 e l n (L.setIfInBounds i true) a' w' → K a' w') : wpOp P ops Q i K a w := by
  obtain ⟨hun, o, ho, hall⟩ := mem_ready.1 hi
  have hol : l[i]? = some o := by rw [← hl i hin]; exact ho
  have hmem : o ∈ l := List.mem_of_getElem? hol
  obtain ⟨hg, d, hd⟩ := okHead_at l hk i o hol
  have hdN : d < e.tmps.size := by
    have := List.all_eq_true.1 hz d (List.mem_filterMap.2 ⟨o, hmem, hd⟩)
    simpa using this
  have hset : ∀ k, (L.setIfInBounds i true).getD k false = if i = k then true else L.getD k false := fun k => by
    by_cases hik : i = k
    · subst hik
      rw [if_pos rfl]
      simp [Array.getD_eq_getD_getElem?, show i < L.size by omega]
    · rw [if_neg hik]
      simp [Array.getD_eq_getD_getElem?, Array.getElem?_setIfInBounds_ne hik]
  have hLi : L.getD i false = false := getD_both hun
  have hsame : isAl o = false → execOp a.eval o = execOp e.eval o := fun hna => by
    refine exec_agree o (hs o hmem) a e fun t ht => I.old t fun j oj hj hoj hor hdj => ?_
    have h1 := List.all_eq_true.1 (List.all_eq_true.1 hdep i (List.mem_range.2 hin)) j (List.mem_range.2 hj)
    have hoj' : ops[j]? = some oj := by rw [hl j hj]; exact hoj
    simp only [ho, hoj', hdj] at h1
    simp only [Bool.or_eq_true, Bool.and_eq_true, Bool.not_eq_true'] at h1
    rcases h1 with h1 | ⟨h1, h2⟩
    · have := (List.contains_iff_mem).2 ht
      rw [h1] at this
      cases this
    · obtain ⟨o', ho', ed, hed, hb, hon⟩ := Region.waitsFor_spec h1
      rw [ho] at ho'
      have := hall ed (by rw [Option.some.inj ho']; exact hed) hb
      rw [hon] at this
      rcases hor with hor | hor
      · rw [this] at hor; cases hor
      · rw [h2] at hor; cases hor
  -- the invariant behind a value that is not a new variable's
  have keep : ∀ v w', isAl o = false → e.tmps[d]? = some v → Below w.heap.size w w' → HInv T obj w0 e l n (L.setIfInBounds i true) (a.put o.dst v) w' := fun v w' hna hv hb => by
    refine ⟨I.bel.trans (hb.mono I.bel.size), by rw [put_def, I.dfr], by rw [put_size, I.siz], fun t ht => ?_, fun j oj hj hoj haj hLj => ?_, fun j oj k ok dj dk hj hk' hjk hoj hok haj hak hLj hLk hdj hdk => ?_⟩
    · by_cases htd : d = t
      · subst htd
        rw [hd, put_get_eq _ _ (by rw [I.siz]; exact hdN), hv]
      · rw [hd, put_get_ne _ _ htd]
        refine I.old t fun j oj hj hoj hor hdj => ?_
        refine ht j oj hj hoj ?_ hdj
        rw [hset]
        by_cases hij : i = j
        · subst hij
          rw [hol] at hoj
          have := Option.some.inj hoj
          subst this
          rw [hd] at hdj
          exact absurd (Option.some.inj hdj) htd
        · rw [if_neg hij]; exact hor
    · rw [hset] at hLj
      have hij : i ≠ j := fun h => by subst h; rw [hol] at hoj; rw [Option.some.inj hoj] at hna; rw [hna] at haj; cases haj
      rw [if_neg hij] at hLj
      obtain ⟨dj, b, h1, h2, h3, h4, h5⟩ := I.als j oj hj hoj haj hLj
      have hne : d ≠ dj := fun h => hij (dst_inj l hk i j o oj d hol hoj hd (by rw [h]; exact h1))
      exact ⟨dj, b, h1, by rw [hd, put_get_ne _ _ hne]; exact h2, h3, Nat.lt_of_lt_of_le h4 hb.size, by rw [hb.block b h4]; exact h5⟩
    · rw [hset] at hLj hLk
      have hij : i ≠ j := fun h => by subst h; rw [hol] at hoj; rw [Option.some.inj hoj] at hna; rw [hna] at haj; cases haj
      have hik : i ≠ k := fun h => by subst h; rw [hol] at hok; rw [Option.some.inj hok] at hna; rw [hna] at hak; cases hak
      rw [if_neg hij] at hLj
      rw [if_neg hik] at hLk
      have hne : d ≠ dj := fun h => hij (dst_inj l hk i j o oj d hol hoj hd (by rw [h]; exact hdj))
      have hne' : d ≠ dk := fun h => hik (dst_inj l hk i k o ok d hol hok hd (by rw [h]; exact hdk))
      rw [hd, put_get_ne _ _ hne, put_get_ne _ _ hne']
      exact I.far j oj k ok dj dk hj hk' hjk hoj hok haj hak hLj hLk hdj hdk
  have hwant : Region.wanted o (yielded ops a.tmps) = true := by
    unfold Region.wanted
    cases hgo : o.guard with
    | none => rfl
    | some x => rw [hgo] at hg; cases hg
  unfold wpOp
  simp only [ho, hwant, if_true]
  refine .inl ?_
  unfold Oper.wp
  by_cases hna : isAl o = false
  · rw [hsame hna]
    obtain ⟨d', v, hd', hv, hq⟩ := he o hmem hna
    rw [hd] at hd'
    have := Option.some.inj hd'
    subst this
    have h3 := hq ⟨w, I.bel⟩
    simp only at h3
    generalize (execOp e.eval o).run P w = r at *
    cases r with
    | ok x w' =>
      cases x <;> simp only [rUpon] at h3 <;> simp only [Oper.upon]
      case value u =>
        obtain ⟨e1, e2⟩ := h3
        rw [e1, e2]
        exact next _ _ (keep v w hna hv (Below.refl _ _))
      case enter f args =>
        obtain ⟨e1, hc⟩ := h3
        rw [e1]
        exact hc.mono fun e w'' ⟨he, hw''⟩ => by subst he; exact next _ _ (keep v w'' hna hv hw'')
    | halt x w' => simp only [rUpon] at h3
  · have hya : isAl o = true := by simpa using hna
    have hop : o.op = .alloc T := by
      have h1 := List.all_eq_true.1 hal o hmem
      unfold isAl at hya
      split at hya
      · rename_i t ht
        rw [ht] at h1
        simp only [beq_iff_eq] at h1
        rw [ht, h1]
      · cases hya
    have hrun : (execOp a.eval o).run P w = .ok (.value (.pointer (some ⟨w.heap.size, 0, none⟩))) (w.alloc obj) := run_alloc a.eval o hop w hT
    rw [hrun]
    simp only [Oper.upon]
    have hbl : Below w.heap.size w (w.alloc obj) := (Below.refl _ _).alloc (Nat.le_refl _) _
    have hnew : (w.alloc obj).heap[w.heap.size]? = some obj := by
      show (w.heap.push obj)[w.heap.size]? = _
      simp
    refine next _ _ ⟨I.bel.trans (hbl.mono I.bel.size), by rw [put_def, I.dfr], by rw [put_size, I.siz], fun t ht => ?_, fun j oj hj hoj haj hLj => ?_, fun j oj k ok dj dk hj hk' hjk hoj hok haj hak hLj hLk hdj hdk => ?_⟩
    · by_cases htd : d = t
      · subst htd
        exact absurd hd (ht i o hin hol (.inr hya))
      · rw [hd, put_get_ne _ _ htd]
        refine I.old t fun j oj hj hoj hor hdj => ?_
        refine ht j oj hj hoj ?_ hdj
        rw [hset]
        by_cases hij : i = j
        · subst hij
          rw [hol] at hoj
          exact .inr (by rw [← Option.some.inj hoj]; exact hya)
        · rw [if_neg hij]; exact hor
    · by_cases hij : i = j
      · subst hij
        rw [hol] at hoj
        have := Option.some.inj hoj
        subst this
        exact ⟨d, w.heap.size, hd, by rw [hd, put_get_eq _ _ (by rw [I.siz]; exact hdN)], I.bel.size, by simp, hnew⟩
      · rw [hset, if_neg hij] at hLj
        obtain ⟨dj, b, h1, h2, h3, h4, h5⟩ := I.als j oj hj hoj haj hLj
        have hne : d ≠ dj := fun h => hij (dst_inj l hk i j o oj d hol hoj hd (by rw [h]; exact h1))
        exact ⟨dj, b, h1, by rw [hd, put_get_ne _ _ hne]; exact h2, h3, Nat.lt_of_lt_of_le h4 hbl.size, by rw [hbl.block b h4]; exact h5⟩
    · have one : ∀ j oj dj, j < n → l[j]? = some oj → isAl oj = true → i ≠ j → (L.setIfInBounds i true).getD j false = true → oj.dst = some dj → (a.put o.dst (.pointer (some ⟨w.heap.size, 0, none⟩))).tmps[dj]? = a.tmps[dj]? ∧ a.tmps[dj]? ≠ some (.pointer (some ⟨w.heap.size, 0, none⟩)) := fun j oj dj hj hoj haj hij hLj hdj => by
        rw [hset, if_neg hij] at hLj
        obtain ⟨dj', b, h1, h2, h3, h4, h5⟩ := I.als j oj hj hoj haj hLj
        rw [hdj] at h1
        have := Option.some.inj h1
        subst this
        have hne : d ≠ dj := fun h => hij (dst_inj l hk i j o oj d hol hoj hd (by rw [h]; exact hdj))
        refine ⟨by rw [hd, put_get_ne _ _ hne], ?_⟩
        rw [h2]
        intro h
        simp only [Option.some.injEq, Value.pointer.injEq, Addr.mk.injEq] at h
        omega
      have own : (a.put o.dst (.pointer (some ⟨w.heap.size, 0, none⟩))).tmps[d]? = some (.pointer (some ⟨w.heap.size, 0, none⟩)) := by rw [hd, put_get_eq _ _ (by rw [I.siz]; exact hdN)]
      by_cases hij : i = j
      · subst hij
        rw [hol] at hoj
        have := Option.some.inj hoj
        subst this
        rw [hd] at hdj
        have := Option.some.inj hdj
        subst this
        obtain ⟨h1, h2⟩ := one k ok dk hk' hok hak hjk hLk hdk
        rw [own, h1]
        exact Ne.symm h2
      · by_cases hik : i = k
        · subst hik
          rw [hol] at hok
          have := Option.some.inj hok
          subst this
          rw [hd] at hdk
          have := Option.some.inj hdk
          subst this
          obtain ⟨h1, h2⟩ := one j oj dj hj hoj haj hij hLj hdj
          rw [own, h1]
          exact h2
        · obtain ⟨h1, _⟩ := one j oj dj hj hoj haj hij hLj hdj
          obtain ⟨h2, _⟩ := one k ok dk hk' hok hak hik hLk hdk
          rw [h1, h2]
          rw [hset, if_neg hij] at hLj
          rw [hset, if_neg hik] at hLk
          exact I.far j oj k ok dj dk hj hk' hjk hoj hok haj hak hLj hLk hdj hdk
end
end Go.Proofs.Ytdnndmpdlelliaa
