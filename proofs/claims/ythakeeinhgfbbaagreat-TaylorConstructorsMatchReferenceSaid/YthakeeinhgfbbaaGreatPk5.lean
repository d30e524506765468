/-
  Regions by predicates; polynomials written out; what is decided of them.
-/
import Derived.Test.YthakeeinhgfbbaaGreatPc
import Derived.Test.YthakeeinhgfbbaaGreatMl
import Derived.Test.YthakeeinhgfbbaaGreatRg
import Derived.Test.YthakeeinhgfbbaaGreatR2
namespace Go.Proofs.YthakeeinhgfbbaaGreat
open Go.ChangeShapes Go.WideShapes Go.ChangeAt Go.RowKit
set_option linter.unusedVariables false
set_option linter.unusedSimpArgs false
set_option maxRecDepth 100000

section
variable {P : Program}
theorem upon_enter {w w1 : World} {K : Value → World → Prop} {r : Result Next} {f : FuncId} {args : Array Value} (hr : r = .ok (.enter f args) w1) (hw : w1 = w) (h : Calls P f args w fun e w'' => ∃ v, e = .returned v ∧ Below w.heap.size w w'' ∧ K v w'') : uponP P w K r := by
  subst hr
  exact ⟨hw, h⟩
theorem upon_value {w w1 : World} {K : Value → World → Prop} {r : Result Next} {v : Value} (hr : r = .ok (.value v) w1) (hB : Below w.heap.size w w1) (h : K v w1) : uponP P w K r := by
  subst hr
  exact ⟨hB, h⟩
/-- A guarded operation whose guard holds. -/
theorem ob_gtrue {ops : Array Oper} {ds : List Tmp} {a0 : Act} {w0 : World} {Φ : Tmp → Value → World → Prop} {o : Oper} (ts : List Tmp) (j : Nat) (want : Bool) (u : Tmp) (hg : o.guard = some (j, want)) (hj : ((ops[j]?).bind (·.dst)) = some u) (ht : o.looksAt #[] = ts)
    (hin : inL u ds = true) (hu : ∀ v w, Φ u v w → v = .bool want)
    (h : ∀ (a : Act) (g : Grown w0), seenAll Φ ds a0 a g.w ts → uponP P g.w (meets Φ o.dst) ((execOp a.eval o).run P g.w)) : Obl P ops ds a0 w0 Φ o :=
  ob_guard ts j want u hg hj ht fun a g hs hsu => by
    refine ⟨fun _ => h a g hs, fun hn => ?_⟩
    obtain ⟨v, hv, hp⟩ := seen_in hin hsu
    exact absurd (by rw [hv, hu v _ hp]) hn
end
theorem region_pred_raw {P : Program} {id : Nat} {Q : Exit → Act → World → Prop} {a0 : Act} {w : World} {l : List Oper} (Φ : Tmp → Value → World → Prop) (hm : P.follows .mixedOrders = true) (hB : predB l a0.tmps.size = true)
    (hΦ : ∀ t v w1 w2, Below w1.heap.size w1 w2 → Φ t v w1 → Φ t v w2)
    (hO : eachO (Obl P l.toArray (dsts l) a0 w Φ) l)
    (k : ∀ (a : Act) (g : Grown w), a.defers = a0.defers → a.tmps.size = a0.tmps.size → (∀ t, t ∉ dsts l → a.tmps[t]? = a0.tmps[t]?) → (∀ d ∈ dsts l, ∃ v, a.tmps[d]? = some v ∧ Φ d v g.w) → Q .normal a g.w) :
    (Code.region id l.toArray true).wp P Q a0 w := by
  refine wp_region_any hm ?_
  have h0 : cnt l.length (Array.replicate l.toArray.size false) = l.toArray.size := by
    unfold cnt
    simp only [List.size_toArray]
    rw [List.countP_eq_length.2]
    · simp
    · intro i hi
      have := List.mem_range.1 hi
      simp [this]
  refine pred_any Φ hB hΦ (eachO_at hO) k _ _ _ _ h0 ⟨⟨rfl, rfl, rfl, Nat.le_refl _, fun _ _ => rfl⟩, rfl, rfl, by simp, fun _ _ => rfl, fun i o d hi hd hL => ?_⟩
  exfalso
  have : i < l.length := (List.getElem?_eq_some_iff.1 hi).1
  simp [this] at hL
/-- Nothing is looked at before it is made. -/
def orderB (ops : Array Oper) : List Oper → Bool
  | [] => true
  | o :: r => (o.looksAt ops).all (fun t => !((dsts (o :: r)).contains t)) && orderB ops r
def listB (ops : Array Oper) (l : List Oper) (N : Nat) : Bool := distB (dsts l) && allDst l && sizeB l N && orderB ops l
theorem distB_nodup : ∀ (l : List Tmp), distB l = true → l.Nodup
  | [], _ => List.nodup_nil
  | d :: r, h => by
    simp only [distB, Bool.and_eq_true] at h
    exact List.nodup_cons.2 ⟨by simpa using h.1, distB_nodup r h.2⟩
theorem list_pred_go {P : Program} {ops : Array Oper} {l : List Oper} {Q : Exit → Act → World → Prop} {a0 : Act} {w0 : World} (Φ : Tmp → Value → World → Prop) (hd : (dsts l).Nodup) (hz : sizeB l a0.tmps.size = true) (ha : allDst l = true)
    (hΦ : ∀ t v w1 w2, Below w1.heap.size w1 w2 → Φ t v w1 → Φ t v w2) (hO : ∀ o ∈ l, Obl P ops (dsts l) a0 w0 Φ o)
    (k : ∀ (a : Act) (w : World), Below w0.heap.size w0 w → a.defers = a0.defers → a.tmps.size = a0.tmps.size → (∀ d ∈ dsts l, ∃ v, a.tmps[d]? = some v ∧ Φ d v w) → Q .normal a w) :
    ∀ (suf pre : List Oper) (a : Act) (w : World), l = pre ++ suf → Below w0.heap.size w0 w → a.defers = a0.defers → a.tmps.size = a0.tmps.size → (∀ t, t ∉ dsts l → a.tmps[t]? = a0.tmps[t]?) → (∀ d ∈ dsts pre, ∃ v, a.tmps[d]? = some v ∧ Φ d v w) → orderB ops suf = true → wpList P ops Q suf a w
  | [], pre, a, w, e, hb, h1, h2, h3, h4, _ => k a w hb h1 h2 (by rw [e, List.append_nil]; exact h4)
  | o :: r, pre, a, w, e, hb, h1, h2, h3, h4, ho => by
    have hmem : o ∈ l := by rw [e]; simp
    obtain ⟨d, hdo⟩ : ∃ d, o.dst = some d := Option.isSome_iff_exists.1 (List.all_eq_true.1 ha o hmem)
    have hds : dsts l = dsts pre ++ d :: dsts r := by rw [e]; simp [dsts, hdo]
    have hdm : d ∈ dsts l := by rw [hds]; simp
    have hdN : d < a.tmps.size := by
      rw [h2]
      have := List.all_eq_true.1 hz d hdm
      simpa using this
    have hdp : d ∉ dsts pre := by
      rw [hds] at hd
      intro h
      exact (List.nodup_append.1 hd).2.2 d h d List.mem_cons_self rfl
    simp only [orderB, Bool.and_eq_true] at ho
    have hlook : seenAll Φ (dsts l) a0 a w (o.looksAt ops) := seenAll_of _ fun t ht => by
      unfold seen
      by_cases hin : inL t (dsts l) = true
      · rw [if_pos hin]
        have hm := (inL_iff t _).1 hin
        have hn := List.all_eq_true.1 ho.1 t ht
        have hn' : t ∉ d :: dsts r := by
          have e2 : dsts (o :: r) = d :: dsts r := by simp [dsts, hdo]
          rw [e2] at hn
          simpa using hn
        rw [hds] at hm
        rcases List.mem_append.1 hm with h | h
        · exact h4 t h
        · exact absurd h hn'
      · rw [if_neg hin]
        exact h3 t fun h => hin ((inL_iff t _).2 h)
    have step : ∀ v w', Below w.heap.size w w' → meets Φ o.dst v w' → wpList P ops Q r (a.put o.dst v) w' := fun v w' hbw hv => by
      refine list_pred_go Φ hd hz ha hΦ hO k r (pre ++ [o]) _ _ (by rw [e]; simp) (hb.trans (hbw.mono hb.size)) (by rw [put_def, h1]) (by rw [put_size, h2]) (fun t ht => ?_) (fun x hx => ?_) ho.2
      · have hne : d ≠ t := fun e => ht (e ▸ hdm)
        rw [hdo, put_get_ne _ _ hne]
        exact h3 t ht
      · have e3 : dsts (pre ++ [o]) = dsts pre ++ [d] := by simp [dsts, hdo]
        rw [e3] at hx
        rcases List.mem_append.1 hx with hx | hx
        · obtain ⟨u, q1, q2⟩ := h4 x hx
          have hne : d ≠ x := fun e => hdp (e ▸ hx)
          exact ⟨u, by rw [hdo, put_get_ne _ _ hne]; exact q1, hΦ _ _ _ _ hbw q2⟩
        · obtain rfl : x = d := by simpa using hx
          rw [hdo] at hv ⊢
          exact ⟨v, put_get_eq _ _ hdN, hv⟩
    have hob := hO o hmem a ⟨w, hb⟩ hlook
    unfold wpList
    by_cases hw : Region.wanted o (yielded ops a.tmps) = true
    · rw [if_pos hw] at hob ⊢
      refine .inl ?_
      unfold Oper.wp
      generalize hr : (execOp a.eval o).run P w = res at hob
      cases res with
      | ok n w' =>
        cases n with
        | value u =>
          rw [Oper.upon_value]
          exact step u w' hob.1 hob.2
        | enter f args =>
          obtain ⟨rfl, hc⟩ := hob
          rw [Oper.upon_enter]
          refine hc.mono ?_
          rintro e w'' ⟨v, rfl, hbw, hv⟩
          exact step v w'' hbw hv
        | _ => exact hob.elim
      | _ => exact hob.elim
    · rw [if_neg hw] at hob ⊢
      exact step undef w (Below.refl _ _) hob
/-- The rest of a region in the text's order, by predicates. -/
theorem list_pred {P : Program} {ops : Array Oper} {l : List Oper} {Q : Exit → Act → World → Prop} {a0 : Act} {w0 : World} (Φ : Tmp → Value → World → Prop) (hB : listB ops l a0.tmps.size = true)
    (hΦ : ∀ t v w1 w2, Below w1.heap.size w1 w2 → Φ t v w1 → Φ t v w2) (hO : eachO (Obl P ops (dsts l) a0 w0 Φ) l)
    (k : ∀ (a : Act) (w : World), Below w0.heap.size w0 w → a.defers = a0.defers → a.tmps.size = a0.tmps.size → (∀ d ∈ dsts l, ∃ v, a.tmps[d]? = some v ∧ Φ d v w) → Q .normal a w) : wpList P ops Q l a0 w0 := by
  simp only [listB, Bool.and_eq_true] at hB
  exact list_pred_go Φ (distB_nodup _ hB.1.1.1) hB.1.2 hB.1.1.2 hΦ (eachO_at hO) k l [] a0 w0 rfl (Below.refl _ _) rfl rfl (fun _ _ => rfl) (fun d h => by cases h) hB.2
theorem steady_bx (l : List (Int × Int)) : Steady (fun u w' => Bx w' u l) := fun v w1 w2 hb h => h.grow hb
theorem bx_lit1 (W : World) (x y : Int) : Bx (W.alloc (.cells #[.int .i64 x, .int .i64 y] 24)) (.slice (some ⟨W.heap.size, 0, none⟩) 1 1) [(x, y)] := by
  refine ⟨by simp [maxLen], _, 1, rfl, fun k p hp => ⟨W.heap.size, 0, rfl, by simp, ?_⟩⟩
  match k, hp with
  | 0, hp =>
    simp at hp
    subst hp
    exact ⟨by simp [go_sem], by simp [go_sem]⟩
theorem bx_lit2 (W : World) (x y z u : Int) : Bx (W.alloc (.cells #[.int .i64 x, .int .i64 y, .int .i64 z, .int .i64 u] 24)) (.slice (some ⟨W.heap.size, 0, none⟩) 2 2) [(x, y), (z, u)] := by
  refine ⟨by simp [maxLen], _, 2, rfl, fun k p hp => ⟨W.heap.size, 0, rfl, by simp, ?_⟩⟩
  match k, hp with
  | 0, hp =>
    simp at hp
    subst hp
    exact ⟨by simp [go_sem], by simp [go_sem]⟩
  | 1, hp =>
    simp at hp
    subst hp
    exact ⟨by simp [go_sem], by simp [go_sem]⟩

theorem steady_tx (l : List Tm) : Steady (fun u w' => Tx w' u l) := fun v w1 w2 hb h => h.grow hb
/-- A slice of terms written out. -/
theorem tx_cells (W : World) (l : List Tm) (h6 : ∀ t ∈ l, t.2.length = 6) (hl : l.length ≤ maxLen) : Tx (W.alloc (.cells (ct l).toArray 63)) (.slice (some ⟨W.heap.size, 0, none⟩) l.length l.length) l := by
  refine ⟨hl, _, _, rfl, fun i x hx => ⟨W.heap.size, 0, rfl, by simp, fun j u hu => ?_⟩⟩
  have h1 := ct_get h6 i x hx j u hu
  have h2 := World.alloc_heap_new W (.cells (ct l).toArray 63)
  simp only [World.cell?, h2, Nat.zero_add]
  simpa using h1
def evB (e : List Int) : Bool := e.length == 6 && e.all fun x => decide (0 ≤ x ∧ x ≤ 255)
def tnB (t : Tm) : Bool := evB t.2 && decide (-2147483648 < t.1 ∧ t.1 < 2147483648)
theorem evB_ok {e : List Int} (h : evB e = true) : EV e := by
  simp only [evB, Bool.and_eq_true, beq_iff_eq, List.all_eq_true, decide_eq_true_eq] at h
  exact h
/-- A polynomial of numbers, decided. -/
theorem tn_ok {l : List Tm} (h : l.all tnB = true) : ∀ t ∈ l, TV t ∧ Num t.1 := fun t ht => by
  have := List.all_eq_true.1 h t ht
  simp only [tnB, Bool.and_eq_true, decide_eq_true_eq] at this
  have hn := this.2
  exact ⟨⟨evB_ok this.1, by omega, by omega⟩, hn⟩
theorem tv_ok {l : List Tm} (h : l.all tnB = true) : ∀ t ∈ l, TV t := fun t ht => (tn_ok h t ht).1
theorem ts_ok {l : List Tm} (h : l.all tnB = true) : ∀ t ∈ l, TV t ∧ Small62 t := fun t ht => ⟨(tn_ok h t ht).1, by have := (tn_ok h t ht).2; unfold Num at this; unfold Small62; omega⟩
theorem len6_ok {l : List Tm} (h : l.all tnB = true) : ∀ t ∈ l, t.2.length = 6 := fun t ht => (tn_ok h t ht).1.1.1
def okB (l : List Tm) (i : Nat) : Bool := match l[i]? with
  | none => false
  | some t => decide (t.1 ≠ 0) && decide (degE t.2 ≤ 6) && (i == 0 || match l[i - 1]? with | none => false | some s => decide (cmpE s.2 t.2 < 0))
def vpB (l : List Tm) : Bool := (List.range l.length).all (okB l) && decide (l.length ≤ 100) && !l.any noNum
theorem okB_iff (l : List Tm) (i : Nat) : okB l i = true ↔ okT l i := by
  unfold okB okT
  cases h : l[i]? with
  | none => simp
  | some t =>
    simp only [Bool.and_eq_true, Bool.or_eq_true, decide_eq_true_eq, beq_iff_eq, Option.some.injEq, exists_eq_left', and_assoc]
    refine and_congr_right fun _ => and_congr_right fun _ => ?_
    cases hs : l[i - 1]? with
    | none => simp
    | some s =>
      simp only [decide_eq_true_eq, Option.some.injEq, exists_eq_left']
      constructor
      · rintro (h0 | h0) hp
        · omega
        · exact h0
      · intro h0
        by_cases q : i = 0
        · exact .inl q
        · exact .inr (h0 (by omega))
theorem vpB_iff (l : List Tm) : vpB l = true ↔ VP l := by
  unfold vpB VP allT
  simp only [Bool.and_eq_true, decide_eq_true_eq, List.all_eq_true, List.mem_range, okB_iff, Bool.not_eq_true', and_assoc]
theorem pvalid_b (v : Value) (l : List Tm) (w : World) (hv : Tx w v l) (hl : ∀ t ∈ l, TV t) :
    Calls Tryz.prog 51 #[v] w fun e w' => e = .returned (.bool (vpB l)) ∧ Below w.heap.size w w' := pvalid_ok v l (vpB l) w hv hl (vpB_iff l)
end Go.Proofs.YthakeeinhgfbbaaGreat
