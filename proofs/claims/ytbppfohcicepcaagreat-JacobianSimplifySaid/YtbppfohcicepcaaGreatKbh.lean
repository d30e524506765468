/-
  PredIn U3 U4
-/
import Derived.Test.YtbppfohcicepcaaGreatKba
import Derived.Test.YtbppfohcicepcaaGreatKbe
import Derived.Test.YtbppfohcicepcaaGreatKbg
import Derived.RangeFuncNested
import Derived.RangeFuncCalls
import Derived.OrdersIn
import Derived.TacticsIn
import Derived.Laws.EntriesVeiled
namespace Go.Proofs.YtbppfohcicepcaaGreat
open Go.RowKit
set_option linter.unusedVariables false
set_option linter.unusedSimpArgs false
end Go.Proofs.YtbppfohcicepcaaGreat
namespace Go.Proofs.YtbppfohcicepcaaGreat
open Go.RowKit
set_option linter.unusedVariables false
set_option linter.unusedSimpArgs false
section
variable {P : Program} {F : Fence} {nf : Nat}
def noDef (l : List Oper) : Bool := l.all fun o => match o.op with | .defer _ => false | _ => true
def predInB (l : List Oper) (n : Nat) (N : Nat) : Bool := distB (dsts (l.take n)) && allDst (l.take n) && waitB l.toArray (dsts (l.take n)) (l.take n) && leadB 0 (l.take n) && noDef (l.take n) && sizeB (l.take n) N &&
  decide (n < l.length) && Region.sinkB .any l.toArray n && Region.chainB .any l.toArray n && Region.seqB .any l.toArray (l.length - n) n (Array.replicate n true ++ Array.replicate (l.length - n) false)

structure QInv (Φ : Tmp → Value → World → Prop) (w0 : World) (a0 : Act) (l : List Oper) (L : Array Bool) (a : Act) (w : World) : Prop where
  bel : Below w0.heap.size w0 w
  dfr : a.defers = a0.defers
  siz : a.tmps.size = a0.tmps.size
  old : ∀ t, t ∉ dsts l → a.tmps[t]? = a0.tmps[t]?
  val : ∀ (i : Nat) (o : Oper) (d : Tmp), l[i]? = some o → o.dst = some d → L.getD i false = true → ∃ v, a.tmps[d]? = some v ∧ Φ d v w

end
end Go.Proofs.YtbppfohcicepcaaGreat
namespace Go.Proofs.YtbppfohcicepcaaGreat
open Go.RowKit
set_option linter.unusedVariables false
set_option linter.unusedSimpArgs false
section
variable {P : Program}
theorem pred_n {l : List Oper} {n : Nat} {a0 : Act} {w0 : World} {Q : Exit → Act → World → Prop} (Φ : Tmp → Value → World → Prop) (hB : predInB l n a0.tmps.size = true)
    (hΦ : ∀ t v w1 w2, Below w1.heap.size w1 w2 → Φ t v w1 → Φ t v w2)
    (hO : ∀ o ∈ l.take n, Obl P l.toArray (dsts (l.take n)) a0 w0 Φ o)
    (k : ∀ w', Below w0.heap.size w0 w' → finP Φ w' (fun a => wpList P l.toArray Q (l.drop n) a w') (dsts (l.take n)) a0) :
    ∀ (f : Nat) (L : Array Bool) (a : Act) (w : World), cnt n L = f → HeadInv .any l.toArray n L → QInv Φ w0 a0 (l.take n) L a w → wpAny P .any l.toArray Q (f + (l.length - n)) L a w := by
  simp only [predInB, Bool.and_eq_true, decide_eq_true_eq] at hB
  obtain ⟨⟨⟨⟨⟨⟨⟨⟨⟨b1, b2⟩, b3⟩, b4⟩, b5⟩, b6⟩, b7⟩, b8⟩, b9⟩, b10⟩ := hB
  have hlen : (l.take n).length = n := by rw [List.length_take]; omega
  have hl : ∀ k, k < n → l.toArray[k]? = (l.take n)[k]? := fun k hk => by
    rw [List.getElem?_take_of_lt hk]
    simp
  have isz : ∀ d ∈ dsts (l.take n), d < a0.tmps.size := fun d hd => by
    have := List.all_eq_true.1 b6 d hd
    simpa using this
  intro f
  induction f with
  | zero =>
    intro L a w hc inv I
    have hall : ∀ i, i < n → L.getD i true = true := fun i hi => by
      unfold cnt at hc
      have := List.countP_eq_zero.1 hc i (List.mem_range.2 hi)
      simpa using this
    have hLe : L = Array.replicate n true ++ Array.replicate (l.length - n) false := by
      refine Array.ext (by rw [inv.size]; simp; omega) fun i hi hi' => ?_
      by_cases hin : i < n
      · have := hall i hin
        simp [hi] at this
        rw [this, Array.getElem_append_left (by simpa using hin)]
        simp
      · have h2 : i < l.toArray.size := by rw [← inv.size]; exact hi
        have := inv.tail i (by omega) h2
        simp [hi] at this
        rw [this, Array.getElem_append_right (by simp; omega)]
        simp
    have lst : ∀ i, i < n → L.getD i false = true := fun i hi => by
      have := hall i hi
      have hs : i < L.size := by rw [inv.size]; simp; omega
      simp [hs] at this ⊢
      exact this
    rw [Nat.zero_add]
    have hd : (l.drop n).length = l.length - n := by simp
    rw [← hd]
    refine wpAny_of_seq (l.drop n) n L a w (fun j => by simp [List.getElem?_drop]) (by rw [hd, hLe]; exact b10) ?_
    refine finP_ok (Φ := Φ) (w := w) (K := fun a => wpList P l.toArray Q (l.drop n) a w) (dsts (l.take n)) a0 I.dfr.symm I.siz.symm (fun d hd => ?_) I.old (k w I.bel)
    obtain ⟨o, ho, hdo⟩ := List.mem_filterMap.1 hd
    obtain ⟨i, hi⟩ := List.getElem?_of_mem ho
    have hin : i < n := by
      have := (List.getElem?_eq_some_iff.1 hi).1
      omega
    exact I.val i o d hi hdo (lst i hin)
  | succ f ih =>
    intro L a w hc inv I
    have hex : ∃ i, i < n ∧ L.getD i true = false := by
      by_cases h : ∃ i, i < n ∧ L.getD i true = false
      · exact h
      · exfalso
        have : cnt n L = 0 := by
          unfold cnt
          refine List.countP_eq_zero.2 fun i hi => ?_
          have hin := List.mem_range.1 hi
          cases hh : L.getD i true with
          | true => simp
          | false => exact absurd ⟨i, hin, hh⟩ h
        omega
    obtain ⟨i0, hi0, hu0⟩ := hex
    have hne : Region.ready .any l.toArray L ≠ [] := fun h0 => by
      have all : ∀ i, i < n → L.getD i false = true := fun i => by
        induction i using Nat.strongRecOn with
        | _ i ihh =>
          intro hi
          cases hh : L.getD i false with
          | true => rfl
          | false =>
            exfalso
            have hs : i < L.size := by rw [inv.size]; simp; omega
            have hsl : i < l.length := by omega
            have hmem : i ∈ Region.ready .any l.toArray L := mem_ready.2 ⟨getD_in hs hh, l[i], by simp [hsl], fun ed hed hb => by
              have hio : (l.take n)[i]? = some l[i] := by rw [← hl i hi]; simp [hsl]
              have := leadB_at (l.take n) 0 b4 i l[i] hio ed hed hb
              exact ihh ed.on (by omega) (by omega)⟩
            rw [h0] at hmem
            cases hmem
      have := all i0 hi0
      rw [getD_both hu0] at this
      cases this
    rw [show f + 1 + (l.length - n) = (f + (l.length - n)) + 1 by omega]
    refine ⟨fun h0 => absurd h0 hne, fun i hi => ?_⟩
    have hin : i < n := by
      rcases Nat.lt_or_ge i n with h | h
      · exact h
      · exact absurd hi (tail_waits b8 b9 (by simpa using b7) inv _ i0 rfl hi0 hu0 i h)
    obtain ⟨hun, o, ho, hall⟩ := mem_ready.1 hi
    have hol : (l.take n)[i]? = some o := by rw [← hl i hin]; exact ho
    have hmem : o ∈ l.take n := List.mem_of_getElem? hol
    obtain ⟨d, hd⟩ : ∃ d, o.dst = some d := by
      have := List.all_eq_true.1 b2 o hmem
      exact Option.isSome_iff_exists.1 this
    have hdm : d ∈ dsts (l.take n) := List.mem_filterMap.2 ⟨o, hmem, hd⟩
    have hdN : d < a.tmps.size := by rw [I.siz]; exact isz d hdm
    have hsL : i < L.size := by rw [inv.size]; simp; omega
    have hcnt : cnt n (L.setIfInBounds i true) = f := by
      have := cnt_set (fun k => !L.getD k true) (fun k => !(L.setIfInBounds i true).getD k true) i (by show (!L.getD i true) = true; rw [hun]; rfl) (by simp [Array.getD_eq_getD_getElem?, hsL]) (fun j hj => by
        simp only [Array.getD_eq_getD_getElem?, Array.getElem?_setIfInBounds_ne (Ne.symm hj)]) n
      rw [if_pos hin] at this
      unfold cnt at *
      omega
    have hset : ∀ k, (L.setIfInBounds i true).getD k false = if i = k then true else L.getD k false := fun k => by
      by_cases hik : i = k
      · subst hik
        rw [if_pos rfl]
        simp [Array.getD_eq_getD_getElem?, hsL]
      · rw [if_neg hik]
        simp [Array.getD_eq_getD_getElem?, Array.getElem?_setIfInBounds_ne hik]
    have step : ∀ v w', Below w.heap.size w w' → meets Φ o.dst v w' → wpAny P .any l.toArray Q (f + (l.length - n)) (L.setIfInBounds i true) (a.put o.dst v) w' := fun v w' hb hv => by
      refine ih _ _ _ hcnt (inv.set hi hin) ⟨I.bel.trans (hb.mono I.bel.size), by rw [put_def, I.dfr], by rw [put_size, I.siz], fun t ht => ?_, fun j oj dj hj hdj hLj => ?_⟩
      · have hne : d ≠ t := fun e => ht (e ▸ hdm)
        rw [hd, put_get_ne _ _ hne]
        exact I.old t ht
      · by_cases hij : i = j
        · subst hij
          rw [hol] at hj
          have e := Option.some.inj hj
          subst e
          rw [hd] at hdj
          have e := Option.some.inj hdj
          subst e
          rw [hd] at hv ⊢
          exact ⟨v, put_get_eq _ _ hdN, hv⟩
        · have hjn : j < n := by
            have := (List.getElem?_eq_some_iff.1 hj).1
            omega
          rw [hset, if_neg hij] at hLj
          obtain ⟨u, h1, h2⟩ := I.val j oj dj hj hdj hLj
          have hne : d ≠ dj := fun e => hij (dist_inj (l.take n) b1 b2 i j o oj d hol hj hd (by rw [e]; exact hdj))
          exact ⟨u, by rw [hd, put_get_ne _ _ hne]; exact h1, hΦ _ _ _ _ hb h2⟩
    have hlook : seenAll Φ (dsts (l.take n)) a0 a w (o.looksAt l.toArray) := seenAll_of _ fun t ht => by
      unfold seen
      by_cases hin' : inL t (dsts (l.take n)) = true
      · rw [if_pos hin']
        have hmt := (inL_iff t _).1 hin'
        have h1 := List.all_eq_true.1 (List.all_eq_true.1 b3 o hmem) t ht
        simp only [Bool.or_eq_true, Bool.not_eq_true'] at h1
        rcases h1 with h1 | h1
        · have := (List.contains_iff_mem).2 hmt
          rw [h1] at this
          cases this
        · obtain ⟨e, he, hb⟩ := Array.any_eq_true'.1 h1
          simp only [Bool.and_eq_true] at hb
          obtain ⟨hb1, hb2⟩ := hb
          have hlis := hall e he hb1
          have hen : e.on < n := by
            have := leadB_at (l.take n) 0 b4 i o hol e he hb1
            omega
          cases hoj : l.toArray[e.on]? with
          | none => rw [hoj] at hb2; cases hb2
          | some oj =>
            rw [hoj] at hb2
            simp only [beq_iff_eq] at hb2
            exact I.val e.on oj t (by rw [← hl _ hen]; exact hoj) hb2 hlis
      · rw [if_neg hin']
        exact I.old t fun h => hin' ((inL_iff t _).2 h)
    have hob := hO o hmem a ⟨w, I.bel⟩ hlook
    unfold wpOp
    simp only [ho]
    by_cases hw : Region.wanted o (yielded l.toArray a.tmps) = true
    · rw [if_pos hw] at hob ⊢
      refine .inl ?_
      unfold Oper.wp
      generalize hr : (execOp a.eval o).run P w = r at hob
      cases r with
      | ok n w' =>
        cases n with
        | value u =>
          rw [Oper.upon_value]
          exact step u w' hob.1 hob.2
        | enter f args =>
          obtain ⟨rfl, hc⟩ := hob
          rw [Oper.upon_enter]
          refine hc.mono ?_
          rintro e w'' ⟨v, rfl, hb, hv⟩
          exact step v w'' hb hv
        | _ => exact hob.elim
      | _ => exact hob.elim
    · rw [if_neg hw] at hob ⊢
      exact step undef w (Below.refl _ _) hob

theorem region_pred_n {id : Nat} {Q : Exit → Act → World → Prop} {a0 : Act} {w : World} {l : List Oper} (n : Nat) (Φ : Tmp → Value → World → Prop) (hm : P.follows .mixedOrders = true) (hB : predInB l n a0.tmps.size = true)
    (hΦ : ∀ t v w1 w2, Below w1.heap.size w1 w2 → Φ t v w1 → Φ t v w2)
    (hO : eachO (Obl P l.toArray (dsts (l.take n)) a0 w Φ) (l.take n))
    (k : ∀ w', Below w.heap.size w w' → finP Φ w' (fun a => wpList P l.toArray Q (l.drop n) a w') (dsts (l.take n)) a0) :
    (Code.region id l.toArray true).wp P Q a0 w := by
  have hn : n < l.length := by
    simp only [predInB, Bool.and_eq_true, decide_eq_true_eq] at hB
    exact hB.1.1.1.2
  refine wp_region_any hm ?_
  have hsz : l.toArray.size = n + (l.length - n) := by simp; omega
  have := pred_n (Q := Q) Φ hB hΦ (eachO_at hO) k n (Array.replicate l.toArray.size false) a0 { w with drawn := w.drawn + 1 } ?_ ?_ ?_
  · rw [← hsz] at this
    exact this
  · unfold cnt
    have : (List.range n).countP (fun i => !(Array.replicate l.toArray.size false).getD i true) = (List.range n).length := by
      refine List.countP_eq_length.2 fun i hi => ?_
      have hi' := List.mem_range.1 hi
      have hs : i < l.length := by omega
      simp [Array.getD_eq_getD_getElem?, hs]
    simpa using this
  · refine ⟨by simp, fun j oj hj hl => ?_, fun t ht ht' => ?_⟩
    · rw [getD_replicate_false] at hl; cases hl
    · simp only [List.size_toArray] at ht'
      simp [Array.getD_eq_getD_getElem?, ht']
  · refine ⟨⟨rfl, rfl, rfl, Nat.le_refl _, fun _ _ => rfl⟩, rfl, rfl, fun _ _ => rfl, fun i o d hi hd hL => ?_⟩
    exfalso
    have : i < n := by
      have := (List.getElem?_eq_some_iff.1 hi).1
      rw [List.length_take] at this
      omega
    rw [getD_replicate_false] at hL
    cases hL
end
end Go.Proofs.YtbppfohcicepcaaGreat
namespace Go.Proofs.YtbppfohcicepcaaGreat
open Go.ChangeShapes Go.WideShapes Go.ChangeAt Go.RowKit Go.Maps
set_option linter.unusedVariables false
set_option linter.unusedSimpArgs false
set_option maxRecDepth 100000
attribute [local irreducible] Calls
section
variable {P : Program}
theorem tupon_enter {w w1 : World} {K : Value → World → Prop} {r : Result Next} {f : FuncId} {args : Array Value} (hr : r = .ok (.enter f args) w1) (hw : w1 = w) (h : Calls P f args w fun e w'' => ∃ v, e = .returned v ∧ Below w.heap.size w w'' ∧ K v w'') : uponP P w K r := by
  subst hr
  exact ⟨hw, h⟩
theorem tupon_value {w w1 : World} {K : Value → World → Prop} {r : Result Next} {v : Value} (hr : r = .ok (.value v) w1) (hB : Below w.heap.size w w1) (h : K v w1) : uponP P w K r := by
  subst hr
  exact ⟨hB, h⟩
end
section
variable {B bl bm eb lb : Nat} {u u' : Value} {L : List Is} {W W' : World}
theorem own_ne {X : Nat} (h : ∀ g, u.ownBlock = some g → g ≠ X) : u.ownBlock = none ∨ u.ownBlock ≠ some X := .inr fun e => h X e rfl
end
end Go.Proofs.YtbppfohcicepcaaGreat
namespace Go.Proofs.YtbppfohcicepcaaGreat
open Go.ChangeShapes Go.WideShapes Go.ChangeAt Go.RowKit
set_option linter.unusedVariables false
set_option linter.unusedSimpArgs false
set_option maxRecDepth 100000
attribute [local irreducible] Calls
end Go.Proofs.YtbppfohcicepcaaGreat
namespace Go.Proofs.YtbppfohcicepcaaGreat
open Go.ChangeShapes Go.WideShapes Go.ChangeAt Go.RowKit
set_option linter.unusedVariables false
set_option linter.unusedSimpArgs false
set_option maxRecDepth 100000
attribute [local irreducible] Calls
section
variable {P : Program}
theorem ob_gtrue {ops : Array Oper} {ds : List Tmp} {a0 : Act} {w0 : World} {Φ : Tmp → Value → World → Prop} {o : Oper} (ts : List Tmp) (j : Nat) (want : Bool) (u : Tmp) (hg : o.guard = some (j, want)) (hj : ((ops[j]?).bind (·.dst)) = some u) (ht : o.looksAt #[] = ts)
    (hin : inL u ds = true) (hu : ∀ v w, Φ u v w → v = .bool want)
    (h : ∀ (a : Act) (g : Grown w0), seenAll Φ ds a0 a g.w ts → uponP P g.w (meets Φ o.dst) ((execOp a.eval o).run P g.w)) : Obl P ops ds a0 w0 Φ o :=
  ob_guard ts j want u hg hj ht fun a g hs hsu => by
    refine ⟨fun _ => h a g hs, fun hn => ?_⟩
    obtain ⟨v, hv, hp⟩ := seen_in hin hsu
    exact absurd (by rw [hv, hu v _ hp]) hn

end
theorem heapN_cellj {W : World} {b k : Nat} {cs : Array Value} {t : TypeId} {z : Nat × Nat} {u : Value} (h : W.heap[b]? = some (.cells cs t z)) (hk : cs[k]? = some u) : W.cell? ⟨b, k, none⟩ = some u := by
  simp [World.cell?, h, hk]
end Go.Proofs.YtbppfohcicepcaaGreat
namespace Go.Proofs.YtbppfohcicepcaaGreat
open Go.ChangeShapes Go.WideShapes Go.ChangeAt Go.RowKit Go.Maps
set_option linter.unusedVariables false
set_option linter.unusedSimpArgs false
set_option maxRecDepth 100000
attribute [local irreducible] Calls
end Go.Proofs.YtbppfohcicepcaaGreat
namespace Go.Proofs.YtbppfohcicepcaaGreat
open Go.ChangeShapes Go.WideShapes Go.ChangeAt Go.RowKit Go.Maps
set_option linter.unusedVariables false
set_option linter.unusedSimpArgs false
set_option maxRecDepth 100000
attribute [local irreducible] Calls
theorem alloc_sz (w : World) (o : Obj) : (w.alloc o).heap.size = w.heap.size + 1 := Array.size_push _
theorem own_base {B B' n sz : Nat} {W : World} {v : Value} {t : TypeId} {xs : List Value} (h : W.ownsRow B t sz v n xs) (hB : B' ≤ B) : W.ownsRow B' t sz v n xs := by
  refine ⟨h.1, h.2.imp id ?_⟩
  rintro ⟨g, cap, cur, e, hg, rest⟩
  exact ⟨g, cap, cur, e, Nat.le_trans hB hg, rest⟩
end Go.Proofs.YtbppfohcicepcaaGreat
namespace Go.Proofs.YtbppfohcicepcaaGreat
open Go.ChangeShapes Go.WideShapes Go.ChangeAt Go.RowKit
set_option linter.unusedVariables false
set_option linter.unusedSimpArgs false
set_option maxRecDepth 100000
attribute [local irreducible] Calls
/-- The operands of an instruction. -/
def opsI (x : Is) : List Int := if x.op = 4 ∨ x.op = 5 ∨ x.op = 6 then [x.a] else if x.op = 7 ∨ x.op = 8 ∨ x.op = 9 ∨ x.op = 10 then [x.a, x.b] else []
end Go.Proofs.YtbppfohcicepcaaGreat
namespace Go.Proofs.YtbppfohcicepcaaGreat
open Go.ChangeShapes Go.WideShapes Go.ChangeAt Go.RowKit
set_option linter.unusedVariables false
set_option linter.unusedSimpArgs false
set_option maxRecDepth 100000
attribute [local irreducible] Calls
end Go.Proofs.YtbppfohcicepcaaGreat
