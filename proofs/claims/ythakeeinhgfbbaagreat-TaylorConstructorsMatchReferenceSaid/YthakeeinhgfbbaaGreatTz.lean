/-
  Package poly: merged.
-/
import Derived.Test.YthakeeinhgfbbaaGreatTy
import Derived.Deep.RegionLaw
import Derived.WalkMore
import Derived.Laws.AppendOwnNone
namespace Go.Proofs.YthakeeinhgfbbaaGreat
open Go.ChangeShapes Go.WideShapes Go.ChangeAt Go.RowKit
set_option linter.unusedVariables false
set_option linter.unusedSimpArgs false
set_option maxRecDepth 100000

attribute [local irreducible] Calls
/-- append onto a row of the call's own, as one step of a region that draws. -/
theorem step_append_own {P : Program} {ops : Array Oper} {o : Oper} {a : Act} {w : World} {K : Act → World → Prop} {Q : Exit → Act → World → Prop} {E : Prop}
    (hg : o.guard = none) (s x : Operand) (t : TypeId) (hop : o.op = Op.call { callee := Callee.builtin Builtin.append, args := #[s, x], argTypes := #[t, t] })
    (base : Nat) (e : TypeId) (i : TypeInfo) (z : Value) (size bytes : Nat) (h1 : P.underlying t = some (.slice e)) (h2 : P.info? e = some i) (h3 : i.zero = some z) (h4 : i.size = size) (h5 : i.bytes = bytes) (h6 : z.cells.size = size) (h7 : 0 < size)
    (v : Value) (n : Nat) (xs : List Value) (hs : a.eval s = v) (hown : w.ownsRow base e size v n xs)
    (ad : Addr) (m c : Nat) (news : List Value) (hx : a.eval x = .slice (some ad) m c) (hn : news.length = m * size) (hc : ∀ j u, news[j]? = some u → w.cell? (ad.add j) = some u) (h1c : ∀ u ∈ news, u.oneCell' = true)
    (b1 : n + m ≤ maxLen) (b2 : (n + m) * bytes ≤ 140737488355328) (hb : base ≤ w.heap.size)
    (hK : ∀ v' w', w'.ownsRow base e size v' (n + m) (xs ++ news) → w.grownBy w' v.ownBlock → K (a.put o.dst v') w') :
    if Region.wanted o (yielded ops a.tmps) = true then Oper.wp P o a w K Q else E := by
  have hw : Region.wanted o (yielded ops a.tmps) = true := by simp [Region.wanted, hg]
  rw [if_pos hw]
  obtain ⟨v', w', hrun, r1, r2, _⟩ := run_append_own (P := P) w base t o.type e i z size bytes h1 h2 h3 h4 h5 h6 h7 v n xs hown ad m c news hn hc h1c b1 b2 hb
  unfold Oper.wp
  simp [execOp, hop, resolve, invoke, builtin, hs, hx, hrun, Result.andThen]
  exact hK v' w' r1 r2
theorem Tx.tail {w : World} {b o n c : Nat} {x : Tm} {l : List Tm} (h : Tx w (.slice (some ⟨b, o, none⟩) n c) (x :: l)) (hc : n ≤ c) : Tx w (.slice (if c = 1 then some ⟨b, o, none⟩ else some ⟨b, o + 7, none⟩) (n - 1) (c - 1)) l := by
  obtain ⟨h1, p, c', e, h2⟩ := h
  simp only [Value.slice.injEq, List.length_cons] at e
  obtain ⟨e1, e2, e3⟩ := e
  refine ⟨by rw [List.length_cons] at h1; omega, _, c - 1, by rw [e2, Nat.add_sub_cancel], fun i y hy => ?_⟩
  have hl := (List.getElem?_eq_some_iff.1 hy).1
  rw [if_neg (by omega)]
  obtain ⟨b', o', hp, h3, h4⟩ := h2 (i + 1) y (by simpa using hy)
  rw [hp] at e1
  simp only [Option.some.injEq, Addr.mk.injEq, and_true] at e1
  obtain ⟨rfl, rfl⟩ := e1
  refine ⟨_, _, rfl, h3, fun j u hu => ?_⟩
  have := h4 j u hu
  rw [show o + 7 + i * 7 + j = o + (i + 1) * 7 + j by omega]
  exact this
def mergeP : List Tm → List Tm → List Tm
  | [], m => m
  | x :: l, [] => x :: l
  | x :: l, y :: m => if cmpE x.2 y.2 < 0 then x :: mergeP l (y :: m) else if 0 < cmpE x.2 y.2 then y :: mergeP (x :: l) m else if x.1 + y.1 = 0 then mergeP l m else (x.1 + y.1, x.2) :: mergeP l m
termination_by l m => l.length + m.length
def Small62 (t : Tm) : Prop := -4611686018427387904 < t.1 ∧ t.1 < 4611686018427387904
def lenV' : Value → Nat
  | .slice _ n _ => n
  | _ => 0
structure MgI (w : World) (R : List Tm) (N : Nat) (a b : List Tm) (s : List Tm) (va vb vs : Value) (wr : World) : Prop where
  eqn : R = s ++ mergeP a b
  xa : Tx w va a
  xb : Tx w vb b
  ca : CapOk va
  cb : CapOk vb
  row : wr.ownsRow w.heap.size 63 7 vs s.length (ct s)
  bel : Below w.heap.size w wr
  cnt : s.length + a.length + b.length ≤ N
  ta : ∀ t ∈ a, TV t ∧ Small62 t
  tb : ∀ t ∈ b, TV t ∧ Small62 t
  ts : ∀ t ∈ s, t.2.length = 6
theorem Tx.flat {w : World} {b o n c : Nat} {l : List Tm} (h : Tx w (.slice (some ⟨b, o, none⟩) n c) l) (h6 : ∀ t ∈ l, t.2.length = 6) : ∀ j u, (ct l)[j]? = some u → w.cell? ⟨b, o + j, none⟩ = some u := by
  intro j u hj
  have hlt := (List.getElem?_eq_some_iff.1 hj).1
  rw [ct_len h6] at hlt
  have hi : j / 7 < l.length := by omega
  obtain ⟨x, hx⟩ : ∃ x, l[j / 7]? = some x := ⟨_, List.getElem?_eq_getElem hi⟩
  have hx6 := enc_len (h6 x (List.mem_of_getElem? hx))
  obtain ⟨u', hu'⟩ : ∃ u', (encT x)[j % 7]? = some u' := ⟨_, List.getElem?_eq_getElem (by rw [hx6]; omega)⟩
  have h2 := ct_get h6 (j / 7) x hx (j % 7) u' hu'
  rw [show j / 7 * 7 + j % 7 = j by omega, hj] at h2
  obtain rfl := Option.some.inj h2
  obtain ⟨_, p, c', e, hp⟩ := h
  obtain ⟨b', o', hpp, _, hc⟩ := hp (j / 7) x hx
  simp only [Value.slice.injEq] at e
  rw [← e.1] at hpp
  simp only [Option.some.injEq, Addr.mk.injEq, and_true] at hpp
  obtain ⟨rfl, rfl⟩ := hpp
  have := hc (j % 7) u hu'
  rw [show o + j / 7 * 7 + j % 7 = o + j by omega] at this
  exact this
theorem ct_one (l : List Tm) : ∀ u ∈ ct l, u.oneCell' = true := by
  intro u hu
  unfold ct at hu
  obtain ⟨t, _, h⟩ := List.mem_flatMap.1 hu
  unfold encT at h
  rcases List.mem_cons.1 h with rfl | h
  · rfl
  · obtain ⟨x, _, rfl⟩ := List.mem_map.1 h
    rfl
theorem wpList_append_tx {w : World} {ops : Array Oper} {rest : List Oper} {o : Oper} {a : Act} {Q : Exit → Act → World → Prop} (hgd : o.guard = none) (s x : Operand)
    (ho : o.op = .call { callee := .builtin .append, args := #[s, x], argTypes := #[22, 22] })
    (base : Nat) (v : Value) (n : Nat) (xs : List Value) (hs : a.eval s = v) (hown : w.ownsRow base 63 7 v n xs)
    (p : Option Addr) (c : Nat) (l : List Tm) (hx : a.eval x = .slice p l.length c) (htx : Tx w (.slice p l.length c) l) (h6 : ∀ t ∈ l, t.2.length = 6) (hc : p = none → c = 0)
    (h63 : n + l.length ≤ maxLen) (hbytes : (n + l.length) * 16 ≤ 140737488355328) (hbase : base ≤ w.heap.size)
    (h : ∀ v' w', w'.ownsRow base 63 7 v' (n + l.length) (xs ++ ct l) → w.grownBy w' v.ownBlock → wpList Tryz.prog ops Q rest (a.put o.dst v') w') : wpList Tryz.prog ops Q (o :: rest) a w := by
  obtain ⟨i0, hi, hz0, hz1, hz2⟩ := info_parts info_t
  cases p with
  | none =>
    have hl : l = [] := by
      cases l with
      | nil => rfl
      | cons y l =>
        obtain ⟨b, o', hp, _⟩ := htx.rd (i := 0) rfl
        cases hp
    subst hl
    obtain rfl := hc rfl
    refine wpList_append_own_none hgd s x _ ho base 63 i0 7 Tryz.underlying22 hi v n xs hs hown hx ?_
    refine h v w (by simpa [ct] using hown) ⟨rfl, rfl, rfl, Nat.le_refl _, fun _ _ _ => rfl⟩
  | some ad =>
    refine wpList_append_own _ hgd s x _ ho base 63 i0 _ 7  16 Tryz.underlying22 hi hz0 hz1 hz2 rfl (by decide) v n xs hs hown ad l.length c (ct l) hx (ct_len h6) ?_ (ct_one l) h63 hbytes hbase fun v' w' h1 h2 _ => h v' w' h1 h2
    cases l with
    | nil => intro j u hj; simp [ct] at hj
    | cons y l =>
      obtain ⟨b, o', hp, _⟩ := htx.rd (i := 0) rfl
      obtain rfl := Option.some.inj hp
      intro j u hj
      have h := htx.flat h6 j u hj
      by_cases e : j = 0
      · subst e; simpa [Addr.add] using h
      · simpa [Addr.add, e] using h
theorem merge_nil (a b : List Tm) (h : a.length = 0 ∨ b.length = 0) : mergeP a b = a ++ b := by
  cases a with
  | nil => rw [mergeP]; rfl
  | cons x l =>
    rcases h with h | h
    · simp at h
    · have : b = [] := List.length_eq_zero_iff.1 h
      subst this
      rw [mergeP, List.append_nil]
set_option maxHeartbeats 8000000 in
theorem merged_ok (v u : Value) (l m : List Tm) (w : World) (hv : Tx w v l) (hu : Tx w u m) (hcv : CapOk v) (hcu : CapOk u) (hl : ∀ t ∈ l, TV t ∧ Small62 t) (hm : ∀ t ∈ m, TV t ∧ Small62 t) (hsm : l.length + m.length ≤ 200000) :
    Calls Tryz.prog 98 #[v, u] w fun e w' => ∃ r, e = .returned r ∧ Tx w' r (mergeP l m) ∧ CapOk r ∧ Below w.heap.size w w' := by
  obtain ⟨R, hR⟩ : ∃ R, mergeP l m = R := ⟨_, rfl⟩
  rw [hR]
  obtain ⟨i0, hi, hz0, hz1, hz2⟩ := info_parts info_t
  have H0 : Hid (MgI w R (l.length + m.length) l m [] v u (.slice none 0 0) w) := Lib.hid ⟨by rw [← hR]; rfl, hv, hu, hcv, hcu, World.ownsRow_nil w _ _ _, Below.refl _ _, by simp, hl, hm, by simp⟩
  clear hR hv hu hcv hcu hl hm
  generalize l.length + m.length = N at *
  go_enter Tryz.func98, Tryz.ntmps98
  go_wp2_with (fail)
  go_step3
  go_wp2_with (fail)
  go_step3
  go_wp2_with (fail)
  go_loopw [0, 1, 5] (fun va vb vs wr => ∃ a b s, Hid (MgI w R N a b s va vb vs wr)) (fun va vb vs _ => (lenV' va) + (lenV' vb))
  case atStart => exact ⟨l, m, [], H0⟩
  case round =>
    obtain ⟨a, b, s, HR⟩ := hrel
    obtain ⟨pa, na, ca, rfl, hca, hpa0⟩ := HR.out.ca
    obtain ⟨pb, nb, cb, rfl, hcb, hpb0⟩ := HR.out.cb
    have hna : na = a.length := by obtain ⟨_, _, _, e, _⟩ := HR.out.xa; simp only [Value.slice.injEq] at e; exact e.2.1
    have hnb : nb = b.length := by obtain ⟨_, _, _, e, _⟩ := HR.out.xb; simp only [Value.slice.injEq] at e; exact e.2.1
    by_cases hab : na = 0 ∨ nb = 0
    · skip
      by_cases ha : na = 0
      · obtain rfl : a = [] := List.length_eq_zero_iff.1 (by omega)
        subst hna hnb
        clear hab ha
        have hR : R = s ++ ([] : List Tm) ++ b := by rw [HR.out.eqn, merge_nil _ _ (by simp), List.append_assoc]
        have hN := HR.out.cnt
        have hbel := HR.out.bel
        have hsz := hbel.size
        have hrow := HR.out.row
        have hxa := HR.out.xa.grow hbel
        have hxb := HR.out.xb
        have h6a : ∀ t ∈ ([] : List Tm), t.2.length = 6 := fun t h => (HR.out.ta t h).1.1.1
        have h6b : ∀ t ∈ b, t.2.length = 6 := fun t h => (HR.out.tb t h).1.1.1
        have HRR := Lib.hid hR
        clear hR
        simp only [List.length_nil, Nat.add_zero] at hN
        go_wp2_with (first
          | (at_builtin; go_loud (refine wpList_append_tx rfl (.tmp 78) (.tmp 79) rfl w.heap.size _ s.length _ rfl hrow pa ca ([] : List Tm) rfl hxa h6a hpa0 (by unfold maxLen; (try simp only [List.length_nil]); omega) (by (try simp only [List.length_nil]); omega) hsz ?_)))
        intro v1 w1 hown1 hgrow1
        have hb1 : Below w.heap.size w w1 := Below.grown hbel hgrow1 hsz (fun k hk => (HR.out.row.lt k hk).1)
        have hxb1 := hxb.grow hb1
        have hsz1 := hb1.size
        go_wp2_with (first
          | (at_builtin; refine wpList_append_tx rfl (.tmp 80) (.tmp 81) rfl w.heap.size v1 _ _ rfl hown1 pb cb b rfl hxb1 h6b hpb0 (by unfold maxLen; (try simp only [List.length_nil]); omega) (by (try simp only [List.length_nil]); omega) hsz1 ?_))
        intro v2 w2 hown2 hgrow2
        have hb2 : Below w.heap.size w w2 := Below.grown hb1 hgrow2 hsz1 (fun k hk => (hown1.lt k hk).1)
        have hrn : w2.ownsRow w.heap.size 63 7 v2 R.length (ct R) := by rw [HRR.out]; simpa [ct, List.length_append, Nat.add_assoc] using hown2
        have h6r : ∀ t ∈ R, t.2.length = 6 := fun t h => by
          rw [HRR.out] at h
          rcases List.mem_append.1 h with h | h
          · rcases List.mem_append.1 h with h | h
            · exact HR.out.ts t h
            · exact h6a t h
          · exact h6b t h
        have hlr : R.length ≤ maxLen := by
          rw [HRR.out, List.length_append, List.length_append]
          unfold maxLen
          (try simp only [List.length_nil])
          omega
        have HF := Lib.hid (And.intro (Tx.own hrn hlr h6r) (And.intro (capok_own hrn) hb2))
        clear hrn h6r hlr hown1 hown2 hgrow1 hgrow2
        go_wp2_with (fail)
        try (unfold Exit.noGoto)
        try dsimp only
        first | go_ret | go_ret2
        exact ⟨_, rfl, HF.out.1, HF.out.2.1, HF.out.2.2⟩
      · obtain rfl : b = [] := List.length_eq_zero_iff.1 (by omega)
        subst hna hnb
        clear hab
        have ja : ((a.length : Int) == 0) = false := by rw [beq_eq_false_iff_ne]; omega
        have hR : R = s ++ a ++ ([] : List Tm) := by rw [HR.out.eqn, merge_nil _ _ (by simp), List.append_assoc]
        have hN := HR.out.cnt
        have hbel := HR.out.bel
        have hsz := hbel.size
        have hrow := HR.out.row
        have hxa := HR.out.xa.grow hbel
        have hxb := HR.out.xb
        have h6a : ∀ t ∈ a, t.2.length = 6 := fun t h => (HR.out.ta t h).1.1.1
        have h6b : ∀ t ∈ ([] : List Tm), t.2.length = 6 := fun t h => (HR.out.tb t h).1.1.1
        have HRR := Lib.hid hR
        clear hR
        simp only [List.length_nil, Nat.add_zero] at hN
        go_wp2_with (first
          | (at_builtin; go_loud (refine wpList_append_tx rfl (.tmp 78) (.tmp 79) rfl w.heap.size _ s.length _ rfl hrow pa ca a rfl hxa h6a hpa0 (by unfold maxLen; (try simp only [List.length_nil]); omega) (by (try simp only [List.length_nil]); omega) hsz ?_)))
        intro v1 w1 hown1 hgrow1
        have hb1 : Below w.heap.size w w1 := Below.grown hbel hgrow1 hsz (fun k hk => (HR.out.row.lt k hk).1)
        have hxb1 := hxb.grow hb1
        have hsz1 := hb1.size
        go_wp2_with (first
          | (at_builtin; refine wpList_append_tx rfl (.tmp 80) (.tmp 81) rfl w.heap.size v1 _ _ rfl hown1 pb cb ([] : List Tm) rfl hxb1 h6b hpb0 (by unfold maxLen; (try simp only [List.length_nil]); omega) (by (try simp only [List.length_nil]); omega) hsz1 ?_))
        intro v2 w2 hown2 hgrow2
        have hb2 : Below w.heap.size w w2 := Below.grown hb1 hgrow2 hsz1 (fun k hk => (hown1.lt k hk).1)
        have hrn : w2.ownsRow w.heap.size 63 7 v2 R.length (ct R) := by rw [HRR.out]; simpa [ct, List.length_append, Nat.add_assoc] using hown2
        have h6r : ∀ t ∈ R, t.2.length = 6 := fun t h => by
          rw [HRR.out] at h
          rcases List.mem_append.1 h with h | h
          · rcases List.mem_append.1 h with h | h
            · exact HR.out.ts t h
            · exact h6a t h
          · exact h6b t h
        have hlr : R.length ≤ maxLen := by
          rw [HRR.out, List.length_append, List.length_append]
          unfold maxLen
          (try simp only [List.length_nil])
          omega
        have HF := Lib.hid (And.intro (Tx.own hrn hlr h6r) (And.intro (capok_own hrn) hb2))
        clear hrn h6r hlr hown1 hown2 hgrow1 hgrow2
        go_wp2_with (fail)
        try (unfold Exit.noGoto)
        try dsimp only
        first | go_ret | go_ret2
        exact ⟨_, rfl, HF.out.1, HF.out.2.1, HF.out.2.2⟩
    · have ha0 : na ≠ 0 := fun h => hab (.inl h)
      have hb0 : nb ≠ 0 := fun h => hab (.inr h)
      clear hab
      obtain ⟨x, l', rfl⟩ : ∃ x l', a = x :: l' := by cases a with | nil => exact absurd hna ha0 | cons x l' => exact ⟨x, l', rfl⟩
      obtain ⟨y, m', rfl⟩ : ∃ y m', b = y :: m' := by cases b with | nil => exact absurd hnb hb0 | cons y m' => exact ⟨y, m', rfl⟩
      have tx := HR.out.ta x (by simp)
      have ty := HR.out.tb y (by simp)
      obtain ⟨ka, a0, a1, a2, a3, a4, a5, rfl⟩ := six_at tx.1
      obtain ⟨kb, b0, b1, b2, b3, b4, b5, rfl⟩ := six_at ty.1
      rw [List.length_cons] at hna hnb
      subst hna hnb
      have hxa := HR.out.xa
      have hxb := HR.out.xb
      obtain ⟨ba, oa, hpa, hba, rda⟩ := hxa.rd7 (i := 0) rfl
      obtain ⟨bb, ob, hpb, hbb, rdb⟩ := hxb.rd7 (i := 0) rfl
      subst hpa hpb
      simp only [Nat.zero_mul, Nat.add_zero, Nat.zero_add] at rda rdb
      have fa0 := fun g : Grown wr => (rda ⟨g.w, below_then HR.out.bel g.h⟩).1
      have fa1 := fun g : Grown wr => (rda ⟨g.w, below_then HR.out.bel g.h⟩).2.1
      have fa2 := fun g : Grown wr => (rda ⟨g.w, below_then HR.out.bel g.h⟩).2.2.1
      have fa3 := fun g : Grown wr => (rda ⟨g.w, below_then HR.out.bel g.h⟩).2.2.2.1
      have fa4 := fun g : Grown wr => (rda ⟨g.w, below_then HR.out.bel g.h⟩).2.2.2.2.1
      have fa5 := fun g : Grown wr => (rda ⟨g.w, below_then HR.out.bel g.h⟩).2.2.2.2.2.1
      have fa6 := fun g : Grown wr => (rda ⟨g.w, below_then HR.out.bel g.h⟩).2.2.2.2.2.2
      have fb0 := fun g : Grown wr => (rdb ⟨g.w, below_then HR.out.bel g.h⟩).1
      have fb1 := fun g : Grown wr => (rdb ⟨g.w, below_then HR.out.bel g.h⟩).2.1
      have fb2 := fun g : Grown wr => (rdb ⟨g.w, below_then HR.out.bel g.h⟩).2.2.1
      have fb3 := fun g : Grown wr => (rdb ⟨g.w, below_then HR.out.bel g.h⟩).2.2.2.1
      have fb4 := fun g : Grown wr => (rdb ⟨g.w, below_then HR.out.bel g.h⟩).2.2.2.2.1
      have fb5 := fun g : Grown wr => (rdb ⟨g.w, below_then HR.out.bel g.h⟩).2.2.2.2.2.1
      have fb6 := fun g : Grown wr => (rdb ⟨g.w, below_then HR.out.bel g.h⟩).2.2.2.2.2.2
      dsimp only at fa0 fa1 fa2 fa3 fa4 fa5 fa6 fb0 fb1 fb2 fb3 fb4 fb5 fb6
      have iA : (0 : Int) < ((l'.length + 1 : Nat) : Int) := by omega
      have iB : (0 : Int) < ((m'.length + 1 : Nat) : Int) := by omega
      have kA1 : (1 : Int) ≤ (l'.length : Int) + 1 := by omega
      have kB1 : (1 : Int) ≤ (m'.length : Int) + 1 := by omega
      have jA : ((l'.length : Int) + 1 == 0) = false := by rw [beq_eq_false_iff_ne]; omega
      have jB : ((m'.length : Int) + 1 == 0) = false := by rw [beq_eq_false_iff_ne]; omega
      have hO := fun w => compare_ok [a0, a1, a2, a3, a4, a5] [b0, b1, b2, b3, b4, b5] w tx.1.1 ty.1.1
      rw [show valE [a0, a1, a2, a3, a4, a5] = .agg #[.int .u8 a0, .int .u8 a1, .int .u8 a2, .int .u8 a3, .int .u8 a4, .int .u8 a5] from rfl, show valE [b0, b1, b2, b3, b4, b5] = .agg #[.int .u8 b0, .int .u8 b1, .int .u8 b2, .int .u8 b3, .int .u8 b4, .int .u8 b5] from rfl] at hO
      obtain ⟨C, hC⟩ : ∃ C, cmpE [a0, a1, a2, a3, a4, a5] [b0, b1, b2, b3, b4, b5] = C := ⟨_, rfl⟩
      rw [hC] at hO
      have HO := Lib.hid hO
      have HCC := Lib.hid hC
      have hta := hxa.tail hca
      have htb := hxb.tail hcb
      obtain ⟨pA, hpA⟩ : ∃ p, (if ca = 1 then some ⟨ba, oa, none⟩ else some ⟨ba, oa + 7, none⟩ : Option Addr) = p := ⟨_, rfl⟩
      obtain ⟨pB, hpB⟩ : ∃ p, (if cb = 1 then some ⟨bb, ob, none⟩ else some ⟨bb, ob + 7, none⟩ : Option Addr) = p := ⟨_, rfl⟩
      have npA : pA = none → ca - 1 = 0 := by rw [← hpA]; split <;> simp
      have npB : pB = none → cb - 1 = 0 := by rw [← hpB]; split <;> simp
      rw [hpA, Nat.add_sub_cancel] at hta
      rw [hpB, Nat.add_sub_cancel] at htb
      have HTA := Lib.hid hta
      have HTB := Lib.hid htb
      have TX := Lib.hid tx
      have TY := Lib.hid ty
      clear rda rdb hO hC hta htb hxa hxb tx ty
      go_wp2_with (fail)
      refine region_quiet' (⟨wr, Below.refl _ _⟩ : Grown wr) (by kernel_rfl) (by kernel_rfl) ?_
      repeat (go_big_quiet_step (exact qc (HO.out _)))
      refine wpQuiet_nil ?_
      rintro _ ⟨g1, rfl⟩
      by_cases h1 : C < 0
      · go_wp2_with (fail)
        have hrow := own_keptT HR.out.row g1.h
        obtain ⟨ya0, ya1, ya2, ya3, ya4, ya5, ya6⟩ := And.intro (fa0 g1) (And.intro (fa1 g1) (And.intro (fa2 g1) (And.intro (fa3 g1) (And.intro (fa4 g1) (And.intro (fa5 g1) (fa6 g1))))))
        have hN := HR.out.cnt
        have hzz := HR.out.bel.size
        have hzg := g1.h.size
        simp only [List.length_cons] at hN
        go_region_law (refine step_append_own rfl (.tmp 51) (.tmp 55) 22 rfl w.heap.size 63 i0 (.agg #[.int .i64 0, .int .u8 0, .int .u8 0, .int .u8 0, .int .u8 0, .int .u8 0, .int .u8 0]) 7 16 Tryz.underlying22 hi hz0 hz1 hz2 rfl (by decide) _ s.length _ (by simp [Act.eval, Act.put]) (own_keptT (hrow.alloc _) ((Below.refl _ _).drew)) ⟨g1.w.heap.size, 0, none⟩ 1 1 [.int .i64 ka, .int .u8 a0, .int .u8 a1, .int .u8 a2, .int .u8 a3, .int .u8 a4, .int .u8 a5] (by simp [Act.eval, Act.put]) rfl (new_t _ _ _ _ _ _ _ _) (one_t _ _ _ _ _ _ _) (by unfold maxLen; omega) (by omega) (by first | omega | (simp; omega)) ?_; intro v' w6 hown' hgrow)
        have hBn : Below w.heap.size w w6 := Below.grown (((HR.out.bel.trans (g1.h.mono hzz)).alloc (by omega) _).drew) hgrow (by first | omega | (simp; omega)) (fun k hk => (HR.out.row.lt k hk).1)
        have heq : R = (s ++ [(ka, [a0, a1, a2, a3, a4, a5])]) ++ mergeP l' ((kb, [b0, b1, b2, b3, b4, b5]) :: m') := by
          have h := HR.out.eqn
          rw [mergeP] at h
          rw [if_pos (by rw [HCC.out]; exact h1)] at h
          rw [h, List.append_assoc]
          rfl
        have hrn : w6.ownsRow w.heap.size 63 7 v' (s ++ [(ka, [a0, a1, a2, a3, a4, a5])]).length (ct (s ++ [(ka, [a0, a1, a2, a3, a4, a5])])) := by rw [List.length_append, ct_snoc]; exact hown'
        have hts : ∀ t ∈ s ++ [(ka, [a0, a1, a2, a3, a4, a5])], t.2.length = 6 := fun t h => by
          rcases List.mem_append.1 h with h | h
          · exact HR.out.ts t h
          · rw [List.mem_singleton.1 h]; rfl
        have HEQ := Lib.hid heq
        have HRN := Lib.hid hrn
        have HTS := Lib.hid hts
        have HBN := Lib.hid hBn
        clear heq hrn hts hBn hown' hgrow
        have HNX : Hid (MgI w R N l' ((kb, [b0, b1, b2, b3, b4, b5]) :: m') (s ++ [(ka, [a0, a1, a2, a3, a4, a5])]) (.slice pA l'.length (ca - 1)) (.slice (some ⟨bb, ob, none⟩) (m'.length + 1) cb) v' w6) := Lib.hid ⟨HEQ.out, HTA.out, HR.out.xb, ⟨_, _, _, rfl, by omega, npA⟩, ⟨_, _, _, rfl, hcb, by simp⟩, HRN.out, HBN.out, by simp only [List.length_append, List.length_cons, List.length_nil]; omega, fun t h => HR.out.ta t (List.mem_cons_of_mem _ h), HR.out.tb, HTS.out⟩
        clear hzz hzg
        go_wp2_with (fail)
        go_roundw
        case rel =>
          first
            | exact ⟨_, _, _, HNX⟩
            | ((repeat apply Exists.intro); exact ⟨⟨_, _, _, HNX⟩, rfl⟩)
        case measure =>
          show l'.length + (m'.length + 1) < l'.length + 1 + (m'.length + 1)
          omega
      · have h1' : 0 ≤ C := by omega
        go_wp2_with (fail)
        refine region_quiet' g1 (by kernel_rfl) (by kernel_rfl) ?_
        repeat (go_big_quiet_step (exact qc (HO.out _)))
        refine wpQuiet_nil ?_
        rintro _ ⟨g2, rfl⟩
        by_cases h2 : 0 < C
        · go_wp2_with (fail)
          have hrow := own_keptT HR.out.row g2.h
          obtain ⟨ya0, ya1, ya2, ya3, ya4, ya5, ya6⟩ := And.intro (fb0 g2) (And.intro (fb1 g2) (And.intro (fb2 g2) (And.intro (fb3 g2) (And.intro (fb4 g2) (And.intro (fb5 g2) (fb6 g2))))))
          have hN := HR.out.cnt
          have hzz := HR.out.bel.size
          have hzg := g2.h.size
          simp only [List.length_cons] at hN
          go_region_law (refine step_append_own rfl (.tmp 70) (.tmp 74) 22 rfl w.heap.size 63 i0 (.agg #[.int .i64 0, .int .u8 0, .int .u8 0, .int .u8 0, .int .u8 0, .int .u8 0, .int .u8 0]) 7 16 Tryz.underlying22 hi hz0 hz1 hz2 rfl (by decide) _ s.length _ (by simp [Act.eval, Act.put]) (own_keptT (hrow.alloc _) ((Below.refl _ _).drew)) ⟨g2.w.heap.size, 0, none⟩ 1 1 [.int .i64 kb, .int .u8 b0, .int .u8 b1, .int .u8 b2, .int .u8 b3, .int .u8 b4, .int .u8 b5] (by simp [Act.eval, Act.put]) rfl (new_t _ _ _ _ _ _ _ _) (one_t _ _ _ _ _ _ _) (by unfold maxLen; omega) (by omega) (by first | omega | (simp; omega)) ?_; intro v' w6 hown' hgrow)
          have hBn : Below w.heap.size w w6 := Below.grown (((HR.out.bel.trans (g2.h.mono hzz)).alloc (by omega) _).drew) hgrow (by first | omega | (simp; omega)) (fun k hk => (HR.out.row.lt k hk).1)
          have heq : R = (s ++ [(kb, [b0, b1, b2, b3, b4, b5])]) ++ mergeP ((ka, [a0, a1, a2, a3, a4, a5]) :: l') m' := by
            have h := HR.out.eqn
            rw [mergeP] at h
            rw [if_neg (by rw [HCC.out]; omega), if_pos (by rw [HCC.out]; exact h2)] at h
            rw [h, List.append_assoc]
            rfl
          have hrn : w6.ownsRow w.heap.size 63 7 v' (s ++ [(kb, [b0, b1, b2, b3, b4, b5])]).length (ct (s ++ [(kb, [b0, b1, b2, b3, b4, b5])])) := by rw [List.length_append, ct_snoc]; exact hown'
          have hts : ∀ t ∈ s ++ [(kb, [b0, b1, b2, b3, b4, b5])], t.2.length = 6 := fun t h => by
            rcases List.mem_append.1 h with h | h
            · exact HR.out.ts t h
            · rw [List.mem_singleton.1 h]; rfl
          have HEQ := Lib.hid heq
          have HRN := Lib.hid hrn
          have HTS := Lib.hid hts
          have HBN := Lib.hid hBn
          clear heq hrn hts hBn hown' hgrow
          have HNX : Hid (MgI w R N ((ka, [a0, a1, a2, a3, a4, a5]) :: l') m' (s ++ [(kb, [b0, b1, b2, b3, b4, b5])]) (.slice (some ⟨ba, oa, none⟩) (l'.length + 1) ca) (.slice pB m'.length (cb - 1)) v' w6) := Lib.hid ⟨HEQ.out, HR.out.xa, HTB.out, ⟨_, _, _, rfl, hca, by simp⟩, ⟨_, _, _, rfl, by omega, npB⟩, HRN.out, HBN.out, by simp only [List.length_append, List.length_cons, List.length_nil]; omega, HR.out.ta, fun t h => HR.out.tb t (List.mem_cons_of_mem _ h), HTS.out⟩
          clear hzz hzg
          go_wp2_with (fail)
          go_roundw
          case rel =>
            first
              | exact ⟨_, _, _, HNX⟩
              | ((repeat apply Exists.intro); exact ⟨⟨_, _, _, HNX⟩, rfl⟩)
          case measure =>
            show l'.length + 1 + m'.length < l'.length + 1 + (m'.length + 1)
            omega
        · have h0 : C = 0 := by omega
          subst h0
          clear h1 h1' h2
          have sx := TX.out.2
          have sy := TY.out.2
          unfold Small62 at sx sy
          dsimp only at sx sy
          have Wr := wrap_i64 (ka + kb) (by omega) (by omega)
          clear sx sy
          go_wp2_with (fail)
          refine region_quiet' g2 (by kernel_rfl) (by kernel_rfl) ?_
          repeat (go_big_quiet_step (fail))
          refine wpQuiet_nil ?_
          rintro _ ⟨g3, rfl⟩
          by_cases hk : ka + kb = 0
          · have heq : R = s ++ mergeP l' m' := by
              have h := HR.out.eqn
              rw [mergeP, if_neg (by rw [HCC.out]; omega), if_neg (by rw [HCC.out]; omega), if_pos hk] at h
              exact h
            have hkb : ((ka + kb) != 0) = false := by simpa using hk
            have HEQ := Lib.hid heq
            have hN := HR.out.cnt
            have hzz := HR.out.bel.size
            simp only [List.length_cons] at hN
            clear heq
            go_wp2_with (fail)
            refine region_quiet' g3 (by kernel_rfl) (by kernel_rfl) ?_
            repeat (go_big_quiet_step (fail))
            refine wpQuiet_nil ?_
            rintro _ ⟨g4, rfl⟩
            have HNX : Hid (MgI w R N l' m' s (.slice pA l'.length (ca - 1)) (.slice pB m'.length (cb - 1)) u5 g4.w) := Lib.hid ⟨HEQ.out, HTA.out, HTB.out, ⟨_, _, _, rfl, by omega, npA⟩, ⟨_, _, _, rfl, by omega, npB⟩, own_keptT HR.out.row g4.h, HR.out.bel.trans (g4.h.mono hzz), by omega, fun t h => HR.out.ta t (List.mem_cons_of_mem _ h), fun t h => HR.out.tb t (List.mem_cons_of_mem _ h), HR.out.ts⟩
            go_wp2_with (fail)
            go_roundw
            case rel =>
              first
                | exact ⟨_, _, _, HNX⟩
                | ((repeat apply Exists.intro); exact ⟨⟨_, _, _, HNX⟩, rfl⟩)
            case measure =>
              show l'.length + m'.length < l'.length + 1 + (m'.length + 1)
              omega
          · have heq : R = (s ++ [(ka + kb, [a0, a1, a2, a3, a4, a5])]) ++ mergeP l' m' := by
              have h := HR.out.eqn
              rw [mergeP, if_neg (by rw [HCC.out]; omega), if_neg (by rw [HCC.out]; omega), if_neg hk] at h
              rw [h, List.append_assoc]
              rfl
            have hkb : ((ka + kb) != 0) = true := by simpa using hk
            have HEQ := Lib.hid heq
            have hN := HR.out.cnt
            have hzz := HR.out.bel.size
            have hzg := g3.h.size
            simp only [List.length_cons] at hN
            have hrow := own_keptT HR.out.row g3.h
            obtain ⟨ya0, ya1, ya2, ya3, ya4, ya5, ya6⟩ := And.intro (fa0 g3) (And.intro (fa1 g3) (And.intro (fa2 g3) (And.intro (fa3 g3) (And.intro (fa4 g3) (And.intro (fa5 g3) (fa6 g3))))))
            clear heq
            go_wp2_with (at_builtin; refine wpList_append_own _ rfl (.tmp 18) (.tmp 25) 22 rfl w.heap.size 63 i0 (.agg #[.int .i64 0, .int .u8 0, .int .u8 0, .int .u8 0, .int .u8 0, .int .u8 0, .int .u8 0]) 7 16 Tryz.underlying22 hi hz0 hz1 hz2 rfl (by decide) _ s.length _ rfl (hrow.alloc _) ⟨g3.w.heap.size, 0, none⟩ 1 1 [.int .i64 (ka + kb), .int .u8 a0, .int .u8 a1, .int .u8 a2, .int .u8 a3, .int .u8 a4, .int .u8 a5] rfl rfl (new_t _ _ _ _ _ _ _ _) (one_t _ _ _ _ _ _ _) (by unfold maxLen; omega) (by omega) (by simp only [World.size_alloc]; omega) ?_)
            intro v' w6 hown' hgrow _
            have hBn : Below w.heap.size w w6 := Below.grown ((HR.out.bel.trans (g3.h.mono hzz)).alloc (by omega) _) hgrow (by simp only [World.size_alloc]; omega) (fun k hk => (HR.out.row.lt k hk).1)
            have hrn : w6.ownsRow w.heap.size 63 7 v' (s ++ [(ka + kb, [a0, a1, a2, a3, a4, a5])]).length (ct (s ++ [(ka + kb, [a0, a1, a2, a3, a4, a5])])) := by rw [List.length_append, ct_snoc]; exact hown'
            have hts : ∀ t ∈ s ++ [(ka + kb, [a0, a1, a2, a3, a4, a5])], t.2.length = 6 := fun t h => by
              rcases List.mem_append.1 h with h | h
              · exact HR.out.ts t h
              · rw [List.mem_singleton.1 h]; rfl
            have HRN := Lib.hid hrn
            have HTS := Lib.hid hts
            have HBN := Lib.hid hBn
            clear hrn hts hBn hown' hgrow ya0 ya1 ya2 ya3 ya4 ya5 ya6
            go_wp2_with (fail)
            refine region_quiet' (⟨w6, Below.refl _ _⟩ : Grown w6) (by kernel_rfl) (by kernel_rfl) ?_
            repeat (go_big_quiet_step (fail))
            refine wpQuiet_nil ?_
            rintro _ ⟨g4, rfl⟩
            have HNX : Hid (MgI w R N l' m' (s ++ [(ka + kb, [a0, a1, a2, a3, a4, a5])]) (.slice pA l'.length (ca - 1)) (.slice pB m'.length (cb - 1)) v' g4.w) := Lib.hid ⟨HEQ.out, HTA.out, HTB.out, ⟨_, _, _, rfl, by omega, npA⟩, ⟨_, _, _, rfl, by omega, npB⟩, own_keptT HRN.out g4.h, HBN.out.trans (g4.h.mono HBN.out.size), by simp only [List.length_append, List.length_cons, List.length_nil]; omega, fun t h => HR.out.ta t (List.mem_cons_of_mem _ h), fun t h => HR.out.tb t (List.mem_cons_of_mem _ h), HTS.out⟩
            go_wp2_with (fail)
            go_roundw
            case rel =>
              first
                | exact ⟨_, _, _, HNX⟩
                | ((repeat apply Exists.intro); exact ⟨⟨_, _, _, HNX⟩, rfl⟩)
            case measure =>
              show l'.length + m'.length < l'.length + 1 + (m'.length + 1)
              omega
end Go.Proofs.YthakeeinhgfbbaaGreat
