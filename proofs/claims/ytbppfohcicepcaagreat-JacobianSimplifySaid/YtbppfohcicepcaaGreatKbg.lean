/-
  U2
-/
import Derived.Test.YtbppfohcicepcaaGreatKbe
import Derived.Test.YtbppfohcicepcaaGreatKbf
import Derived.Laws.AppendOwnNone
import Derived.DeepKeys4
import Derived.Maps.OwnSet
import Derived.Maps.AppendAt
import Derived.Deep.RegionLaw
namespace Go.Proofs.YtbppfohcicepcaaGreat
open Go.ChangeShapes Go.WideShapes Go.ChangeAt Go.RowKit
set_option linter.unusedVariables false
set_option linter.unusedSimpArgs false
set_option maxRecDepth 100000
attribute [local irreducible] Calls
def exGo : List Nd → Int → Nat → Nat
  | [], _, i => i
  | x :: r, M, i => if M + (arI x.op - 1) = 0 then i + 1 else exGo r (M + (arI x.op - 1)) (i + 1)
theorem exGo_le : ∀ (l : List Nd) (M : Int) (i : Nat), exGo l M i ≤ i + l.length ∧ i ≤ exGo l M i
  | [], _, i => ⟨Nat.le_refl _, Nat.le_refl _⟩
  | x :: r, M, i => by
    unfold exGo
    split
    · simp only [List.length_cons]; omega
    · have h := exGo_le r (M + (arI x.op - 1)) (i + 1)
      simp only [List.length_cons]; omega
set_option maxHeartbeats 8000000 in
theorem extent_ok (v : Value) (l : List Nd) (w : World) (hv : Nx w v l) (hsm : l.length ≤ 1000000) : Calls Tryz.prog 96 #[v] w fun e w' => e = .returned (.int .i64 (exGo l 1 0)) ∧ Below w.heap.size w w' := by
  obtain ⟨p, c, rfl⟩ := hv.cut
  have hlm := hv.1
  unfold maxLen at hlm
  have HV := Lib.hid hv
  obtain ⟨R, hR⟩ : ∃ R, exGo l 1 0 = R := ⟨_, rfl⟩
  have HR := Lib.hid hR
  rw [hR]
  clear hv hR
  go_enter Tryz.func96, Tryz.ntmps96
  go_wp2_with (fail)
  go_loopw [3, 8] (fun m i wr => ∃ (M : Int) (k : Nat), m = .int .i64 M ∧ i = .int .i64 k ∧ k ≤ l.length ∧ 1 ≤ M ∧ M ≤ k + 1 ∧ Hid (exGo (l.drop k) M k = R) ∧ Below w.heap.size w wr) (fun _ i _ => l.length - (intOf i).toNat)
  case atStart => exact ⟨1, 0, rfl, rfl, Nat.zero_le _, by decide, by decide, HR, Below.refl _ _⟩
  case round =>
    clear HR
    obtain ⟨M, k, rfl, rfl, hk, hM0, hM1, HR, hB⟩ := hrel
    by_cases hlt : k < l.length
    · have i2 : (k : Int) < l.length := by omega
      obtain ⟨⟨op, kk, lo, hi⟩, hx⟩ : ∃ x, l[k]? = some x := ⟨_, List.getElem?_eq_getElem hlt⟩
      obtain ⟨b, o, rfl, hbs, rd⟩ := nd_rd HV.out hx
      have hd := HR.out
      rw [drop_cons hx] at hd
      unfold exGo at hd
      dsimp only at hd
      have HD := Lib.hid hd
      have KA := Lib.hid (fun w => arity_ok op w)
      have ba := arI_bd op
      obtain ⟨A, hA⟩ : ∃ A, arI op = A := ⟨_, rfl⟩
      rw [hA] at KA ba HD
      have W1 : IntKind.i64.wrap (A - 1) = A - 1 := wrapN _ (by omega) (by omega)
      have W2 : IntKind.i64.wrap (M + (A - 1)) = M + (A - 1) := wrapN _ (by omega) (by omega)
      have W3 : IntKind.i64.wrap ((k : Int) + 1) = (k : Int) + 1 := wrapN _ (by omega) (by omega)
      obtain ⟨f0, f1, f2, f3⟩ := rd ⟨wr, hB⟩
      dsimp only at f0 f1 f2 f3
      have hB2 : Below w.heap.size w (wr.alloc (.cells #[.int .i64 op, .int .i64 kk, .int .i64 lo, .int .i64 hi] 63)) := hB.alloc hB.size _
      clear rd HR hx hd hA
      go_wp2_with (fail)
      refine (KA.out _).mono ?_
      rintro e w6 ⟨rfl, hB7⟩
      have hB8 := below_then hB2 hB7
      clear f0 f1 f2 f3
      by_cases hz : M + (A - 1) = 0
      · have hd := HD.out
        rw [if_pos hz] at hd
        subst hd
        have q1 : (M + (A - 1) == 0) = true := by simpa using hz
        clear HD hz
        go_wp2_with (fail)
        go_ret
        exact ⟨by push_cast; rfl, hB8⟩
      · have hd := HD.out
        rw [if_neg hz] at hd
        have HD2 := Lib.hid hd
        have q1 : (M + (A - 1) == 0) = false := by simpa using hz
        clear HD hd
        go_wp2_with (fail)
        exact ⟨⟨M + (A - 1), k + 1, rfl, by go_num, by omega, by omega, by push_cast; omega, HD2, hB8⟩, by simp [intOf]; omega⟩
    · obtain rfl : k = l.length := by omega
      have i2 : ¬ (l.length : Int) < l.length := by omega
      have hd := HR.out
      rw [List.drop_length] at hd
      unfold exGo at hd
      subst hd
      clear HR
      go_wp2_with (fail)
      go_ret
      exact ⟨rfl, hB⟩
theorem info_nd : (Tryz.prog.info? 63).map (fun i => (i.zero, i.size, i.bytes)) = some (some (.agg #[.int .i64 0, .int .i64 0, .int .i64 0, .int .i64 0]), 4, 32) := by kernel_rfl
theorem encN_one (l : List Nd) : ∀ u ∈ cr encN l, u.oneCell' = true := by
  intro u hu
  unfold cr at hu
  obtain ⟨t, _, h⟩ := List.mem_flatMap.1 hu
  simp only [encN, List.mem_cons, List.not_mem_nil, or_false] at h
  rcases h with rfl | rfl | rfl | rfl <;> rfl
theorem wpList_append_nd {w : World} {ops : Array Oper} {rest : List Oper} {o : Oper} {a : Act} {Q : Exit → Act → World → Prop} (hgd : o.guard = none) (s x : Operand)
    (ho : o.op = .call { callee := .builtin .append, args := #[s, x], argTypes := #[23, 23] })
    (base : Nat) (v : Value) (n : Nat) (xs : List Value) (hs : a.eval s = v) (hown : w.ownsRow base 63 4 v n xs)
    (p : Option Addr) (c : Nat) (l : List Nd) (hx : a.eval x = .slice p l.length c) (htx : Nx w (.slice p l.length c) l) (hc : p = none → c = 0)
    (h63 : n + l.length ≤ maxLen) (hbytes : (n + l.length) * 32 ≤ 140737488355328) (hbase : base ≤ w.heap.size)
    (h : ∀ v' w', w'.ownsRow base 63 4 v' (n + l.length) (xs ++ cr encN l) → w.grownBy w' v.ownBlock → wpList Tryz.prog ops Q rest (a.put o.dst v') w') : wpList Tryz.prog ops Q (o :: rest) a w := by
  obtain ⟨i0, hi, hz0, hz1, hz2⟩ := info_parts info_nd
  cases p with
  | none =>
    have hl : l = [] := by
      cases l with
      | nil => rfl
      | cons y l =>
        obtain ⟨b, o', hp, _⟩ := htx.rd (i := 0) rfl
        cases hp
    subst hl
    obtain rfl := hc rfl
    refine wpList_append_own_none hgd s x _ ho base 63 i0 4 Tryz.underlying23 hi v n xs hs hown hx ?_
    refine h v w (by simpa [cr] using hown) ⟨rfl, rfl, rfl, Nat.le_refl _, fun _ _ _ => rfl⟩
  | some ad =>
    refine wpList_append_own _ hgd s x _ ho base 63 i0 _ 4 32 Tryz.underlying23 hi hz0 hz1 hz2 rfl (by decide) v n xs hs hown ad l.length c (cr encN l) hx (cr_len encN_len l) ?_ (encN_one l) h63 hbytes hbase fun v' w' h1 h2 _ => h v' w' h1 h2
    cases l with
    | nil => intro j u hj; simp [cr] at hj
    | cons y l =>
      obtain ⟨b, o', hp, _⟩ := htx.rd (i := 0) rfl
      obtain rfl := Option.some.inj hp
      intro j u hj
      have h := htx.flat encN_len j u hj
      by_cases e : j = 0
      · subst e; simpa [Addr.add] using h
      · simpa [Addr.add, e] using h
theorem own_emptyN (W : World) : (W.alloc (.cells #[] 63)).ownsRow W.heap.size 63 4 (.slice (some ⟨W.heap.size, 0, none⟩) 0 0) 0 [] :=
  ⟨rfl, .inr ⟨W.heap.size, 0, #[], rfl, Nat.le_refl _, World.alloc_heap_new W _, Nat.le_refl _, Nat.zero_le _, rfl, rfl⟩⟩
/-- Nodes in a slice with room: the length is within the capacity, nil has none. -/
def NxC (w : World) (v : Value) (l : List Nd) : Prop := Nx w v l ∧ ∃ p c, v = .slice p l.length c ∧ l.length ≤ c ∧ (p = none → c = 0)
theorem grows_nxc : Grows NxC := fun _ _ _ _ h hb => ⟨h.1.grow hb, h.2⟩
theorem nxc_own {W : World} {B : Nat} {v : Value} {l : List Nd} {t : TypeId} (h : W.ownsRow B t 4 v l.length (cr encN l)) (hl : l.length ≤ maxLen) : NxC W v l := by
  refine ⟨Rx.own encN_len h hl, ?_⟩
  rcases id h.2 with ⟨e, h0⟩ | ⟨g, cap, cur, e, _, _, hc, _⟩
  · exact ⟨none, 0, by rw [e, h0], by omega, fun _ => rfl⟩
  · exact ⟨_, cap, e, hc, fun h => by cases h⟩
theorem grown_belowN {W W' : World} (h : Below W.heap.size W W') : W.grownBy W' none := ⟨h.os, h.tape, h.output, h.size, fun k hk _ => h.block k hk⟩
theorem own_keptN {W W' : World} {B n size : Nat} {e : TypeId} {v : Value} {xs : List Value} (h : W.ownsRow B e size v n xs) (hB : Below W.heap.size W W') : W'.ownsRow B e size v n xs := by
  refine h.kept (grown_belowN hB) ?_
  cases v.ownBlock with
  | none => exact .inl rfl
  | some k => exact .inr (by simp)
/-- Nodes in a slice with room whose block holds nodes. -/
def NxO (W : World) (v : Value) (l : List Nd) : Prop := NxC W v l ∧ ∀ a n c, v = .slice (some a) n c → ∃ cur, W.heap[a.block]? = some (.cells cur 63 (0, 0))
theorem NxO.grow {W W' : World} {v : Value} {l : List Nd} (h : NxO W v l) (hB : Below W.heap.size W W') : NxO W' v l :=
  ⟨grows_nxc _ _ _ _ h.1 hB, fun a n c e => by
    obtain ⟨cur, hc⟩ := h.2 a n c e
    exact ⟨cur, (hB.block _ (Array.getElem?_eq_some_iff.1 hc).1).trans hc⟩⟩
theorem grows_nxo : Grows NxO := fun _ _ _ _ h hb => h.grow hb
theorem nxo_own {W : World} {B : Nat} {v : Value} {l : List Nd} (h : W.ownsRow B 63 4 v l.length (cr encN l)) (hl : l.length ≤ maxLen) : NxO W v l := by
  refine ⟨nxc_own h hl, fun a n c e => ?_⟩
  rcases id h.2 with ⟨e1, h0⟩ | ⟨g, cap, cur, e1, _, hh, _⟩
  · rw [e1] at e; cases e
  · rw [e1] at e
    simp only [Value.slice.injEq, Option.some.injEq] at e
    obtain ⟨rfl, _⟩ := e
    exact ⟨cur, hh⟩
set_option maxHeartbeats 4000000 in
theorem clone_nd (p : Option Addr) (c : Nat) (l : List Nd) (w : World) (hv : Nx w (.slice p l.length c) l) (hc : p = none → c = 0) (hsm : l.length ≤ 1000000) :
    Calls Tryz.prog 97 #[.slice p l.length c] w fun e W' => ∃ q cap, e = .returned (.slice q l.length cap) ∧ NxO W' (.slice q l.length cap) l ∧ Below w.heap.size w W' := by
  cases p with
  | none =>
    obtain rfl : c = 0 := hc rfl
    have hl : l = [] := by
      cases l with
      | nil => rfl
      | cons t l =>
        obtain ⟨b, o', hp, _⟩ := hv.rd (i := 0) rfl
        cases hp
    subst hl
    clear hv hc hsm
    have hcmp : (binOp BinOp.eql 23 (.slice none 0 0) (.slice none 0 0)).run Tryz.prog w = .ok (.bool true) w := by first | rfl | simp [binOp, go_sem]
    go_enter Tryz.func97, Tryz.ntmps97
    go_wp2_with (fail)
    go_ret
    exact ⟨none, 0, rfl, ⟨⟨Rx.nil _ _ _, none, 0, rfl, Nat.le_refl _, fun _ => rfl⟩, fun a n c e => by cases e⟩, Below.refl _ _⟩
  | some a =>
    have hcmp : (binOp BinOp.eql 23 (.slice (some a) l.length c) (.slice none 0 0)).run Tryz.prog w = .ok (.bool false) w := by first | rfl | simp [binOp, go_sem]
    have hown := own_emptyN w
    have hba : Below w.heap.size w (w.alloc (.cells #[] 63)) := (Below.refl _ _).alloc (Nat.le_refl _) _
    have htx := hv.grow hba
    have HB := Lib.hid hba
    clear hv hc hba
    go_enter Tryz.func97, Tryz.ntmps97
    go_wp2_with (at_builtin; refine wpList_append_nd rfl (.tmp 5) (.tmp 6) rfl w.heap.size (.slice (some ⟨w.heap.size, 0, none⟩) 0 0) 0 [] rfl hown (some a) c l rfl htx (by simp) (by unfold maxLen; omega) (by omega) (by simp) ?_)
    intro v' w1 hown' hgrow
    try simp only [Nat.zero_add, List.nil_append] at hown'
    have hnx := nxo_own hown' (by unfold maxLen; omega)
    have hBn : Below w.heap.size w w1 := Below.grown HB.out hgrow (by simp) (fun k hk => (hown.lt k hk).1)
    obtain ⟨q, cap, rfl, _⟩ := hnx.1.2
    have HT := Lib.hid hnx
    clear hown' hgrow htx hnx hown hcmp
    go_wp2_with (fail)
    go_ret
    exact ⟨q, cap, rfl, HT.out, hBn⟩
end Go.Proofs.YtbppfohcicepcaaGreat
namespace Go.Proofs.YtbppfohcicepcaaGreat
open Go.ChangeShapes Go.WideShapes Go.ChangeAt Go.RowKit
set_option linter.unusedVariables false
set_option linter.unusedSimpArgs false
set_option maxRecDepth 100000
attribute [local irreducible] Calls
theorem nxo_push {W W' : World} {v r : Value} {l : List Nd} {B n : Nat} {us : List Value} (h : NxO W v l) (hr : W.ownsRow B 23 1 r n us) (hg : W.grownBy W' r.ownBlock) : NxO W' v l := by
  obtain ⟨⟨⟨h1, p, c, rfl, h2⟩, h3⟩, h4⟩ := h
  have hne : ∀ a : Addr, p = some a → a.block < W.heap.size ∧ some a.block ≠ r.ownBlock := fun a e => by
    obtain ⟨cur, hc⟩ := h4 a _ _ (by rw [e])
    refine ⟨(Array.getElem?_eq_some_iff.1 hc).1, ?_⟩
    rcases id hr.2 with ⟨e1, h0⟩ | ⟨g, cap, cur', e1, _, hh, _⟩
    · rw [e1]; simp [Value.ownBlock]
    · rw [e1]
      simp only [Value.ownBlock, ne_eq, Option.some.injEq]
      intro e2
      rw [e2, hh] at hc
      simp only [Option.some.injEq, Obj.cells.injEq] at hc
      exact absurd hc.2.1 (by decide)
  refine ⟨⟨⟨h1, p, c, rfl, fun i x hx => ?_⟩, h3⟩, fun a n c' e => ?_⟩
  · obtain ⟨b, o, e, h5, h6⟩ := h2 i x hx
    exact ⟨b, o, e, Nat.lt_of_lt_of_le h5 hg.size, fun j u hu => hg.cell (h6 j u hu) (hne _ e).2⟩
  · obtain ⟨cur, hc⟩ := h4 a n c' e
    simp only [Value.slice.injEq] at e
    exact ⟨cur, (hg.block _ (hne a e.1).1 (hne a e.1).2).trans hc⟩
/-- A row of rows of nodes, of the call's own. -/
structure OwnL (B : Nat) (W : World) (v : Value) (l : List (List Nd)) (us : List Value) : Prop where
  row : W.ownsRow B 23 1 v l.length us
  el : ∀ (k : Nat) (u : Value) (x : List Nd), us[k]? = some u → l[k]? = some x → NxO W u x
theorem OwnL.kept {B : Nat} {W W' : World} {v : Value} {l : List (List Nd)} {us : List Value} (h : OwnL B W v l us) (hB : Below W.heap.size W W') : OwnL B W' v l us :=
  ⟨own_keptN h.row hB, fun k u x h1 h2 => (h.el k u x h1 h2).grow hB⟩
theorem OwnL.lx {B : Nat} {W : World} {v : Value} {l : List (List Nd)} {us : List Value} (h : OwnL B W v l us) (hl : l.length ≤ maxLen) : Lx NxO W v l := by
  have hlen := h.row.1
  refine ⟨hl, ?_⟩
  rcases id h.row.2 with ⟨rfl, h0⟩ | ⟨g, cap, cur, rfl, hg, hh, hcap, _, _, _⟩
  · exact ⟨none, 0, by rw [h0], fun k x hx => by
      have := (List.getElem?_eq_some_iff.1 hx).1
      omega⟩
  · refine ⟨some ⟨g, 0, none⟩, cap, rfl, fun k x hx => ?_⟩
    have hk := (List.getElem?_eq_some_iff.1 hx).1
    have hku : k < us.length := by omega
    have hc := h.row.cellAt k (by omega)
    rw [List.getElem?_eq_getElem hku] at hc
    exact ⟨g, 0, us[k], rfl, (Array.getElem?_eq_some_iff.1 hh).1, by rw [Nat.zero_add]; exact hc, h.el k _ x (List.getElem?_eq_getElem hku) hx⟩
theorem one_newN (w : World) (x : Value) (t : TypeId) : ∀ j u, [x][j]? = some u → (w.alloc (.cells #[x] t)).cell? ((⟨w.heap.size, 0, none⟩ : Addr).add j) = some u := by
  intro j u hj
  have hk : j < 1 := by have := (List.getElem?_eq_some_iff.1 hj).1; simpa using this
  obtain rfl : j = 0 := by omega
  cases hj
  simp [Addr.add, go_sem]
def opGo : Nat → List Nd → List (List Nd)
  | 0, _ => []
  | k + 1, r => r.take (exGo r 1 0) :: opGo k (r.drop (exGo r 1 0))
def operands : List Nd → List (List Nd)
  | [] => []
  | x :: r => opGo (arI x.op).toNat r
theorem info_ns : (Tryz.prog.info? 23).map (fun i => (i.zero, i.size, i.bytes)) = some (some (.slice none 0 0), 1, 24) := by kernel_rfl
set_option maxHeartbeats 8000000 in
theorem operands_ok (v : Value) (l : List Nd) (w : World) (hv : NxC w v l) (hsm : l.length ≤ 1000000) :
    Calls Tryz.prog 71 #[v] w fun e w' => ∃ r, e = .returned r ∧ (∃ us, OwnL w.heap.size w' r (operands l) us) ∧ Below w.heap.size w w' := by
  obtain ⟨hv0, p, c, rfl, hcap, hnil⟩ := hv
  cases l with
  | nil =>
    go_enter Tryz.func71, Tryz.ntmps71
    go_wp2_with (fail)
    go_ret
    exact ⟨_, rfl, ⟨[], World.ownsRow_nil _ _ _ _, fun k u x h => by simp at h⟩, Below.refl _ _⟩
  | cons x0 r0 =>
  obtain ⟨i0, hi, hz0, hz1, hz2⟩ := info_parts info_ns
  obtain ⟨op, kk, lo, hi'⟩ := x0
  obtain ⟨b, o, rfl, hbs, rd⟩ := nd_rd (i := 0) hv0 rfl
  obtain ⟨f0, _, _, _⟩ := rd ⟨w, Below.refl _ _⟩
  rw [Nat.zero_mul, Nat.add_zero] at f0
  simp only [List.length_cons] at hsm hcap
  have hd : ∃ o' cc, Nx w (.slice (some ⟨b, o', none⟩) r0.length cc) r0 ∧ r0.length ≤ cc ∧ (if c = 1 then (Value.slice (some ⟨b, o, none⟩) r0.length 0) else Value.slice (some ⟨b, o + 4, none⟩) r0.length (c - 1)) = .slice (some ⟨b, o', none⟩) r0.length cc := by
    by_cases hc1 : c = 1
    · have hd := hv0.drop (k := 1) (c' := 0) (q := some ⟨b, o, none⟩) (by simp) (fun h => by simp only [List.length_cons] at h; omega)
      simp only [List.length_cons, Nat.add_sub_cancel, List.drop_succ_cons, List.drop_zero] at hd
      exact ⟨o, 0, hd, by omega, by rw [if_pos hc1]⟩
    · have hd := hv0.drop (k := 1) (c' := c - 1) (q := some ⟨b, o + 1 * 4, none⟩) (by simp) (fun h => rfl)
      simp only [List.length_cons, Nat.add_sub_cancel, List.drop_succ_cons, List.drop_zero] at hd
      exact ⟨o + 4, c - 1, hd, by omega, by rw [if_neg hc1]⟩
  obtain ⟨o', cc, hd, hdc, hval⟩ := hd
  have HVL := Lib.hid hval
  have iq : ((r0.length : Int) + 1 == 0) = false := by
    have : (r0.length : Int) + 1 ≠ 0 := by omega
    simpa using this
  have KA := Lib.hid (fun w => arity_ok op w)
  have ba := arI_bd op
  have e0 : operands (⟨op, kk, lo, hi'⟩ :: r0) = opGo (arI op).toNat r0 := rfl
  obtain ⟨A, hA⟩ : ∃ A : Nat, arI op = (A : Int) := ⟨(arI op).toNat, by omega⟩
  rw [e0, hA]
  rw [hA] at KA ba
  rw [show ((A : Int)).toNat = A by omega]
  obtain ⟨R, hR⟩ : ∃ R, opGo A r0 = R := ⟨_, rfl⟩
  rw [hR]
  have HRR := Lib.hid hR
  have HD := Lib.hid hd
  have i1 : (0 : Int) < (r0.length : Int) + 1 := by omega
  have hbl : b < w.heap.size := hbs
  have H0 : Hid (OwnL w.heap.size w (.slice none 0 0) [] []) := Lib.hid ⟨World.ownsRow_nil w _ _ _, fun k u x h => by simp at h⟩
  clear hv0 rd hd e0 hA hR hval
  by_cases hc1 : c = 1
  · go_enter Tryz.func71, Tryz.ntmps71
    go_wp2_with (fail)
    refine (KA.out _).mono ?_
    rintro e w1 ⟨rfl, hB1⟩
    replace H0 := Lib.hid (H0.out.kept hB1)
    clear f0 KA
    go_wp2_with (fail)
    go_loopw [3, 4, 16] (fun u s i wr => ∃ (k o' cc : Nat) (r : List Nd) (dn : List (List Nd)) (us : List Value), s = .slice (some ⟨b, o', none⟩) r.length cc ∧ i = .int .i64 k ∧ k ≤ A ∧ r.length ≤ cc ∧ r.length ≤ r0.length ∧ dn.length = k ∧ Hid (Nx w (.slice (some ⟨b, o', none⟩) r.length cc) r) ∧ Hid (OwnL w.heap.size wr u dn us) ∧ Hid (dn ++ opGo (A - k) r = R) ∧ Below w.heap.size w wr) (fun _ _ i _ => A - (intOf i).toNat)
    case atStart =>
      have h := HVL.out
      rw [if_pos hc1] at h
      exact ⟨0, o', cc, r0, [], [], h, rfl, Nat.zero_le _, hdc, Nat.le_refl _, rfl, HD, H0, HRR, hB1⟩
    case round =>
      clear HD H0 HRR HVL hB1 hdc
      obtain ⟨k, o', cc, r, dn, us, rfl, rfl, hk, hcc, hrl, hdn, HN, HO, HQ, hB⟩ := hrel
      by_cases hlt : k < A
      · have i2 : (k : Int) < A := by omega
        obtain ⟨j, hj⟩ : ∃ j, A - k = j + 1 := ⟨A - k - 1, by omega⟩
        have hq := HQ.out
        rw [hj] at hq
        unfold opGo at hq
        have hle := exGo_le r 1 0
        have KE := Lib.hid (fun w h => extent_ok (.slice (some ⟨b, o', none⟩) r.length cc) r w h (by omega))
        obtain ⟨E, hE⟩ : ∃ E, exGo r 1 0 = E := ⟨_, rfl⟩
        rw [hE] at hq hle KE
        have htl : (r.take E).length = E := by rw [List.length_take]; omega
        have KC := Lib.hid (fun (w : World) (h : Nx w (.slice (some ⟨b, o', none⟩) E cc) (r.take E)) => clone_nd (some ⟨b, o', none⟩) cc (r.take E) w (by rw [htl]; exact h) (fun h => by cases h) (by omega))
        rw [htl] at KC
        have HQ2 := Lib.hid hq
        clear hq HQ
        go_wp2_with (fail)
        refine (KE.out _ (HN.out.grow hB)).mono ?_
        rintro e w2 ⟨rfl, hB2⟩
        have hE1 : E ≤ r.length := by omega
        have hE2 : E ≤ cc := by omega
        have hE3 : (E : Int) ≤ cc := by omega
        replace HO := Lib.hid (HO.out.kept hB2)
        have hB2' := below_then hB hB2
        clear hB2 KE
        go_wp2_with (fail)
        refine (KC.out _ ((HN.out.take hE1).grow hB2')).mono ?_
        rintro e w3 ⟨q, cap, rfl, hnx, hB3⟩
        replace HO := Lib.hid (HO.out.kept hB3)
        have hB3' := below_then hB2' hB3
        have hal := (Below.refl w3.heap.size w3).alloc (Nat.le_refl _) (.cells #[.slice q E cap] 23)
        have hrow := HO.out.row.alloc (.cells #[.slice q E cap] 23)
        have hB4 := hB3'.alloc hB3'.size (.cells #[.slice q E cap] 23)
        have hsz3 := hB3'.size
        clear KC hB3 hB2' hle htl
        by_cases hcE : cc = E
        · obtain rfl : E = cc := hcE.symm
          go_wp2_with (at_builtin; refine wpList_append_own _ rfl (.tmp 20) (.tmp 25) 22 rfl w.heap.size 23 i0 (.slice none 0 0) 1 24 Tryz.underlying22 hi hz0 hz1 hz2 rfl (by decide) _ dn.length _ rfl hrow ⟨w3.heap.size, 0, none⟩ 1 1 [.slice q E cap] rfl rfl (one_newN w3 (.slice q E cap) 23) (fun u hu => by simp only [List.mem_singleton] at hu; subst hu; rfl) (by unfold maxLen; omega) (by omega) (by simp; omega) ?_)
          intro v' w6 hown' hgrow _
          have hB7 : Below w.heap.size w w6 := Below.grown hB4 hgrow (by simp; omega) (fun j hj => (hrow.lt j hj).1)
          have hel : OwnL w.heap.size w6 v' (dn ++ [r.take E]) (us ++ [.slice q E cap]) := ⟨by rw [List.length_append, hdn]; exact hown', fun i u x h1 h2 => by
            refine nxo_push ?_ hrow hgrow
            have hul := HO.out.row.1
            by_cases hi : i < dn.length
            · rw [List.getElem?_append_left (by omega)] at h1
              rw [List.getElem?_append_left hi] at h2
              exact (HO.out.el i u x h1 h2).grow hal
            · rw [List.getElem?_append_right (by omega)] at h1 h2
              have hi2 : i - dn.length = 0 := by
                have := (List.getElem?_eq_some_iff.1 h2).1
                simp only [List.length_singleton] at this
                omega
              rw [show i - us.length = 0 by omega] at h1
              rw [hi2] at h2
              simp only [List.getElem?_cons_zero, Option.some.injEq] at h1 h2
              subst h1 h2
              exact hnx.grow hal⟩
          have HEL := Lib.hid hel
          have hqq := HQ2.out
          have HQ3 : Hid ((dn ++ [r.take E]) ++ opGo (A - (k + 1)) (r.drop E) = R) := Lib.hid (by rw [show A - (k + 1) = j by omega, List.append_assoc]; exact hqq)
          have hdr := HN.out.drop (k := E) (c' := 0) (q := some ⟨b, o', none⟩) hE1 (fun h => absurd h (by omega))
          have HDR : Hid (Nx w (.slice (some ⟨b, o', none⟩) (r.drop E).length 0) (r.drop E)) := Lib.hid (by rw [List.length_drop]; exact hdr)
          have hdl : (r.drop E).length = r.length - E := List.length_drop
          clear hown' hgrow hrow hel hqq hdr hnx hal
          go_wp2_with (fail)
          exact ⟨⟨k + 1, o', 0, r.drop E, dn ++ [r.take E], us ++ [.slice q E cap], by rw [hdl]; first | rfl | rw [show r.length - E = 0 by omega], by go_num, by omega, by omega, by omega, by simp [hdn], HDR, HEL, HQ3, hB7⟩, by simp [intOf]; omega⟩
        · go_wp2_with (at_builtin; refine wpList_append_own _ rfl (.tmp 20) (.tmp 25) 22 rfl w.heap.size 23 i0 (.slice none 0 0) 1 24 Tryz.underlying22 hi hz0 hz1 hz2 rfl (by decide) _ dn.length _ rfl hrow ⟨w3.heap.size, 0, none⟩ 1 1 [.slice q E cap] rfl rfl (one_newN w3 (.slice q E cap) 23) (fun u hu => by simp only [List.mem_singleton] at hu; subst hu; rfl) (by unfold maxLen; omega) (by omega) (by simp; omega) ?_)
          intro v' w6 hown' hgrow _
          have hB7 : Below w.heap.size w w6 := Below.grown hB4 hgrow (by simp; omega) (fun j hj => (hrow.lt j hj).1)
          have hel : OwnL w.heap.size w6 v' (dn ++ [r.take E]) (us ++ [.slice q E cap]) := ⟨by rw [List.length_append, hdn]; exact hown', fun i u x h1 h2 => by
            refine nxo_push ?_ hrow hgrow
            have hul := HO.out.row.1
            by_cases hi : i < dn.length
            · rw [List.getElem?_append_left (by omega)] at h1
              rw [List.getElem?_append_left hi] at h2
              exact (HO.out.el i u x h1 h2).grow hal
            · rw [List.getElem?_append_right (by omega)] at h1 h2
              have hi2 : i - dn.length = 0 := by
                have := (List.getElem?_eq_some_iff.1 h2).1
                simp only [List.length_singleton] at this
                omega
              rw [show i - us.length = 0 by omega] at h1
              rw [hi2] at h2
              simp only [List.getElem?_cons_zero, Option.some.injEq] at h1 h2
              subst h1 h2
              exact hnx.grow hal⟩
          have HEL := Lib.hid hel
          have hqq := HQ2.out
          have HQ3 : Hid ((dn ++ [r.take E]) ++ opGo (A - (k + 1)) (r.drop E) = R) := Lib.hid (by rw [show A - (k + 1) = j by omega, List.append_assoc]; exact hqq)
          have hdr := HN.out.drop (k := E) (c' := cc - E) (q := some ⟨b, o' + E * 4, none⟩) hE1 (fun h => rfl)
          have HDR : Hid (Nx w (.slice (some ⟨b, o' + E * 4, none⟩) (r.drop E).length (cc - E)) (r.drop E)) := Lib.hid (by rw [List.length_drop]; exact hdr)
          have hdl : (r.drop E).length = r.length - E := List.length_drop
          clear hown' hgrow hrow hel hqq hdr hnx hal
          go_wp2_with (fail)
          exact ⟨⟨k + 1, o' + E * 4, cc - E, r.drop E, dn ++ [r.take E], us ++ [.slice q E cap], by rw [hdl], by go_num, by omega, by omega, by omega, by simp [hdn], HDR, HEL, HQ3, hB7⟩, by simp [intOf]; omega⟩
      · obtain rfl : k = A := by omega
        have i2 : ¬ (k : Int) < k := by omega
        have hq := HQ.out
        rw [Nat.sub_self] at hq
        unfold opGo at hq
        rw [List.append_nil] at hq
        subst hq
        have HL := HO
        go_wp2_with (fail)
        go_ret
        exact ⟨_, rfl, ⟨_, HL.out⟩, hB⟩
  · go_enter Tryz.func71, Tryz.ntmps71
    go_wp2_with (fail)
    refine (KA.out _).mono ?_
    rintro e w1 ⟨rfl, hB1⟩
    replace H0 := Lib.hid (H0.out.kept hB1)
    clear f0 KA
    go_wp2_with (fail)
    go_loopw [3, 4, 16] (fun u s i wr => ∃ (k o' cc : Nat) (r : List Nd) (dn : List (List Nd)) (us : List Value), s = .slice (some ⟨b, o', none⟩) r.length cc ∧ i = .int .i64 k ∧ k ≤ A ∧ r.length ≤ cc ∧ r.length ≤ r0.length ∧ dn.length = k ∧ Hid (Nx w (.slice (some ⟨b, o', none⟩) r.length cc) r) ∧ Hid (OwnL w.heap.size wr u dn us) ∧ Hid (dn ++ opGo (A - k) r = R) ∧ Below w.heap.size w wr) (fun _ _ i _ => A - (intOf i).toNat)
    case atStart =>
      have h := HVL.out
      rw [if_neg hc1] at h
      exact ⟨0, o', cc, r0, [], [], h, rfl, Nat.zero_le _, hdc, Nat.le_refl _, rfl, HD, H0, HRR, hB1⟩
    case round =>
      clear HD H0 HRR HVL hB1 hdc
      obtain ⟨k, o', cc, r, dn, us, rfl, rfl, hk, hcc, hrl, hdn, HN, HO, HQ, hB⟩ := hrel
      by_cases hlt : k < A
      · have i2 : (k : Int) < A := by omega
        obtain ⟨j, hj⟩ : ∃ j, A - k = j + 1 := ⟨A - k - 1, by omega⟩
        have hq := HQ.out
        rw [hj] at hq
        unfold opGo at hq
        have hle := exGo_le r 1 0
        have KE := Lib.hid (fun w h => extent_ok (.slice (some ⟨b, o', none⟩) r.length cc) r w h (by omega))
        obtain ⟨E, hE⟩ : ∃ E, exGo r 1 0 = E := ⟨_, rfl⟩
        rw [hE] at hq hle KE
        have htl : (r.take E).length = E := by rw [List.length_take]; omega
        have KC := Lib.hid (fun (w : World) (h : Nx w (.slice (some ⟨b, o', none⟩) E cc) (r.take E)) => clone_nd (some ⟨b, o', none⟩) cc (r.take E) w (by rw [htl]; exact h) (fun h => by cases h) (by omega))
        rw [htl] at KC
        have HQ2 := Lib.hid hq
        clear hq HQ
        go_wp2_with (fail)
        refine (KE.out _ (HN.out.grow hB)).mono ?_
        rintro e w2 ⟨rfl, hB2⟩
        have hE1 : E ≤ r.length := by omega
        have hE2 : E ≤ cc := by omega
        have hE3 : (E : Int) ≤ cc := by omega
        replace HO := Lib.hid (HO.out.kept hB2)
        have hB2' := below_then hB hB2
        clear hB2 KE
        go_wp2_with (fail)
        refine (KC.out _ ((HN.out.take hE1).grow hB2')).mono ?_
        rintro e w3 ⟨q, cap, rfl, hnx, hB3⟩
        replace HO := Lib.hid (HO.out.kept hB3)
        have hB3' := below_then hB2' hB3
        have hal := (Below.refl w3.heap.size w3).alloc (Nat.le_refl _) (.cells #[.slice q E cap] 23)
        have hrow := HO.out.row.alloc (.cells #[.slice q E cap] 23)
        have hB4 := hB3'.alloc hB3'.size (.cells #[.slice q E cap] 23)
        have hsz3 := hB3'.size
        clear KC hB3 hB2' hle htl
        by_cases hcE : cc = E
        · obtain rfl : E = cc := hcE.symm
          go_wp2_with (at_builtin; refine wpList_append_own _ rfl (.tmp 20) (.tmp 25) 22 rfl w.heap.size 23 i0 (.slice none 0 0) 1 24 Tryz.underlying22 hi hz0 hz1 hz2 rfl (by decide) _ dn.length _ rfl hrow ⟨w3.heap.size, 0, none⟩ 1 1 [.slice q E cap] rfl rfl (one_newN w3 (.slice q E cap) 23) (fun u hu => by simp only [List.mem_singleton] at hu; subst hu; rfl) (by unfold maxLen; omega) (by omega) (by simp; omega) ?_)
          intro v' w6 hown' hgrow _
          have hB7 : Below w.heap.size w w6 := Below.grown hB4 hgrow (by simp; omega) (fun j hj => (hrow.lt j hj).1)
          have hel : OwnL w.heap.size w6 v' (dn ++ [r.take E]) (us ++ [.slice q E cap]) := ⟨by rw [List.length_append, hdn]; exact hown', fun i u x h1 h2 => by
            refine nxo_push ?_ hrow hgrow
            have hul := HO.out.row.1
            by_cases hi : i < dn.length
            · rw [List.getElem?_append_left (by omega)] at h1
              rw [List.getElem?_append_left hi] at h2
              exact (HO.out.el i u x h1 h2).grow hal
            · rw [List.getElem?_append_right (by omega)] at h1 h2
              have hi2 : i - dn.length = 0 := by
                have := (List.getElem?_eq_some_iff.1 h2).1
                simp only [List.length_singleton] at this
                omega
              rw [show i - us.length = 0 by omega] at h1
              rw [hi2] at h2
              simp only [List.getElem?_cons_zero, Option.some.injEq] at h1 h2
              subst h1 h2
              exact hnx.grow hal⟩
          have HEL := Lib.hid hel
          have hqq := HQ2.out
          have HQ3 : Hid ((dn ++ [r.take E]) ++ opGo (A - (k + 1)) (r.drop E) = R) := Lib.hid (by rw [show A - (k + 1) = j by omega, List.append_assoc]; exact hqq)
          have hdr := HN.out.drop (k := E) (c' := 0) (q := some ⟨b, o', none⟩) hE1 (fun h => absurd h (by omega))
          have HDR : Hid (Nx w (.slice (some ⟨b, o', none⟩) (r.drop E).length 0) (r.drop E)) := Lib.hid (by rw [List.length_drop]; exact hdr)
          have hdl : (r.drop E).length = r.length - E := List.length_drop
          clear hown' hgrow hrow hel hqq hdr hnx hal
          go_wp2_with (fail)
          exact ⟨⟨k + 1, o', 0, r.drop E, dn ++ [r.take E], us ++ [.slice q E cap], by rw [hdl]; first | rfl | rw [show r.length - E = 0 by omega], by go_num, by omega, by omega, by omega, by simp [hdn], HDR, HEL, HQ3, hB7⟩, by simp [intOf]; omega⟩
        · go_wp2_with (at_builtin; refine wpList_append_own _ rfl (.tmp 20) (.tmp 25) 22 rfl w.heap.size 23 i0 (.slice none 0 0) 1 24 Tryz.underlying22 hi hz0 hz1 hz2 rfl (by decide) _ dn.length _ rfl hrow ⟨w3.heap.size, 0, none⟩ 1 1 [.slice q E cap] rfl rfl (one_newN w3 (.slice q E cap) 23) (fun u hu => by simp only [List.mem_singleton] at hu; subst hu; rfl) (by unfold maxLen; omega) (by omega) (by simp; omega) ?_)
          intro v' w6 hown' hgrow _
          have hB7 : Below w.heap.size w w6 := Below.grown hB4 hgrow (by simp; omega) (fun j hj => (hrow.lt j hj).1)
          have hel : OwnL w.heap.size w6 v' (dn ++ [r.take E]) (us ++ [.slice q E cap]) := ⟨by rw [List.length_append, hdn]; exact hown', fun i u x h1 h2 => by
            refine nxo_push ?_ hrow hgrow
            have hul := HO.out.row.1
            by_cases hi : i < dn.length
            · rw [List.getElem?_append_left (by omega)] at h1
              rw [List.getElem?_append_left hi] at h2
              exact (HO.out.el i u x h1 h2).grow hal
            · rw [List.getElem?_append_right (by omega)] at h1 h2
              have hi2 : i - dn.length = 0 := by
                have := (List.getElem?_eq_some_iff.1 h2).1
                simp only [List.length_singleton] at this
                omega
              rw [show i - us.length = 0 by omega] at h1
              rw [hi2] at h2
              simp only [List.getElem?_cons_zero, Option.some.injEq] at h1 h2
              subst h1 h2
              exact hnx.grow hal⟩
          have HEL := Lib.hid hel
          have hqq := HQ2.out
          have HQ3 : Hid ((dn ++ [r.take E]) ++ opGo (A - (k + 1)) (r.drop E) = R) := Lib.hid (by rw [show A - (k + 1) = j by omega, List.append_assoc]; exact hqq)
          have hdr := HN.out.drop (k := E) (c' := cc - E) (q := some ⟨b, o' + E * 4, none⟩) hE1 (fun h => rfl)
          have HDR : Hid (Nx w (.slice (some ⟨b, o' + E * 4, none⟩) (r.drop E).length (cc - E)) (r.drop E)) := Lib.hid (by rw [List.length_drop]; exact hdr)
          have hdl : (r.drop E).length = r.length - E := List.length_drop
          clear hown' hgrow hrow hel hqq hdr hnx hal
          go_wp2_with (fail)
          exact ⟨⟨k + 1, o' + E * 4, cc - E, r.drop E, dn ++ [r.take E], us ++ [.slice q E cap], by rw [hdl], by go_num, by omega, by omega, by omega, by simp [hdn], HDR, HEL, HQ3, hB7⟩, by simp [intOf]; omega⟩
      · obtain rfl : k = A := by omega
        have i2 : ¬ (k : Int) < k := by omega
        have hq := HQ.out
        rw [Nat.sub_self] at hq
        unfold opGo at hq
        rw [List.append_nil] at hq
        subst hq
        have HL := HO
        go_wp2_with (fail)
        go_ret
        exact ⟨_, rfl, ⟨_, HL.out⟩, hB⟩
end Go.Proofs.YtbppfohcicepcaaGreat
namespace Go.Proofs.YtbppfohcicepcaaGreat
open Go.ChangeShapes Go.WideShapes Go.ChangeAt Go.RowKit Go.Maps
set_option linter.unusedVariables false
set_option linter.unusedSimpArgs false
set_option maxRecDepth 100000
/-- An instruction's cells are 64-bit. -/
def W64 (x : Int) : Prop := -9223372036854775808 ≤ x ∧ x ≤ 9223372036854775807
theorem wf64i {x : Int} (h : W64 x) : (Lit.int .i64 x).wf = true := WalkArith.wf_i64 (by unfold W64 at h; omega)
/-! ### the elements -/
def dN (i : Nat) : DataW Unit := .lit (.int .i64 i)
def elN : Value → Option (DataW Unit × List MemPlace)
  | .int .i64 a => some (.lit (.int .i64 a), [])
  | _ => none
end Go.Proofs.YtbppfohcicepcaaGreat
namespace Go.Proofs.YtbppfohcicepcaaGreat
open Go.ChangeShapes Go.WideShapes Go.ChangeAt Go.RowKit Go.Maps
set_option linter.unusedVariables false
set_option linter.unusedSimpArgs false
set_option maxRecDepth 100000
attribute [local irreducible] Calls
theorem cellsT_setN {W : World} {b o : Nat} {cs : Array Value} {t : TypeId} {z : Nat × Nat} {u : Value} (h : W.heap[b]? = some (.cells cs t z)) : (W.setCell ⟨b, o, none⟩ u).heap[b]? = some (.cells (cs.setIfInBounds o u) t z) := by
  obtain ⟨hlt, hk⟩ := Array.getElem?_eq_some_iff.1 h
  show (W.heap.modify b _)[b]? = _
  rw [Array.getElem?_eq_getElem (by rw [Array.size_modify]; exact hlt), Array.getElem_modify_self, hk]
  rfl
/-- What a list's emissions leave: all but the list's own three blocks. -/
structure Ext (bl bm : Nat) (u u' : Value) (W W' : World) : Prop where
  os : W'.os = W.os
  tape : W'.tape = W.tape
  output : W'.output = W.output
  size : W.heap.size ≤ W'.heap.size
  blk : ∀ k, k < W.heap.size → k ≠ bl → k ≠ bm → some k ≠ u.ownBlock → W'.heap[k]? = W.heap[k]?
  own : ∀ g, u'.ownBlock = some g → u.ownBlock = some g ∨ W.heap.size ≤ g
theorem Ext.trans {bl bm : Nat} {u u' u'' : Value} {W W' W'' : World} (h : Ext bl bm u u' W W') (k : Ext bl bm u' u'' W' W'') : Ext bl bm u u'' W W'' :=
  ⟨k.os.trans h.os, k.tape.trans h.tape, k.output.trans h.output, Nat.le_trans h.size k.size, fun j hj h1 h2 h3 => (k.blk j (Nat.lt_of_lt_of_le hj h.size) h1 h2 (fun e => by
    rcases h.own j e.symm with h4 | h4
    · exact h3 h4.symm
    · omega)).trans (h.blk j hj h1 h2 h3), fun g hg => by
    rcases k.own g hg with h4 | h4
    · exact h.own g h4
    · exact .inr (Nat.le_trans h.size h4)⟩
section
variable {B bl bm : Nat} {u : Value} {L : List Is} {W : World}
theorem grownBy_setN (W : World) (a : Addr) (v : Value) : W.grownBy (W.setCell a v) (some a.block) := ⟨rfl, rfl, rfl, (KeepsWalks.setCell W _ v).size, fun k _ hk => Below.heap_setCell _ _ _ k (fun e => hk (by rw [e]))⟩
end
end Go.Proofs.YtbppfohcicepcaaGreat
namespace Go.Proofs.YtbppfohcicepcaaGreat
open Go.ChangeShapes Go.WideShapes Go.ChangeAt Go.RowKit Go.Maps
set_option linter.unusedVariables false
set_option linter.unusedSimpArgs false
set_option maxRecDepth 100000
attribute [local irreducible] Calls
/-- An expression: a root and up to two operands. -/
inductive Ex where
  | e0 (x : Nd)
  | e1 (x : Nd) (a : Ex)
  | e2 (x : Nd) (a b : Ex)
/-- The nodes of an expression in prefix order. -/
def pre : Ex → List Nd
  | .e0 x => [x]
  | .e1 x a => x :: pre a
  | .e2 x a b => x :: (pre a ++ pre b)
/-- Every root has the operands that its operation asks for. -/
def Ar : Ex → Prop
  | .e0 x => arI x.op = 0
  | .e1 x a => arI x.op = 1 ∧ Ar a
  | .e2 x a b => arI x.op = 2 ∧ Ar a ∧ Ar b
theorem pre_pos : ∀ t : Ex, 0 < (pre t).length
  | .e0 _ => by simp [pre]
  | .e1 _ _ => by simp [pre]
  | .e2 _ _ _ => by simp [pre]
theorem exGo_cons (x : Nd) (r : List Nd) (M : Int) (i : Nat) : exGo (x :: r) M i = if M + (arI x.op - 1) = 0 then i + 1 else exGo r (M + (arI x.op - 1)) (i + 1) := rfl
theorem ex_pre : ∀ (t : Ex) (r : List Nd) (M : Int) (i : Nat), Ar t → 1 ≤ M → exGo (pre t ++ r) M i = if M = 1 then i + (pre t).length else exGo r (M - 1) (i + (pre t).length)
  | .e0 x, r, M, i, h, hM => by
    unfold Ar at h
    show exGo (x :: r) M i = _
    rw [exGo_cons, h]
    by_cases h1 : M = 1
    · rw [if_pos (by omega), if_pos h1]; rfl
    · rw [if_neg (by omega), if_neg h1]
      show exGo r (M + (0 - 1)) (i + 1) = exGo r (M - 1) (i + 1)
      rw [show M + (0 - 1) = M - 1 by omega]
  | .e1 x a, r, M, i, h, hM => by
    unfold Ar at h
    show exGo (x :: (pre a ++ r)) M i = _
    rw [exGo_cons, h.1, if_neg (by omega), show M + (1 - 1) = M by omega, ex_pre a r M (i + 1) h.2 hM]
    have e : (pre (.e1 x a)).length = (pre a).length + 1 := by simp [pre]
    rw [e, show i + 1 + (pre a).length = i + ((pre a).length + 1) by omega]
  | .e2 x a b, r, M, i, h, hM => by
    unfold Ar at h
    show exGo (x :: ((pre a ++ pre b) ++ r)) M i = _
    rw [exGo_cons, h.1, if_neg (by omega), show M + (2 - 1) = M + 1 by omega, List.append_assoc, ex_pre a (pre b ++ r) (M + 1) (i + 1) h.2.1 (by omega), if_neg (by omega), show M + 1 - 1 = M by omega, ex_pre b r M _ h.2.2 hM]
    have e : (pre (.e2 x a b)).length = (pre a).length + (pre b).length + 1 := by simp [pre]
    rw [e, show i + 1 + (pre a).length + (pre b).length = i + ((pre a).length + (pre b).length + 1) by omega]
theorem ex_one {t : Ex} (h : Ar t) (r : List Nd) : exGo (pre t ++ r) 1 0 = (pre t).length := by
  rw [ex_pre t r 1 0 h (by omega), if_pos rfl, Nat.zero_add]
theorem ops0 {x : Nd} (h : Ar (.e0 x)) : operands (pre (.e0 x)) = [] := by
  unfold Ar at h
  show opGo (arI x.op).toNat [] = []
  rw [h]; rfl
theorem ops1 {x : Nd} {a : Ex} (h : Ar (.e1 x a)) : operands (pre (.e1 x a)) = [pre a] := by
  unfold Ar at h
  show opGo (arI x.op).toNat (pre a) = _
  rw [h.1]
  show (pre a).take (exGo (pre a) 1 0) :: opGo 0 _ = _
  have e := ex_one h.2 []
  rw [List.append_nil] at e
  rw [e, List.take_length]
  rfl
theorem ops2 {x : Nd} {a b : Ex} (h : Ar (.e2 x a b)) : operands (pre (.e2 x a b)) = [pre a, pre b] := by
  unfold Ar at h
  show opGo (arI x.op).toNat (pre a ++ pre b) = _
  rw [h.1]
  show (pre a ++ pre b).take (exGo (pre a ++ pre b) 1 0) :: opGo 1 ((pre a ++ pre b).drop (exGo (pre a ++ pre b) 1 0)) = _
  rw [ex_one h.2.1 (pre b), List.take_left, List.drop_left]
  show _ :: (pre b).take (exGo (pre b) 1 0) :: opGo 0 _ = _
  have e := ex_one h.2.2 []
  rw [List.append_nil] at e
  rw [e, List.take_length]
  rfl
/-- Nodes whose cells are 64-bit. -/
def NW (x : Nd) : Prop := W64 x.op ∧ W64 x.n ∧ W64 x.lo ∧ W64 x.hi
end Go.Proofs.YtbppfohcicepcaaGreat
