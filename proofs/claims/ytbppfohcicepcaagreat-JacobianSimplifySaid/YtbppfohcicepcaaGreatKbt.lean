/-
  AppB Jf
-/
import Derived.Test.YtbppfohcicepcaaGreatKbm
import Derived.Test.YtbppfohcicepcaaGreatKbn
import Derived.Test.YtbppfohcicepcaaGreatKbp
import Derived.Test.YtbppfohcicepcaaGreatKbs
import Derived.Maps.AppendAt
namespace Go.Proofs.YtbppfohcicepcaaGreat
open Go.ChangeShapes Go.WideShapes Go.ChangeAt Go.RowKit
set_option linter.unusedVariables false
set_option linter.unusedSimpArgs false
set_option maxRecDepth 100000
section
variable {P : Program}
theorem app_a {o : Oper} {aa : Act} {w : World} (B : Nat) (s x : Operand) (t e : TypeId) (i : TypeInfo) (z : Value) (sz by_ : Nat)
    (ho : o.op = .call { callee := .builtin .append, args := #[s, x], argTypes := #[t, t] })
    (ht : P.underlying t = some (.slice e)) (hi : P.info? e = some i) (hz : i.zero = some z) (hsize : i.size = sz) (hby : i.bytes = by_) (hzs : z.cells.size = sz) (hsz : 0 < sz)
    (v : Value) (n : Nat) (xs : List Value) (hs : aa.eval s = v) (hown : w.ownsRow B e sz v n xs)
    (ad : Addr) (m c : Nat) (news : List Value) (hx : aa.eval x = .slice (some ad) m c) (hnl : news.length = m * sz)
    (hcell : ∀ j u, news[j]? = some u → w.cell? (ad.add j) = some u) (h1 : ∀ u ∈ news, u.oneCell' = true)
    (h63 : n + m ≤ maxLen) (hbytes : (n + m) * by_ ≤ 140737488355328) (hb : B ≤ w.heap.size) :
    ∃ v' w', (execOp aa.eval o).run P w = .ok (.value v') w' ∧ w.grownBy w' v.ownBlock ∧ w'.ownsRow B e sz v' (n + m) (xs ++ news) ∧ (v'.ownBlock = v.ownBlock ∨ v'.ownBlock = some w.heap.size) := by
  obtain ⟨v', w', hr, h2, h3, _, h4⟩ := run_append_own_at (P := P) w B t o.type e i z sz by_ ht hi hz hsize hby hzs hsz v n xs hown ad m c news hnl hcell h1 h63 hbytes hb
  refine ⟨v', w', ?_, h3, h2, h4⟩
  simp [execOp, ho, resolve, invoke, builtin, hs, hx, hr, Result.andThen]
theorem app_b {o : Oper} {aa : Act} {w : World} {row : Option Nat} {F R : Value → World → Prop} (B : Nat) (s x : Operand) (t e : TypeId) (i : TypeInfo) (z : Value) (sz by_ : Nat)
    (ho : o.op = .call { callee := .builtin .append, args := #[s, x], argTypes := #[t, t] })
    (ht : P.underlying t = some (.slice e)) (hi : P.info? e = some i) (hz : i.zero = some z) (hsize : i.size = sz) (hby : i.bytes = by_) (hzs : z.cells.size = sz) (hsz : 0 < sz)
    (v : Value) (n : Nat) (xs : List Value) (hs : aa.eval s = v) (hown : w.ownsRow B e sz v n xs)
    (ad : Addr) (m c : Nat) (news : List Value) (hx : aa.eval x = .slice (some ad) m c) (hnl : news.length = m * sz)
    (hcell : ∀ j u, news[j]? = some u → w.cell? (ad.add j) = some u) (h1 : ∀ u ∈ news, u.oneCell' = true)
    (h63 : n + m ≤ maxLen) (hbytes : (n + m) * by_ ≤ 140737488355328) (hb : B ≤ w.heap.size) (hrow : row = v.ownBlock)
    (hK : ∀ v' w', w.grownBy w' v.ownBlock → w'.ownsRow B e sz v' (n + m) (xs ++ news) → (v'.ownBlock = v.ownBlock ∨ v'.ownBlock = some w.heap.size) → F v' w' ∧ R v' w') :
    ∃ v' w', (execOp aa.eval o).run P w = .ok (.value v') w' ∧ w.grownBy w' row ∧ F v' w' ∧ R v' w' := by
  obtain ⟨v', w', h1, h2, h3, h4⟩ := app_a B s x t e i z sz by_ ho ht hi hz hsize hby hzs hsz v n xs hs hown ad m c news hx hnl hcell h1 h63 hbytes hb
  subst hrow
  exact ⟨v', w', h1, h2, hK v' w' h2 h3 h4⟩
def SteadyR (row : Option Nat) (S : Value → World → Prop) : Prop := ∀ v w1 w2, w1.grownBy w2 row → S v w1 → S v w2
def steadyAllR (row : Option Nat) : List (Tmp × (Value → World → Prop)) → Prop
  | [] => True
  | (_, S) :: r => SteadyR row S ∧ steadyAllR row r
theorem lk_steadyR (row : Option Nat) : ∀ (l : List (Tmp × (Value → World → Prop))), steadyAllR row l → ∀ t v w1 w2, w1.grownBy w2 row → lk l t v w1 → lk l t v w2
  | [], _, _, _, _, _, _, _ => trivial
  | (d, S) :: r, h, t, v, w1, w2, hb, hl => by
    unfold lk at *
    by_cases e : Nat.beq d t = true
    · rw [if_pos e] at hl ⊢
      exact h.1 v w1 w2 hb hl
    · rw [if_neg e] at hl ⊢
      exact lk_steadyR row r h.2 t v w1 w2 hb hl
theorem steadyR_eq (row : Option Nat) (u : Value) : SteadyR row (fun v _ => v = u) := fun _ _ _ _ h => h
theorem steadyR_blk {row : Option Nat} {B : Nat} {z : Nat → Value} {o : Obj} (hrow : ∀ b, row = some b → b < B) : SteadyR row (fun v w' => ∃ X_, v = z X_ ∧ B ≤ X_ ∧ w'.heap[X_]? = some o) := fun v w1 w2 hb ⟨X, e, h1, h2⟩ =>
  ⟨X, e, h1, (hb.block X (Array.getElem?_eq_some_iff.1 h2).1 (fun q => by have := hrow X q.symm; omega)).trans h2⟩
end
theorem grown_then {W W1 W' : World} {row : Option Nat} (h : W.grownBy W1 row) (k : Below W1.heap.size W1 W') : W.grownBy W' row :=
  ⟨k.os.trans h.os, k.tape.trans h.tape, k.output.trans h.output, Nat.le_trans h.size k.size, fun j hj hne => (k.block j (Nat.lt_of_lt_of_le hj h.size)).trans (h.block j hj hne)⟩
end Go.Proofs.YtbppfohcicepcaaGreat
namespace Go.Proofs.YtbppfohcicepcaaGreat
open Go.ChangeShapes Go.WideShapes Go.ChangeAt Go.RowKit
set_option linter.unusedVariables false
set_option linter.unusedSimpArgs false
set_option maxRecDepth 100000
attribute [local irreducible] Calls
open Go.Maps
variable {Fz : Nat}
/-- The operands of a term. -/
def kids : Ex → List Ex
  | .e0 _ => []
  | .e1 _ a => [a]
  | .e2 _ a b => [a, b]
theorem pre_kids : ∀ T : Ex, pre T = rtN T :: (kids T).flatMap pre
  | .e0 _ => rfl
  | .e1 _ a => by simp [pre, rtN, kids]
  | .e2 _ a b => by simp [pre, rtN, kids]
theorem kids_le (T : Ex) : (kids T).length ≤ 2 := by cases T <;> simp [kids]
theorem TmP.kids {w : World} : ∀ {T : Ex} {v : Value}, TmP Fz w v T → ∃ b p c, v = .pointer (some ⟨b, 0, none⟩) ∧ TmC w b (rtN T) (.slice p (kids T).length c) ∧ TmS Fz w (.slice p (kids T).length c) (Go.Proofs.YtbppfohcicepcaaGreat.kids T)
  | .e0 x, v, ⟨b, p, c, e, h1, _⟩ => ⟨b, p, c, e, h1, by simp [Go.Proofs.YtbppfohcicepcaaGreat.kids, maxLen], p, c, rfl, fun k x h => by simp [Go.Proofs.YtbppfohcicepcaaGreat.kids] at h⟩
  | .e1 x a, v, ⟨b, r, o, c, u, e, h1, h2, h3, _⟩ => ⟨b, _, c, e, h1, by simp [Go.Proofs.YtbppfohcicepcaaGreat.kids, maxLen], _, c, rfl, fun k x h => by
      match k, h with
      | 0, h => cases h; exact ⟨r, o, u, rfl, cell_lt h2, h2, h3⟩
      | k + 1, h => simp [Go.Proofs.YtbppfohcicepcaaGreat.kids] at h⟩
  | .e2 x a a', v, ⟨b, r, o, c, u, u', e, h1, h2, h2', h3, h3', _⟩ => ⟨b, _, c, e, h1, by simp [Go.Proofs.YtbppfohcicepcaaGreat.kids, maxLen], _, c, rfl, fun k x h => by
      match k, h with
      | 0, h => cases h; exact ⟨r, o, u, rfl, cell_lt h2, h2, h3⟩
      | 1, h => cases h; exact ⟨r, o, u', rfl, cell_lt h2', h2', h3'⟩
      | k + 2, h => simp [Go.Proofs.YtbppfohcicepcaaGreat.kids] at h⟩
/-- What the closure of nodes finds: the nodes so far, itself. -/
structure WrI (w0 : World) (B eb fb : Nat) (v : Value) (E : List Nd) (W : World) : Prop where
  far : w0.heap.size ≤ eb ∧ eb < B ∧ fb < B ∧ fb ≠ eb
  bel : Below w0.heap.size w0 W
  sz : B ≤ W.heap.size
  be : Boxed W eb 23 v
  bf : Boxed W fb 90 (.func (.func 73) #[] #[.pointer (some ⟨eb, 0, none⟩), .pointer (some ⟨fb, 0, none⟩)])
  row : W.ownsRow B 63 4 v E.length (cr encN E)
section
variable {w0 W W' : World} {B eb fb : Nat} {v v' : Value} {E E' : List Nd}
theorem WrI.grow (h : WrI w0 B eb fb v E W) (hB : Below W.heap.size W W') : WrI w0 B eb fb v E W' := by
  obtain ⟨f1, f2, f3, f4⟩ := h.far
  have hs := h.sz
  exact ⟨h.far, h.bel.trans (hB.mono h.bel.size), Nat.le_trans hs hB.size, (hB.block eb (by omega)).trans h.be, (hB.block fb (by omega)).trans h.bf, own_keptN h.row hB⟩
theorem WrI.put (h : WrI w0 B eb fb v E W) (hown : W'.ownsRow B 63 4 v' E'.length (cr encN E')) (hg : W.grownBy W' v.ownBlock) :
    WrI w0 B eb fb v' E' (W'.setCell ⟨eb, 0, none⟩ v') := by
  obtain ⟨f1, f2, f3, f4⟩ := h.far
  have hs := h.sz
  have hlt : ∀ k, k < B → W'.heap[k]? = W.heap[k]? := fun k hk => hg.block k (by omega) (fun e => by have := (h.row.lt k e.symm).1; omega)
  have hbe : W'.heap[eb]? = some (.cells #[v] 23 (0, 0)) := (hlt eb f2).trans h.be
  have hset := grownBy_setN W' ⟨eb, 0, none⟩ v'
  have hne : ∀ k, k < W'.heap.size → k ≠ eb → (W'.setCell ⟨eb, 0, none⟩ v').heap[k]? = W'.heap[k]? := fun k hk hn => hset.block k hk (fun e => hn (Option.some.inj e))
  have hsz := hg.size
  have h2 : Below B W W' := ⟨hg.os, hg.tape, hg.output, hg.size, hlt⟩
  have h3 : Below w0.heap.size w0 (W'.setCell ⟨eb, 0, none⟩ v') := (h.bel.trans (h2.mono (by omega))).setCell (p := ⟨eb, 0, none⟩) f1 v'
  refine ⟨h.far, h3, Nat.le_trans (Nat.le_trans hs hsz) hset.size, cellsT_setN (o := 0) (u := v') hbe, ((hne fb (by omega) f4).trans (hlt fb f3)).trans h.bf, hown.kept hset ?_⟩
  exact own_ne fun g hg' e => by
    have := (hown.lt g hg').1
    subst e
    omega
end
theorem nd_at {W : World} {X : Nat} (x : Nd) {t : TypeId} {z : Nat × Nat} (h : W.heap[X]? = some (.cells #[.int .i64 x.op, .int .i64 x.n, .int .i64 x.lo, .int .i64 x.hi] t z)) : ∀ j u, (encN x)[j]? = some u → W.cell? ((⟨X, 0, none⟩ : Addr).add j) = some u := by
  intro j u hj
  have hk : j < 4 := by have := (List.getElem?_eq_some_iff.1 hj).1; simpa [encN] using this
  have hc := heapN_cellj h (k := j) (u := u) (by
    unfold encN at hj
    match j, hk, hj with
    | 0, _, hj => exact hj
    | 1, _, hj => exact hj
    | 2, _, hj => exact hj
    | 3, _, hj => exact hj)
  by_cases e : j = 0
  · subst e; simpa [Addr.add] using hc
  · simpa [Addr.add, e] using hc
set_option maxHeartbeats 16000000 in
theorem write_step (w0 : World) (B eb fb : Nat) (T : Ex) (z : Value) (hz : TmP Fz w0 z T)
    (IH : ∀ a ∈ kids T, ∀ (z v : Value) (E : List Nd) (W : World), TmP Fz w0 z a → WrI w0 B eb fb v E W → E.length + (pre a).length ≤ 100000 → Calls Tryz.prog 73 #[z, .pointer (some ⟨eb, 0, none⟩), .pointer (some ⟨fb, 0, none⟩)] W fun e w' => ∃ v', e = .returned (.tuple #[]) ∧ WrI w0 B eb fb v' (E ++ pre a) w') :
    ∀ (v : Value) (E : List Nd) (W : World), WrI w0 B eb fb v E W → E.length + (pre T).length ≤ 100000 → Calls Tryz.prog 73 #[z, .pointer (some ⟨eb, 0, none⟩), .pointer (some ⟨fb, 0, none⟩)] W fun e w' => ∃ v', e = .returned (.tuple #[]) ∧ WrI w0 B eb fb v' (E ++ pre T) w' := by
  intro v E W hd hlen
  obtain ⟨i0, hi, hz0, hz1, hz2⟩ := info_parts info_nd
  obtain ⟨bt, pk, ck, rfl, htc, hks⟩ := hz.kids
  have hkl := kids_le T
  rw [pre_kids T] at hlen ⊢
  simp only [List.length_cons] at hlen
  generalize kids T = l at *
  obtain ⟨⟨op, n, lo, hi'⟩, hx⟩ : ∃ x, rtN T = x := ⟨_, rfl⟩
  rw [hx] at htc ⊢
  clear hx hz
  obtain ⟨pe, ce, rfl⟩ := own_slice hd.row
  have hfar := hd.far
  have hsz := hd.sz
  have t0 := fun g : Grown W => (htc.grow (hd.bel.trans (g.h.mono hd.bel.size))).c0
  have t1 := fun g : Grown W => (htc.grow (hd.bel.trans (g.h.mono hd.bel.size))).c1
  have t2 := fun g : Grown W => (htc.grow (hd.bel.trans (g.h.mono hd.bel.size))).c2
  have t3 := fun g : Grown W => (htc.grow (hd.bel.trans (g.h.mono hd.bel.size))).c3
  have eb0 := fun g : Grown W => (hd.grow g.h).be.cell
  dsimp only at t0 t1 t2 t3
  have hult : ∀ b, (Value.slice pe E.length ce).ownBlock = some b → b < W.heap.size := fun b h => (hd.row.lt b h).2
  have HD := Lib.hid hd
  have HTC := Lib.hid htc
  have HKS := Lib.hid hks
  have HIH := Lib.hid IH
  have HLN := Lib.hid hlen
  have hle : E.length + 1 ≤ 100000 := by omega
  clear hd htc hks IH hlen
  go_enter Tryz.func73, Tryz.ntmps73
  go_wp2_with (fail)
  refine region_pred_a (lk [(6, fun z_ _ => z_ = .slice pe E.length ce), (7, fun z_ _ => z_ = .pointer (some ⟨bt, 0, none⟩)), (8, fun z_ _ => z_ = .pointer (some ⟨bt, 0, none⟩)), (9, fun z_ _ => z_ = .pointer (some ⟨bt, 0, none⟩)), (10, fun z_ _ => z_ = .agg #[.int .i64 op, .int .i64 n, .int .i64 lo, .int .i64 (hi')]), (11, fun z_ w' => ∃ X_, z_ = .slice (some ⟨X_, 0, none⟩) 1 1 ∧ W.heap.size ≤ X_ ∧ w'.heap[X_]? = some (.cells #[.int .i64 op, .int .i64 n, .int .i64 lo, .int .i64 (hi')] 63 (0, 0))), (12, fun _ _ => True)]) 7 _ rfl (by kernel_rfl) (by kernel_rfl) (by kernel_rfl) ((Value.slice pe E.length ce).ownBlock) (fun g v w' => w'.ownsRow B 63 4 v (E.length + 1) (cr encN E ++ encN ⟨op, n, lo, hi'⟩) ∧ (v.ownBlock = (Value.slice pe E.length ce).ownBlock ∨ v.ownBlock = some g.heap.size)) 6 _ 12 [7] rfl rfl rfl (by kernel_rfl) (lk_steadyR _ _ ⟨steadyR_eq _ _, steadyR_eq _ _, steadyR_eq _ _, steadyR_eq _ _, steadyR_eq _ _, steadyR_blk (hult), fun _ _ _ _ _ => trivial, trivial⟩) ?_ ?_ ?_
  · refine ⟨?_, ?_, ?_, ?_, ?_, ?_, ?_, ?_, trivial⟩
    · intro _ _
      rw [if_neg (by decide)]
      refine ob_plain [1] rfl rfl fun aa g h => ?_
      have yy0 := seen_out (v := .pointer (some ⟨eb, 0, none⟩)) rfl rfl h.1
      have ee0 := getD_of yy0
      exact tupon_value (v := .slice pe E.length ce) (by simp [go_sem, ee0, yy0, eb0 g]) (Below.refl _ _) rfl
    · intro _ _
      rw [if_neg (by decide)]
      refine ob_plain [0] rfl rfl fun aa g h => ?_
      have yy0 := seen_out (v := .pointer (some ⟨bt, 0, none⟩)) rfl rfl h.1
      have ee0 := getD_of yy0
      exact tupon_value (v := .pointer (some ⟨bt, 0, none⟩)) (by simp [go_sem, ee0, yy0]) (Below.refl _ _) rfl
    · intro _ _
      rw [if_neg (by decide)]
      refine ob_plain [7] rfl rfl fun aa g h => ?_
      obtain ⟨_, yy0, rfl⟩ := seen_in rfl h.1
      have ee0 := getD_of yy0
      exact tupon_value (v := .pointer (some ⟨bt, 0, none⟩)) (by simp [go_sem, ee0, yy0]) (Below.refl _ _) rfl
    · intro _ _
      rw [if_neg (by decide)]
      refine ob_plain [8] rfl rfl fun aa g h => ?_
      obtain ⟨_, yy0, rfl⟩ := seen_in rfl h.1
      have ee0 := getD_of yy0
      exact tupon_value (v := .pointer (some ⟨bt, 0, none⟩)) (by simp [go_sem, ee0, yy0]) (Below.refl _ _) rfl
    · intro _ _
      rw [if_neg (by decide)]
      refine ob_plain [9] rfl rfl fun aa g h => ?_
      obtain ⟨_, yy0, rfl⟩ := seen_in rfl h.1
      have ee0 := getD_of yy0
      exact tupon_value (v := .agg #[.int .i64 op, .int .i64 n, .int .i64 lo, .int .i64 (hi')]) (by simp [go_sem, ee0, yy0, t0 g, t1 g, t2 g, t3 g]) (Below.refl _ _) rfl
    · intro _ _
      rw [if_neg (by decide)]
      refine ob_plain [10] rfl rfl fun aa g h => ?_
      obtain ⟨_, yy0, rfl⟩ := seen_in rfl h.1
      have ee0 := getD_of yy0
      exact tupon_value (v := .slice (some ⟨g.w.heap.size, 0, none⟩) 1 1) (w1 := g.w.alloc (.cells #[.int .i64 op, .int .i64 n, .int .i64 lo, .int .i64 (hi')] 63)) (by simp [go_sem, ee0, yy0]) ((Below.refl _ _).alloc (Nat.le_refl _) _) ⟨_, rfl, g.h.size, World.alloc_heap_new _ _⟩
    · exact fun _ h => absurd rfl h
    · exact fun h => absurd rfl h
  · intro aa g h
    rw [looks_none _ rfl] at h
    change seenAll _ _ _ _ _ [6, 11] at h
    obtain ⟨_, yy0, rfl⟩ := seen_in rfl h.1
    have ee0 := getD_of yy0
    obtain ⟨_, yy1, ⟨X11, rfl, hX11, hI11⟩⟩ := seen_in rfl h.2.1
    have ee1 := getD_of yy1
    exact app_b (B) (.tmp 6) (.tmp 11) 23 63 i0 (.agg #[.int .i64 0, .int .i64 0, .int .i64 0, .int .i64 0]) 4 32 rfl Tryz.underlying23 hi hz0 hz1 hz2 rfl (by decide) (.slice pe E.length ce) E.length _ (by simp [go_sem, ee0, yy0]) ((HD.out.grow g.h).row) ⟨X11, 0, none⟩ 1 1 (encN ⟨op, n, lo, hi'⟩) (by simp [go_sem, ee1, yy1]) rfl (nd_at ⟨op, n, lo, hi'⟩ hI11) (one_n _) (by unfold maxLen; omega) (by omega) (Nat.le_trans hsz g.h.size) rfl (fun v9 w9 r2 r3 r4 => ⟨trivial, r3, r4⟩)
  rintro wg wa v12 wz hB hgr ⟨hR1, hR2⟩ hB2 _ rfl _ rfl _ rfl _ rfl _ rfl _ ⟨X11, rfl, hX11, hI11⟩ u12 -
  simp only [Act.put, List.setIfInBounds_toArray, List.set_cons_succ, List.set_cons_zero, List.filterMap_nil, finP]
  intro hv9
  obtain rfl : u12 = v12 := Option.some.inj hv9
  clear hv9
  obtain ⟨p6, c6, rfl⟩ := own_slice hR1
  have hgz := grown_then hgr hB2
  have hDg := HD.out.grow hB
  have hRz := own_keptN hR1 hB2
  have e1 : (E ++ [(⟨op, n, lo, hi'⟩ : Nd)]).length = E.length + 1 := by simp
  have hown2 : wz.ownsRow B 63 4 (.slice p6 (E.length + 1) c6) (E ++ [(⟨op, n, lo, hi'⟩ : Nd)]).length (cr encN (E ++ [(⟨op, n, lo, hi'⟩ : Nd)])) := by rw [e1, cr_snoc]; exact hRz
  have hput := hDg.put hown2 hgz
  have hbe : wz.heap[eb]? = some (.cells #[.slice pe E.length ce] 23 (0, 0)) := (hgz.block eb (by have := hB.size; omega) (fun e => by have := (hDg.row.lt eb e.symm).1; omega)).trans hDg.be
  have q0 := heapN_cellj hbe (k := 0) (u := .slice pe E.length ce) rfl
  have y0 : wz.frozen? ⟨eb, 0, none⟩ = false := by simp [World.frozen?, hbe]
  refine ⟨_, by simp [go_sem, q0, y0]; rfl, ?_⟩
  have h4 := (HTC.out.grow hput.bel).c4
  have HP := Lib.hid hput
  clear hput hbe q0 y0 hgz hDg hRz hown2 hgr hR1 hR2 hB2 hB hI11 hX11 t0 t1 t2 t3 eb0 hult e1
  go_wp2_with (fail)
  go_loopw [18] (fun i wr => ∃ (r : Nat) (v1 : Value), i = .int .i64 r ∧ r ≤ l.length ∧ Hid (WrI w0 B eb fb v1 ((E ++ [(⟨op, n, lo, hi'⟩ : Nd)]) ++ (l.take r).flatMap pre) wr)) (fun i _ => l.length - (intOf i).toNat)
  case atStart => exact ⟨0, _, rfl, Nat.zero_le _, Lib.hid (by simpa using HP.out)⟩
  case round =>
    clear HP
    obtain ⟨r, v1, rfl, hr, HD1⟩ := hrel
    by_cases hlr : r < l.length
    · have i3 : (r : Int) < l.length := by omega
      obtain ⟨a, ha⟩ : ∃ a, l[r]? = some a := ⟨_, List.getElem?_eq_getElem hlr⟩
      obtain ⟨br, orr, u, rfl, hb2, rd2⟩ := HKS.out.rd grows_tm ha
      have r0 : wr.cell? ⟨br, orr + r, none⟩ = some u := (rd2 ⟨wr, HD1.out.bel⟩).2.1
      have hu0 : TmP Fz w0 u a := (rd2 ⟨w0, Below.refl _ _⟩).2.2
      obtain ⟨bu, Su, rfl, _⟩ := hu0.root
      have k0 := HD1.out.bf.cell
      have hfl : (l.take (r + 1)).flatMap pre = (l.take r).flatMap pre ++ pre a := by rw [List.take_add_one, ha]; simp
      have hll : ((l.take (r + 1)).flatMap pre).length ≤ (l.flatMap pre).length := by
        have e := List.take_append_drop (r + 1) l
        have := congrArg (fun x => (x.flatMap pre).length) e
        simp only [List.flatMap_append, List.length_append] at this
        omega
      rw [hfl, List.length_append] at hll
      have hlen3 : ((E ++ [(⟨op, n, lo, hi'⟩ : Nd)]) ++ (l.take r).flatMap pre).length + (pre a).length ≤ 100000 := by
        have := HLN.out
        simp only [List.length_append, List.length_singleton]
        omega
      have KI := Lib.hid (HIH.out a (List.mem_of_getElem? ha) _ v1 _ wr hu0 HD1.out hlen3)
      have HFL := Lib.hid hfl
      clear ha hb2 rd2 hu0 hfl hll hlen3 HD1
      go_wp2_with (fail)
      refine KI.out.mono ?_
      rintro e w9 ⟨v2, rfl, h2⟩
      have H2 := Lib.hid h2
      clear h2 KI k0 r0
      go_wp2_with (fail)
      go_roundw
      case rel => exact ⟨r + 1, v2, by go_num, by omega, Lib.hid (by rw [HFL.out, ← List.append_assoc]; exact H2.out)⟩
      case measure => simp [intOf]; omega
    · obtain rfl : r = l.length := by omega
      have i3 : ¬ (l.length : Int) < l.length := by omega
      go_wp2_with (fail)
      refine bodyPost_end (v := .tuple #[]) (by simp [results, Tryz.results73, go_sem]) rfl ⟨rfl, v1, ?_⟩
      have h := HD1.out
      rw [List.take_length, List.append_assoc] at h
      exact h
theorem write_ok (w0 : World) (B eb fb : Nat) : ∀ (T : Ex) (z v : Value) (E : List Nd) (W : World), TmP Fz w0 z T → WrI w0 B eb fb v E W → E.length + (pre T).length ≤ 100000 → Calls Tryz.prog 73 #[z, .pointer (some ⟨eb, 0, none⟩), .pointer (some ⟨fb, 0, none⟩)] W fun e w' => ∃ v', e = .returned (.tuple #[]) ∧ WrI w0 B eb fb v' (E ++ pre T) w' := by
  intro T
  induction T with
  | e0 x => exact fun z v E W hz h hl => write_step w0 B eb fb _ z hz (fun a ha => by simp [kids] at ha) v E W h hl
  | e1 x a ih => exact fun z v E W hz h hl => write_step w0 B eb fb _ z hz (fun a ha => by simp [kids] at ha; subst ha; exact ih) v E W h hl
  | e2 x a b ih1 ih2 => exact fun z v E W hz h hl => write_step w0 B eb fb _ z hz (fun a ha => by simp [kids] at ha; rcases ha with rfl | rfl; exact ih1; exact ih2) v E W h hl
set_option maxHeartbeats 8000000 in
theorem nodes_ok (T : Ex) (z : Value) (w : World) (hz : TmP Fz w z T) (hl : (pre T).length ≤ 100000) : Calls Tryz.prog 46 #[z] w fun e w' => ∃ v, e = .returned v ∧ w'.ownsRow w.heap.size 63 4 v (pre T).length (cr encN (pre T)) ∧ Below w.heap.size w w' := by
  obtain ⟨bt, St, rfl, _⟩ := hz.root
  have hE : Below w.heap.size w ((w.alloc (.cells #[.slice none 0 0] 23)).alloc (.cells #[.func (.func 73) #[] #[.pointer (some ⟨w.heap.size, 0, none⟩), .pointer (some ⟨w.heap.size + 1, 0, none⟩)]] 90)) := allocs_below [.cells #[.slice none 0 0] 23, .cells #[.func (.func 73) #[] #[.pointer (some ⟨w.heap.size, 0, none⟩), .pointer (some ⟨w.heap.size + 1, 0, none⟩)]] 90] w
  have HA := Lib.hid (show Blk ((w.alloc (.cells #[.slice none 0 0] 23)).alloc (.cells #[.func (.func 73) #[] #[.pointer (some ⟨w.heap.size, 0, none⟩), .pointer (some ⟨w.heap.size + 1, 0, none⟩)]] 90)) (w.heap.size) (.cells #[.slice none 0 0] 23) from allocs_at [.cells #[.slice none 0 0] 23, .cells #[.func (.func 73) #[] #[.pointer (some ⟨w.heap.size, 0, none⟩), .pointer (some ⟨w.heap.size + 1, 0, none⟩)]] 90] w 0 _ rfl)
  have HB := Lib.hid (show Blk ((w.alloc (.cells #[.slice none 0 0] 23)).alloc (.cells #[.func (.func 73) #[] #[.pointer (some ⟨w.heap.size, 0, none⟩), .pointer (some ⟨w.heap.size + 1, 0, none⟩)]] 90)) (w.heap.size + 1) (.cells #[.func (.func 73) #[] #[.pointer (some ⟨w.heap.size, 0, none⟩), .pointer (some ⟨w.heap.size + 1, 0, none⟩)]] 90) from allocs_at [.cells #[.slice none 0 0] 23, .cells #[.func (.func 73) #[] #[.pointer (some ⟨w.heap.size, 0, none⟩), .pointer (some ⟨w.heap.size + 1, 0, none⟩)]] 90] w 1 _ rfl)
  have hW : WrI w (w.heap.size + 1 + 1) w.heap.size (w.heap.size + 1) (.slice none 0 0) [] ((w.alloc (.cells #[.slice none 0 0] 23)).alloc (.cells #[.func (.func 73) #[] #[.pointer (some ⟨w.heap.size, 0, none⟩), .pointer (some ⟨w.heap.size + 1, 0, none⟩)]] 90)) := by
    refine ⟨⟨Nat.le_refl _, by omega, by omega, by omega⟩, hE, by rw [alloc_sz, alloc_sz]; exact Nat.le_refl _, HA.out, HB.out, World.ownsRow_nil _ _ _ _⟩
  have KW := Lib.hid (write_ok w (w.heap.size + 1 + 1) w.heap.size (w.heap.size + 1) T _ _ [] _ hz hW (by simpa using hl))
  clear hE hW hz HA HB
  go_enter Tryz.func46, Tryz.ntmps46
  go_wp2_with (fail)
  refine KW.out.mono ?_
  rintro e w3 ⟨v', rfl, h3⟩
  obtain ⟨p3, c3, rfl⟩ := own_slice h3.row
  have x0 := h3.be.cell
  have H3 := Lib.hid h3
  clear h3 KW
  go_wp2_with (fail)
  go_ret
  have h := H3.out
  rw [List.nil_append] at h
  exact ⟨_, rfl, own_base h.row (by omega), h.bel⟩
end Go.Proofs.YtbppfohcicepcaaGreat
