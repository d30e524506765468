/-
  Package tape: the closure of Compile.
  Package ode: names; Valid of a valid system.
  Package ode: Valid of a valid system.
  Package tape: the list's tape; Compile.
  Package tape: Compile.
-/
import Derived.Test.YtajddejeglhbhaaU2
import Derived.Test.YtajddejeglhbhaaPredIn
import Derived.Test.YtajddejeglhbhaaPredL
import Derived.Laws.EntriesVeiled
namespace Go.Proofs.Ytajddejeglhbhaa
open Go.ChangeShapes Go.WideShapes Go.ChangeAt Go.RowKit Go.Maps
set_option linter.unusedVariables false
set_option linter.unusedSimpArgs false
set_option maxRecDepth 100000
attribute [local irreducible] Calls
section
variable {P : Program}
theorem tupon_enter {w w1 : World} {K : Value → World → Prop} {r : Result Next} {f : FuncId} {args : Array Value} (hr : r = .ok (.enter f args) w1) (hw : w1 = w) (h : Calls P f args w fun e w'' => ∃ v, e = .returned v ∧ Below w.heap.size w w'' ∧ K v w'') : uponP P w K r := by
  subst hr
  exact ⟨hw, h⟩
theorem tupon_value {w w1 : World} {K : Value → World → Prop} {r : Result Next} {v : Value} (hr : r = .ok (.value v) w1) (hB : Below w.heap.size w w1) (h : K v w1) : uponP P w K r := by
  subst hr
  exact ⟨hB, h⟩
end
/-- What the closure finds: the list, the variable that holds the closure, the variable that holds the list. -/
structure CmI (B bl bm eb lb : Nat) (u : Value) (L : List Is) (W : World) : Prop where
  ls : LsI B bl bm u L W
  be : Boxed W eb 76 (.func (.func 41) #[] #[.pointer (some ⟨eb, 0, none⟩), .pointer (some ⟨lb, 0, none⟩)])
  bb : Boxed W lb 74 (.pointer (some ⟨bl, 0, none⟩))
section
variable {B bl bm eb lb : Nat} {u u' : Value} {L : List Is} {W W' : World}
theorem CmI.grow (h : CmI B bl bm eb lb u L W) (hB : Below W.heap.size W W') : CmI B bl bm eb lb u L W' := ⟨h.ls.grow hB, h.be.kept (grown_belowN hB) (by simp), h.bb.kept (grown_belowN hB) (by simp)⟩
theorem own_ne {X : Nat} (h : ∀ g, u.ownBlock = some g → g ≠ X) : u.ownBlock = none ∨ u.ownBlock ≠ some X := .inr fun e => h X e rfl
theorem LsI.set (h : LsI B bl bm u L W) {X : Nat} (o : Nat) (v : Value) (h1 : X ≠ bl) (h2 : X ≠ bm) (h3 : ∀ g, u.ownBlock = some g → g ≠ X) : LsI B bl bm u L (W.setCell ⟨X, o, none⟩ v) := by
  obtain ⟨D, m1, m2⟩ := h.map
  have hg := grownBy_setN W ⟨X, o, none⟩ v
  exact ⟨h.far, (hg.block bl h.lt (fun e => h1 (Option.some.inj e).symm)).trans h.blk, h.row.kept hg (own_ne h3), D, m1.setCell (a := ⟨X, o, none⟩) (fun e => h2 e.symm) v, m2⟩
theorem boxed_ne {k : Nat} {t : TypeId} {v : Value} {X : Nat} {cs : Array Value} {z : Nat × Nat} (hb : Boxed W k t v) (hX : W.heap[X]? = some (.cells cs 59 z)) (ht : t ≠ 59) : X ≠ k := by
  rintro rfl
  unfold Boxed at hb
  rw [hX] at hb
  simp only [Option.some.injEq, Obj.cells.injEq] at hb
  exact ht hb.2.1.symm
theorem CmI.set (h : CmI B bl bm eb lb u L W) {X : Nat} {cs : Array Value} {z : Nat × Nat} (hX : W.heap[X]? = some (.cells cs 59 z)) (o : Nat) (v : Value) (h1 : X ≠ bl) (h2 : X ≠ bm) (h3 : ∀ g, u.ownBlock = some g → g ≠ X) : CmI B bl bm eb lb u L (W.setCell ⟨X, o, none⟩ v) :=
  have hg := grownBy_setN W ⟨X, o, none⟩ v
  ⟨h.ls.set o v h1 h2 h3, h.be.kept hg (fun e => boxed_ne h.be hX (by decide) (Option.some.inj e).symm), h.bb.kept hg (fun e => boxed_ne h.bb hX (by decide) (Option.some.inj e).symm)⟩
theorem nxo_set {v : Value} {l : List Nd} (hv : NxO W v l) {X : Nat} {cs : Array Value} {z : Nat × Nat} (hX : W.heap[X]? = some (.cells cs 59 z)) (o : Nat) (y : Value) : NxO (W.setCell ⟨X, o, none⟩ y) v l := by
  obtain ⟨⟨⟨h1, p, c, rfl, h2⟩, h3⟩, h4⟩ := hv
  have hg := grownBy_setN W ⟨X, o, none⟩ y
  have hb : ∀ a : Addr, p = some a → (W.setCell ⟨X, o, none⟩ y).heap[a.block]? = W.heap[a.block]? := fun a e => by
    obtain ⟨cur, hc⟩ := h4 a _ _ (by rw [e])
    refine hg.block _ (Array.getElem?_eq_some_iff.1 hc).1 (fun e2 => ?_)
    rw [Option.some.inj e2, hX] at hc
    simp only [Option.some.injEq, Obj.cells.injEq] at hc
    exact absurd hc.2.1 (by decide)
  refine ⟨⟨⟨h1, p, c, rfl, fun i x hx => ?_⟩, h3⟩, fun a n c' e => ?_⟩
  · obtain ⟨b, o', e, h5, h6⟩ := h2 i x hx
    have hbb := hb _ e
    exact ⟨b, o', e, Nat.lt_of_lt_of_le h5 hg.size, fun j v hv => (World.cell?_of_block (a := ⟨b, o' + i * 4 + j, none⟩) hbb).trans (h6 j v hv)⟩
  · obtain ⟨cur, hc⟩ := h4 a n c' e
    simp only [Value.slice.injEq] at e
    exact ⟨cur, (hb a e.1).trans hc⟩
theorem ownl_set {B' : Nat} {v : Value} {l : List (List Nd)} {us : List Value} (hv : OwnL B' W v l us) {X : Nat} {cs : Array Value} {z : Nat × Nat} (hX : W.heap[X]? = some (.cells cs 59 z)) (o : Nat) (y : Value) : OwnL B' (W.setCell ⟨X, o, none⟩ y) v l us := by
  refine ⟨hv.row.kept (grownBy_setN W ⟨X, o, none⟩ y) (own_ne fun g hg e => ?_), fun k w x h1 h2 => nxo_set (hv.el k w x h1 h2) hX o y⟩
  rcases id hv.row.2 with ⟨e1, _⟩ | ⟨g', cap, cur, e1, _, hh, _⟩
  · rw [e1] at hg; simp [Value.ownBlock] at hg
  · rw [e1] at hg
    simp only [Value.ownBlock, Option.some.injEq] at hg
    rw [hg, e, hX] at hh
    simp only [Option.some.injEq, Obj.cells.injEq] at hh
    exact absurd hh.2.1 (by decide)
theorem Ext.newset (h : Ext bl bm u u' W W') {X : Nat} (hX : W.heap.size ≤ X) (o : Nat) (v : Value) : Ext bl bm u u' W (W'.setCell ⟨X, o, none⟩ v) :=
  have hg := grownBy_setN W' ⟨X, o, none⟩ v
  ⟨hg.os.trans h.os, hg.tape.trans h.tape, hg.output.trans h.output, Nat.le_trans h.size hg.size, fun k hk h1 h2 h3 => (hg.block k (Nat.lt_of_lt_of_le hk h.size) (fun e => by have := Option.some.inj e; dsimp only at this; omega)).trans (h.blk k hk h1 h2 h3), h.own⟩
theorem IsC.set {X : Nat} {x : Is} (h : IsC W X x) (k : Int) : IsC (W.setCell ⟨X, 1, none⟩ (.int .i64 k)) X ⟨x.op, k, x.b, x.lo, x.hi⟩ ∧ IsC (W.setCell ⟨X, 2, none⟩ (.int .i64 k)) X ⟨x.op, x.a, k, x.lo, x.hi⟩ := ⟨cellsT_setN (o := 1) (u := .int .i64 k) h, cellsT_setN (o := 2) (u := .int .i64 k) h⟩
theorem ownl_at {B' : Nat} {v : Value} {l : List (List Nd)} {us : List Value} (hv : OwnL B' W v l us) (hl : 0 < l.length) : ∃ g c, v = .slice (some ⟨g, 0, none⟩) l.length c ∧ ∀ k x, l[k]? = some x → ∃ p c', W.cell? ⟨g, k, none⟩ = some (.slice p x.length c') ∧ NxO W (.slice p x.length c') x := by
  have hlen := hv.row.1
  rcases id hv.row.2 with ⟨_, h0⟩ | ⟨g, cap, cur, rfl, _⟩
  · omega
  · refine ⟨g, cap, rfl, fun k x hx => ?_⟩
    have hk := (List.getElem?_eq_some_iff.1 hx).1
    have hc := hv.row.cellAt k (by omega)
    have hku : k < us.length := by omega
    rw [List.getElem?_eq_getElem hku] at hc
    have he := hv.el k _ x (List.getElem?_eq_getElem hku) hx
    obtain ⟨p, c', e, _⟩ := he.1.2
    rw [e] at hc he
    exact ⟨p, c', hc, he⟩
theorem ownl_cell {B' g n c : Nat} {l : List (List Nd)} {us : List Value} (hv : OwnL B' W (.slice (some ⟨g, 0, none⟩) n c) l us) {k : Nat} {x : List Nd} (hx : l[k]? = some x) : ∃ p c', W.cell? ⟨g, k, none⟩ = some (.slice p x.length c') ∧ NxO W (.slice p x.length c') x := by
  obtain ⟨g', c1, e, h⟩ := ownl_at hv (by have := (List.getElem?_eq_some_iff.1 hx).1; omega)
  simp only [Value.slice.injEq, Option.some.injEq, Addr.mk.injEq, true_and, and_true] at e
  obtain ⟨rfl, _⟩ := e
  exact h k x hx
end
set_option maxHeartbeats 16000000 in
theorem emit_e0 (B bl bm eb lb : Nat) (x : Nd) (har : Ar (.e0 x)) (hnw : ∀ y ∈ pre (.e0 x), NW y) (hsz : (pre (.e0 x)).length ≤ 100000) (u : Value) (L : List Is) (W : World) (v : Value) (hc : CmI B bl bm eb lb u L W) (hv : NxO W v (pre (.e0 x))) (hL : L.length + (pre (.e0 x)).length ≤ 1000000) :
    Calls Try.prog 41 #[v, .pointer (some ⟨eb, 0, none⟩), .pointer (some ⟨lb, 0, none⟩)] W fun e w' => ∃ u', e = .returned (.int .i64 (emitT (.e0 x) L).2) ∧ CmI B bl bm eb lb u' (emitT (.e0 x) L).1 w' ∧ Ext bl bm u u' W w' := by
  obtain ⟨op, n, lo, hi⟩ := x
  unfold emitT
  dsimp only
  have hnd := hnw ⟨op, n, lo, hi⟩ (by simp [pre])
  have hop := ops0 har
  have KO := Lib.hid (fun (v : Value) w h => operands_ok v (pre (.e0 ⟨op, n, lo, hi⟩)) w h (by omega))
  rw [hop] at KO
  have hls := hc.ls
  have hbl := hls.lt
  have hbm := hls.mlt
  have hrw : ∀ g, u.ownBlock = some g → g < W.heap.size := fun g e => (hls.off e).2.2.2.1
  obtain ⟨⟨hx0, p, c, rfl, hx2⟩, hx3⟩ := id hv.1
  obtain ⟨b', o', rfl, hbs, rd⟩ := nd_rd (i := 0) hv.1.1 (show (pre (.e0 ⟨op, n, lo, hi⟩))[0]? = some ⟨op, n, lo, hi⟩ from rfl)
  have rdg := fun g : Grown W => rd g
  simp only [Nat.zero_mul, Nat.add_zero] at rdg
  have f0 := fun g => (rdg g).1
  have f1 := fun g => (rdg g).2.1
  have f2 := fun g => (rdg g).2.2.1
  have f3 := fun g => (rdg g).2.2.2
  have hpl := pre_pos (.e0 ⟨op, n, lo, hi⟩)
  obtain ⟨N, hN⟩ : ∃ N, (pre (.e0 ⟨op, n, lo, hi⟩)).length = N := ⟨_, rfl⟩
  have HV := Lib.hid hv
  have HCM := Lib.hid hc
  rw [hN] at hpl
  have i1 : (0 : Int) < (N : Int) := by omega
  have hN0 : N ≠ 0 := by omega
  have HND := Lib.hid hnd
  have HRW := Lib.hid hrw
  rw [hN]
  clear hx0 hx2 hx3 rd rdg hnd hls hc hv hnw har hop hrw
  go_enter Try.func41, Try.ntmps41
  go_wp2_with (fail)
  refine region_pred_n 14 (lk [(7, fun z_ _ => z_ = .slice (some ⟨b', o', none⟩) N c), (8, fun z_ _ => z_ = .pointer (some ⟨b', o', none⟩)), (9, fun z_ _ => z_ = .pointer (some ⟨b', o', none⟩)), (10, fun z_ _ => z_ = .int .i64 op), (11, fun z_ _ => z_ = .slice (some ⟨b', o', none⟩) N c), (12, fun z_ _ => z_ = .pointer (some ⟨b', o', none⟩)), (13, fun z_ _ => z_ = .pointer (some ⟨b', o' + 1, none⟩)), (14, fun z_ _ => z_ = .int .i64 n), (15, fun z_ _ => z_ = .slice (some ⟨b', o', none⟩) N c), (16, fun z_ _ => z_ = .pointer (some ⟨b', o', none⟩)), (17, fun z_ _ => z_ = .pointer (some ⟨b', o' + 2, none⟩)), (18, fun z_ _ => z_ = .agg #[.int .i64 lo, .int .i64 hi]), (19, fun z_ _ => z_ = .agg #[.int .i64 op, .int .i64 n, .int .i64 0, .int .i64 lo, .int .i64 hi]), (5, fun z_ w' => ∃ X_, z_ = .pointer (some ⟨X_, 0, none⟩) ∧ W.heap.size ≤ X_ ∧ IsC w' X_ ⟨0, 0, 0, 0, 0⟩)]) (by kernel_rfl) (by kernel_rfl) (lk_steady _ ⟨steady_eq _, steady_eq _, steady_eq _, steady_eq _, steady_eq _, steady_eq _, steady_eq _, steady_eq _, steady_eq _, steady_eq _, steady_eq _, steady_eq _, steady_eq _, fun u w1 w2 hb ⟨X, h1, h2, h3⟩ => ⟨X, h1, h2, h3.grow hb⟩, trivial⟩) ?_ ?_
  · refine ⟨?_, ?_, ?_, ?_, ?_, ?_, ?_, ?_, ?_, ?_, ?_, ?_, ?_, ?_, trivial⟩
    · refine ob_plain [0] rfl rfl fun aa g h => ?_
      have yy0 := seen_out (v := .slice (some ⟨b', o', none⟩) N c) rfl rfl h.1
      have ee0 := getD_of yy0
      exact tupon_value (v := .slice (some ⟨b', o', none⟩) N c) (by simp [go_sem, ee0, yy0]) (Below.refl _ _) rfl
    · refine ob_plain [7] rfl rfl fun aa g h => ?_
      obtain ⟨_, yy0, rfl⟩ := seen_in rfl h.1
      have ee0 := getD_of yy0
      exact tupon_value (v := .pointer (some ⟨b', o', none⟩)) (by simp [go_sem, ee0, yy0, hN0]) (Below.refl _ _) rfl
    · refine ob_plain [8] rfl rfl fun aa g h => ?_
      obtain ⟨_, yy0, rfl⟩ := seen_in rfl h.1
      have ee0 := getD_of yy0
      exact tupon_value (v := .pointer (some ⟨b', o', none⟩)) (by simp [go_sem, ee0, yy0]) (Below.refl _ _) rfl
    · refine ob_plain [9] rfl rfl fun aa g h => ?_
      obtain ⟨_, yy0, rfl⟩ := seen_in rfl h.1
      have ee0 := getD_of yy0
      exact tupon_value (v := .int .i64 op) (by simp [go_sem, ee0, yy0, f0 g]) (Below.refl _ _) rfl
    · refine ob_plain [0] rfl rfl fun aa g h => ?_
      have yy0 := seen_out (v := .slice (some ⟨b', o', none⟩) N c) rfl rfl h.1
      have ee0 := getD_of yy0
      exact tupon_value (v := .slice (some ⟨b', o', none⟩) N c) (by simp [go_sem, ee0, yy0]) (Below.refl _ _) rfl
    · refine ob_plain [11] rfl rfl fun aa g h => ?_
      obtain ⟨_, yy0, rfl⟩ := seen_in rfl h.1
      have ee0 := getD_of yy0
      exact tupon_value (v := .pointer (some ⟨b', o', none⟩)) (by simp [go_sem, ee0, yy0, hN0]) (Below.refl _ _) rfl
    · refine ob_plain [12] rfl rfl fun aa g h => ?_
      obtain ⟨_, yy0, rfl⟩ := seen_in rfl h.1
      have ee0 := getD_of yy0
      exact tupon_value (v := .pointer (some ⟨b', o' + 1, none⟩)) (by simp [go_sem, ee0, yy0]) (Below.refl _ _) rfl
    · refine ob_plain [13] rfl rfl fun aa g h => ?_
      obtain ⟨_, yy0, rfl⟩ := seen_in rfl h.1
      have ee0 := getD_of yy0
      exact tupon_value (v := .int .i64 n) (by simp [go_sem, ee0, yy0, f1 g]) (Below.refl _ _) rfl
    · refine ob_plain [0] rfl rfl fun aa g h => ?_
      have yy0 := seen_out (v := .slice (some ⟨b', o', none⟩) N c) rfl rfl h.1
      have ee0 := getD_of yy0
      exact tupon_value (v := .slice (some ⟨b', o', none⟩) N c) (by simp [go_sem, ee0, yy0]) (Below.refl _ _) rfl
    · refine ob_plain [15] rfl rfl fun aa g h => ?_
      obtain ⟨_, yy0, rfl⟩ := seen_in rfl h.1
      have ee0 := getD_of yy0
      exact tupon_value (v := .pointer (some ⟨b', o', none⟩)) (by simp [go_sem, ee0, yy0, hN0]) (Below.refl _ _) rfl
    · refine ob_plain [16] rfl rfl fun aa g h => ?_
      obtain ⟨_, yy0, rfl⟩ := seen_in rfl h.1
      have ee0 := getD_of yy0
      exact tupon_value (v := .pointer (some ⟨b', o' + 2, none⟩)) (by simp [go_sem, ee0, yy0]) (Below.refl _ _) rfl
    · refine ob_plain [17] rfl rfl fun aa g h => ?_
      obtain ⟨_, yy0, rfl⟩ := seen_in rfl h.1
      have ee0 := getD_of yy0
      exact tupon_value (v := .agg #[.int .i64 lo, .int .i64 hi]) (by simp [go_sem, ee0, yy0, f2 g, f3 g]) (Below.refl _ _) rfl
    · refine ob_plain [10, 14, 18] rfl rfl fun aa g h => ?_
      obtain ⟨_, yy0, rfl⟩ := seen_in rfl h.1
      have ee0 := getD_of yy0
      obtain ⟨_, yy1, rfl⟩ := seen_in rfl h.2.1
      have ee1 := getD_of yy1
      obtain ⟨_, yy2, rfl⟩ := seen_in rfl h.2.2.1
      have ee2 := getD_of yy2
      exact tupon_value (v := .agg #[.int .i64 op, .int .i64 n, .int .i64 0, .int .i64 lo, .int .i64 hi]) (by simp [go_sem, ee0, yy0, ee1, yy1, ee2, yy2]) (Below.refl _ _) rfl
    · refine ob_plain [] rfl rfl fun aa g h => ?_
      exact tupon_value (v := .pointer (some ⟨g.w.heap.size, 0, none⟩)) (w1 := g.w.alloc (.cells #[.int .i64 0, .int .i64 0, .int .i64 0, .int .i64 0, .int .i64 0] 59)) (by simp [go_sem]) ((Below.refl _ _).alloc (Nat.le_refl _) _) ⟨_, rfl, g.h.size, IsC.new g.w ⟨0, 0, 0, 0, 0⟩⟩
  rintro w5 hB5 _ rfl _ rfl _ rfl _ rfl _ rfl _ rfl _ rfl _ rfl _ rfl _ rfl _ rfl _ rfl _ rfl _ ⟨X, rfl, hX, icX⟩
  simp only [Act.put, List.setIfInBounds_toArray, List.set_cons_succ, List.set_cons_zero, finP, List.drop_succ_cons, List.drop_zero, List.take_zero, List.filterMap_nil]
  have z0 := icX.c0
  have z1 := icX.c1
  have z2 := icX.c2
  have z3 := icX.c3
  have z4 := icX.c4
  have y0 := icX.frozen 0
  have y1 := icX.frozen 1
  have y2 := icX.frozen 2
  have y3 := icX.frozen 3
  have y4 := icX.frozen 4
  dsimp only at z0 z1 z2 z3 z4
  have hn1 : X ≠ bl := by omega
  have hn2 : X ≠ bm := by omega
  have hn3 : ∀ g, u.ownBlock = some g → g ≠ X := fun g e => by have := HRW.out g e; omega
  obtain ⟨W1, hW1⟩ : ∃ W', (((((w5.setCell ⟨X, 0, none⟩ (.int .i64 op)).setCell ⟨X, 1, none⟩ (.int .i64 n)).setCell ⟨X, 2, none⟩ (.int .i64 0)).setCell ⟨X, 3, none⟩ (.int .i64 lo)).setCell ⟨X, 4, none⟩ (.int .i64 hi)) = W' := ⟨_, rfl⟩
  have I1 : IsC W1 X ⟨op, n, 0, lo, hi⟩ := by
    rw [← hW1]
    exact cellsT_setN (o := 4) (u := .int .i64 hi) (cellsT_setN (o := 3) (u := .int .i64 lo) (cellsT_setN (o := 2) (u := .int .i64 0) (cellsT_setN (o := 1) (u := .int .i64 n) (cellsT_setN (o := 0) (u := .int .i64 op) icX))))
  have hB1 : Below W.heap.size W W1 := by
    rw [← hW1]
    exact ((((hB5.setCell (p := ⟨X, 0, none⟩) hX _).setCell (p := ⟨X, 1, none⟩) hX _).setCell (p := ⟨X, 2, none⟩) hX _).setCell (p := ⟨X, 3, none⟩) hX _).setCell (p := ⟨X, 4, none⟩) hX _
  have I1H := Lib.hid I1
  have HB1 := Lib.hid hB1
  clear I1 hB1 hB5 icX f0 f1 f2 f3
  go_wp2_with (fail)
  try rw [hW1]
  clear hW1 z0 z1 z2 z3 z4 y0 y1 y2 y3 y4
  rw [hN] at HV
  refine (KO.out _ _ (HV.out.grow HB1.out).1).mono ?_
  rintro e w2 ⟨r, rfl, ⟨us, hol⟩, hB2⟩
  have hBw2 := below_then HB1.out hB2
  have C2 := Lib.hid (HCM.out.grow hBw2)
  have I2 := Lib.hid (I1H.out.grow hB2)
  have E2 := Lib.hid (Ext.of (bl := bl) (bm := bm) (u := u) hBw2)
  have O2 := Lib.hid hol
  clear hB2 hBw2 hol KO HV HCM I1H HB1
  have hr0 : ∃ p c, r = .slice p 0 c := by
    rcases id O2.out.row.2 with ⟨e1, _⟩ | ⟨g, cap, cur, e1, _⟩
    · exact ⟨none, 0, e1⟩
    · exact ⟨_, cap, e1⟩
  obtain ⟨pr, cr', rfl⟩ := hr0
  have KI := Lib.hid (fun h => index_ok B bl bm u L ⟨op, n, 0, lo, hi⟩ w2 h (by
    obtain ⟨h1, h2, h3, h4⟩ := HND.out
    exact ⟨h1, by first | exact h2 | (unfold W64; dsimp only; omega), by unfold W64; dsimp only; omega, h3, h4⟩) (by omega))
  have c0 := C2.out.bb.cell
  have q0 := I2.out.c0
  have q1 := I2.out.c1
  have q2 := I2.out.c2
  have q3 := I2.out.c3
  have q4 := I2.out.c4
  unfold valI' at KI
  dsimp only at q0 q1 q2 q3 q4 KI
  go_wp2_with (fail)
  refine (KI.out C2.out.ls).mono ?_
  rintro e w9 ⟨u9, rfl, h9, e9⟩
  have C9 : CmI B bl bm eb lb u9 (emitI L ⟨op, n, 0, lo, hi⟩) w9 := ⟨h9, boxed_ext C2.out.be e9 C2.out.ls (by decide) (by decide), boxed_ext C2.out.bb e9 C2.out.ls (by decide) (by decide)⟩
  have H9 := Lib.hid C9
  have E9 := Lib.hid (E2.out.trans e9)
  clear h9 e9 C9 KI c0 q0 q1 q2 q3 q4
  go_wp2_with (fail)
  go_ret
  exact ⟨u9, rfl, H9.out, E9.out⟩
set_option maxHeartbeats 32000000 in
theorem emit_e1 (B bl bm eb lb : Nat) (x : Nd) (a : Ex) (har : Ar (.e1 x a)) (hnw : ∀ y ∈ pre (.e1 x a), NW y) (hsz : (pre (.e1 x a)).length ≤ 100000) (iha : ∀ (u : Value) (L : List Is) (W : World) (v : Value), CmI B bl bm eb lb u L W → NxO W v (pre a) → L.length + (pre a).length ≤ 1000000 → Calls Try.prog 41 #[v, .pointer (some ⟨eb, 0, none⟩), .pointer (some ⟨lb, 0, none⟩)] W fun e w' => ∃ u', e = .returned (.int .i64 (emitT a L).2) ∧ CmI B bl bm eb lb u' (emitT a L).1 w' ∧ Ext bl bm u u' W w') (u : Value) (L : List Is) (W : World) (v : Value) (hc : CmI B bl bm eb lb u L W) (hv : NxO W v (pre (.e1 x a))) (hL : L.length + (pre (.e1 x a)).length ≤ 1000000) :
    Calls Try.prog 41 #[v, .pointer (some ⟨eb, 0, none⟩), .pointer (some ⟨lb, 0, none⟩)] W fun e w' => ∃ u', e = .returned (.int .i64 (emitT (.e1 x a) L).2) ∧ CmI B bl bm eb lb u' (emitT (.e1 x a) L).1 w' ∧ Ext bl bm u u' W w' := by
  obtain ⟨op, n, lo, hi⟩ := x
  unfold emitT
  dsimp only
  obtain ⟨⟨La, ka⟩, hA⟩ : ∃ R, emitT a L = R := ⟨_, rfl⟩
  have lena := emitT_len a L
  have KA := Lib.hid (fun W v h1 h2 => iha u L W v h1 h2 (by have e : (pre (.e1 ⟨op, n, lo, hi⟩ a)).length = (pre a).length + 1 := (by simp [pre]); omega))
  rw [hA] at KA lena ⊢
  dsimp only at KA lena ⊢
  have hpe : (pre (.e1 ⟨op, n, lo, hi⟩ a)).length = (pre a).length + 1 := by simp [pre]
  have hnd := hnw ⟨op, n, lo, hi⟩ (by simp [pre])
  have hop := ops1 har
  have KO := Lib.hid (fun (v : Value) w h => operands_ok v (pre (.e1 ⟨op, n, lo, hi⟩ a)) w h (by omega))
  rw [hop] at KO
  have hls := hc.ls
  have hbl := hls.lt
  have hbm := hls.mlt
  have hrw : ∀ g, u.ownBlock = some g → g < W.heap.size := fun g e => (hls.off e).2.2.2.1
  obtain ⟨⟨hx0, p, c, rfl, hx2⟩, hx3⟩ := id hv.1
  obtain ⟨b', o', rfl, hbs, rd⟩ := nd_rd (i := 0) hv.1.1 (show (pre (.e1 ⟨op, n, lo, hi⟩ a))[0]? = some ⟨op, n, lo, hi⟩ from rfl)
  have rdg := fun g : Grown W => rd g
  simp only [Nat.zero_mul, Nat.add_zero] at rdg
  have f0 := fun g => (rdg g).1
  have f1 := fun g => (rdg g).2.1
  have f2 := fun g => (rdg g).2.2.1
  have f3 := fun g => (rdg g).2.2.2
  have hpl := pre_pos (.e1 ⟨op, n, lo, hi⟩ a)
  obtain ⟨N, hN⟩ : ∃ N, (pre (.e1 ⟨op, n, lo, hi⟩ a)).length = N := ⟨_, rfl⟩
  have HV := Lib.hid hv
  have HCM := Lib.hid hc
  rw [hN] at hpl
  have i1 : (0 : Int) < (N : Int) := by omega
  have hN0 : N ≠ 0 := by omega
  have HND := Lib.hid hnd
  have HRW := Lib.hid hrw
  rw [hN]
  clear hx0 hx2 hx3 rd rdg hnd hls hc hv hnw har hop hrw
  go_enter Try.func41, Try.ntmps41
  go_wp2_with (fail)
  refine region_pred_n 14 (lk [(7, fun z_ _ => z_ = .slice (some ⟨b', o', none⟩) N c), (8, fun z_ _ => z_ = .pointer (some ⟨b', o', none⟩)), (9, fun z_ _ => z_ = .pointer (some ⟨b', o', none⟩)), (10, fun z_ _ => z_ = .int .i64 op), (11, fun z_ _ => z_ = .slice (some ⟨b', o', none⟩) N c), (12, fun z_ _ => z_ = .pointer (some ⟨b', o', none⟩)), (13, fun z_ _ => z_ = .pointer (some ⟨b', o' + 1, none⟩)), (14, fun z_ _ => z_ = .int .i64 n), (15, fun z_ _ => z_ = .slice (some ⟨b', o', none⟩) N c), (16, fun z_ _ => z_ = .pointer (some ⟨b', o', none⟩)), (17, fun z_ _ => z_ = .pointer (some ⟨b', o' + 2, none⟩)), (18, fun z_ _ => z_ = .agg #[.int .i64 lo, .int .i64 hi]), (19, fun z_ _ => z_ = .agg #[.int .i64 op, .int .i64 n, .int .i64 0, .int .i64 lo, .int .i64 hi]), (5, fun z_ w' => ∃ X_, z_ = .pointer (some ⟨X_, 0, none⟩) ∧ W.heap.size ≤ X_ ∧ IsC w' X_ ⟨0, 0, 0, 0, 0⟩)]) (by kernel_rfl) (by kernel_rfl) (lk_steady _ ⟨steady_eq _, steady_eq _, steady_eq _, steady_eq _, steady_eq _, steady_eq _, steady_eq _, steady_eq _, steady_eq _, steady_eq _, steady_eq _, steady_eq _, steady_eq _, fun u w1 w2 hb ⟨X, h1, h2, h3⟩ => ⟨X, h1, h2, h3.grow hb⟩, trivial⟩) ?_ ?_
  · refine ⟨?_, ?_, ?_, ?_, ?_, ?_, ?_, ?_, ?_, ?_, ?_, ?_, ?_, ?_, trivial⟩
    · refine ob_plain [0] rfl rfl fun aa g h => ?_
      have yy0 := seen_out (v := .slice (some ⟨b', o', none⟩) N c) rfl rfl h.1
      have ee0 := getD_of yy0
      exact tupon_value (v := .slice (some ⟨b', o', none⟩) N c) (by simp [go_sem, ee0, yy0]) (Below.refl _ _) rfl
    · refine ob_plain [7] rfl rfl fun aa g h => ?_
      obtain ⟨_, yy0, rfl⟩ := seen_in rfl h.1
      have ee0 := getD_of yy0
      exact tupon_value (v := .pointer (some ⟨b', o', none⟩)) (by simp [go_sem, ee0, yy0, hN0]) (Below.refl _ _) rfl
    · refine ob_plain [8] rfl rfl fun aa g h => ?_
      obtain ⟨_, yy0, rfl⟩ := seen_in rfl h.1
      have ee0 := getD_of yy0
      exact tupon_value (v := .pointer (some ⟨b', o', none⟩)) (by simp [go_sem, ee0, yy0]) (Below.refl _ _) rfl
    · refine ob_plain [9] rfl rfl fun aa g h => ?_
      obtain ⟨_, yy0, rfl⟩ := seen_in rfl h.1
      have ee0 := getD_of yy0
      exact tupon_value (v := .int .i64 op) (by simp [go_sem, ee0, yy0, f0 g]) (Below.refl _ _) rfl
    · refine ob_plain [0] rfl rfl fun aa g h => ?_
      have yy0 := seen_out (v := .slice (some ⟨b', o', none⟩) N c) rfl rfl h.1
      have ee0 := getD_of yy0
      exact tupon_value (v := .slice (some ⟨b', o', none⟩) N c) (by simp [go_sem, ee0, yy0]) (Below.refl _ _) rfl
    · refine ob_plain [11] rfl rfl fun aa g h => ?_
      obtain ⟨_, yy0, rfl⟩ := seen_in rfl h.1
      have ee0 := getD_of yy0
      exact tupon_value (v := .pointer (some ⟨b', o', none⟩)) (by simp [go_sem, ee0, yy0, hN0]) (Below.refl _ _) rfl
    · refine ob_plain [12] rfl rfl fun aa g h => ?_
      obtain ⟨_, yy0, rfl⟩ := seen_in rfl h.1
      have ee0 := getD_of yy0
      exact tupon_value (v := .pointer (some ⟨b', o' + 1, none⟩)) (by simp [go_sem, ee0, yy0]) (Below.refl _ _) rfl
    · refine ob_plain [13] rfl rfl fun aa g h => ?_
      obtain ⟨_, yy0, rfl⟩ := seen_in rfl h.1
      have ee0 := getD_of yy0
      exact tupon_value (v := .int .i64 n) (by simp [go_sem, ee0, yy0, f1 g]) (Below.refl _ _) rfl
    · refine ob_plain [0] rfl rfl fun aa g h => ?_
      have yy0 := seen_out (v := .slice (some ⟨b', o', none⟩) N c) rfl rfl h.1
      have ee0 := getD_of yy0
      exact tupon_value (v := .slice (some ⟨b', o', none⟩) N c) (by simp [go_sem, ee0, yy0]) (Below.refl _ _) rfl
    · refine ob_plain [15] rfl rfl fun aa g h => ?_
      obtain ⟨_, yy0, rfl⟩ := seen_in rfl h.1
      have ee0 := getD_of yy0
      exact tupon_value (v := .pointer (some ⟨b', o', none⟩)) (by simp [go_sem, ee0, yy0, hN0]) (Below.refl _ _) rfl
    · refine ob_plain [16] rfl rfl fun aa g h => ?_
      obtain ⟨_, yy0, rfl⟩ := seen_in rfl h.1
      have ee0 := getD_of yy0
      exact tupon_value (v := .pointer (some ⟨b', o' + 2, none⟩)) (by simp [go_sem, ee0, yy0]) (Below.refl _ _) rfl
    · refine ob_plain [17] rfl rfl fun aa g h => ?_
      obtain ⟨_, yy0, rfl⟩ := seen_in rfl h.1
      have ee0 := getD_of yy0
      exact tupon_value (v := .agg #[.int .i64 lo, .int .i64 hi]) (by simp [go_sem, ee0, yy0, f2 g, f3 g]) (Below.refl _ _) rfl
    · refine ob_plain [10, 14, 18] rfl rfl fun aa g h => ?_
      obtain ⟨_, yy0, rfl⟩ := seen_in rfl h.1
      have ee0 := getD_of yy0
      obtain ⟨_, yy1, rfl⟩ := seen_in rfl h.2.1
      have ee1 := getD_of yy1
      obtain ⟨_, yy2, rfl⟩ := seen_in rfl h.2.2.1
      have ee2 := getD_of yy2
      exact tupon_value (v := .agg #[.int .i64 op, .int .i64 n, .int .i64 0, .int .i64 lo, .int .i64 hi]) (by simp [go_sem, ee0, yy0, ee1, yy1, ee2, yy2]) (Below.refl _ _) rfl
    · refine ob_plain [] rfl rfl fun aa g h => ?_
      exact tupon_value (v := .pointer (some ⟨g.w.heap.size, 0, none⟩)) (w1 := g.w.alloc (.cells #[.int .i64 0, .int .i64 0, .int .i64 0, .int .i64 0, .int .i64 0] 59)) (by simp [go_sem]) ((Below.refl _ _).alloc (Nat.le_refl _) _) ⟨_, rfl, g.h.size, IsC.new g.w ⟨0, 0, 0, 0, 0⟩⟩
  rintro w5 hB5 _ rfl _ rfl _ rfl _ rfl _ rfl _ rfl _ rfl _ rfl _ rfl _ rfl _ rfl _ rfl _ rfl _ ⟨X, rfl, hX, icX⟩
  simp only [Act.put, List.setIfInBounds_toArray, List.set_cons_succ, List.set_cons_zero, finP, List.drop_succ_cons, List.drop_zero, List.take_zero, List.filterMap_nil]
  have z0 := icX.c0
  have z1 := icX.c1
  have z2 := icX.c2
  have z3 := icX.c3
  have z4 := icX.c4
  have y0 := icX.frozen 0
  have y1 := icX.frozen 1
  have y2 := icX.frozen 2
  have y3 := icX.frozen 3
  have y4 := icX.frozen 4
  dsimp only at z0 z1 z2 z3 z4
  have hn1 : X ≠ bl := by omega
  have hn2 : X ≠ bm := by omega
  have hn3 : ∀ g, u.ownBlock = some g → g ≠ X := fun g e => by have := HRW.out g e; omega
  obtain ⟨W1, hW1⟩ : ∃ W', (((((w5.setCell ⟨X, 0, none⟩ (.int .i64 op)).setCell ⟨X, 1, none⟩ (.int .i64 n)).setCell ⟨X, 2, none⟩ (.int .i64 0)).setCell ⟨X, 3, none⟩ (.int .i64 lo)).setCell ⟨X, 4, none⟩ (.int .i64 hi)) = W' := ⟨_, rfl⟩
  have I1 : IsC W1 X ⟨op, n, 0, lo, hi⟩ := by
    rw [← hW1]
    exact cellsT_setN (o := 4) (u := .int .i64 hi) (cellsT_setN (o := 3) (u := .int .i64 lo) (cellsT_setN (o := 2) (u := .int .i64 0) (cellsT_setN (o := 1) (u := .int .i64 n) (cellsT_setN (o := 0) (u := .int .i64 op) icX))))
  have hB1 : Below W.heap.size W W1 := by
    rw [← hW1]
    exact ((((hB5.setCell (p := ⟨X, 0, none⟩) hX _).setCell (p := ⟨X, 1, none⟩) hX _).setCell (p := ⟨X, 2, none⟩) hX _).setCell (p := ⟨X, 3, none⟩) hX _).setCell (p := ⟨X, 4, none⟩) hX _
  have I1H := Lib.hid I1
  have HB1 := Lib.hid hB1
  clear I1 hB1 hB5 icX f0 f1 f2 f3
  go_wp2_with (fail)
  try rw [hW1]
  clear hW1 z0 z1 z2 z3 z4 y0 y1 y2 y3 y4
  rw [hN] at HV
  refine (KO.out _ _ (HV.out.grow HB1.out).1).mono ?_
  rintro e w2 ⟨r, rfl, ⟨us, hol⟩, hB2⟩
  have hBw2 := below_then HB1.out hB2
  have C2 := Lib.hid (HCM.out.grow hBw2)
  have I2 := Lib.hid (I1H.out.grow hB2)
  have E2 := Lib.hid (Ext.of (bl := bl) (bm := bm) (u := u) hBw2)
  have O2 := Lib.hid hol
  clear hB2 hBw2 hol KO HV HCM I1H HB1
  obtain ⟨g, cr', hre, hat⟩ := ownl_at O2.out (by simp)
  obtain ⟨pa, ca, ha0, hna⟩ := hat 0 (pre a) rfl
  subst hre
  simp only [List.length_singleton]
  clear hat
  have k0 := C2.out.be.cell
  have D3 := Lib.hid (C2.out.grow ((Below.refl (w2).heap.size (w2)).drew))
  have J3 := Lib.hid (I2.out.grow ((Below.refl (w2).heap.size (w2)).drew))
  have N3 := Lib.hid (hna.grow ((Below.refl (w2).heap.size (w2)).drew))
  have P3 := Lib.hid (O2.out.kept ((Below.refl (w2).heap.size (w2)).drew))
  have F3 := Lib.hid (E2.out.trans (Ext.of (bl := bl) (bm := bm) (u := u) ((Below.refl (w2).heap.size (w2)).drew)))
  have hlx3 := I2.out.lt
  go_wp2_with (fail)
  go_region_with (first
    | (go_at_call 41; refine (KA.out _ _ D3.out N3.out).mono ?_; rintro e3 w3 ⟨u3, rfl, hc3, he3⟩; have I3' : IsC w3 X ⟨op, n, 0, lo, hi⟩ := he3.local D3.out.ls J3.out hn1 hn2 hn3; have x3 := I3'.c1; have y3 := I3'.frozen 1; dsimp only at x3))
  all_goals
    have hn3' : ∀ g, u3.ownBlock = some g → g ≠ X := fun g e => by
      rcases he3.own g e with h | h
      · exact hn3 g h
      · have h9 : (w2).heap.size ≤ g := h
        omega
    have C3 := Lib.hid (hc3.set I3' 1 (.int .i64 ka) hn1 hn2 hn3')
    have I3 := Lib.hid ((I3'.set ka).1)
    have E3 := Lib.hid ((F3.out.trans he3).newset hX 1 (.int .i64 ka))
    have O3 := Lib.hid (ownl_set (ownl_ext P3.out he3 D3.out.ls) I3' 1 (.int .i64 ka))
    dsimp only at I3
    clear k0 hc3 he3 I3' D3 J3 N3 P3 F3 hlx3
    clear x3 y3 ha0 hna
    have KI := Lib.hid (fun h => index_ok B bl bm u3 La ⟨op, ka, 0, lo, hi⟩ (w3.setCell ⟨X, 1, none⟩ (.int .i64 ka)) h (by
      obtain ⟨h1, h2, h3, h4⟩ := HND.out
      exact ⟨h1, by first | exact h2 | (unfold W64; dsimp only; omega), by unfold W64; dsimp only; omega, h3, h4⟩) (by omega))
    have c0 := C3.out.bb.cell
    have q0 := I3.out.c0
    have q1 := I3.out.c1
    have q2 := I3.out.c2
    have q3 := I3.out.c3
    have q4 := I3.out.c4
    unfold valI' at KI
    dsimp only at q0 q1 q2 q3 q4 KI
    go_wp2_with (fail)
    refine (KI.out C3.out.ls).mono ?_
    rintro e w9 ⟨u9, rfl, h9, e9⟩
    have C9 : CmI B bl bm eb lb u9 (emitI La ⟨op, ka, 0, lo, hi⟩) w9 := ⟨h9, boxed_ext C3.out.be e9 C3.out.ls (by decide) (by decide), boxed_ext C3.out.bb e9 C3.out.ls (by decide) (by decide)⟩
    have H9 := Lib.hid C9
    have E9 := Lib.hid (E3.out.trans e9)
    clear h9 e9 C9 KI c0 q0 q1 q2 q3 q4
    go_wp2_with (fail)
    go_ret
    exact ⟨u9, rfl, H9.out, E9.out⟩
set_option maxHeartbeats 32000000 in
theorem emit_e2 (B bl bm eb lb : Nat) (x : Nd) (a b : Ex) (har : Ar (.e2 x a b)) (hnw : ∀ y ∈ pre (.e2 x a b), NW y) (hsz : (pre (.e2 x a b)).length ≤ 100000) (iha : ∀ (u : Value) (L : List Is) (W : World) (v : Value), CmI B bl bm eb lb u L W → NxO W v (pre a) → L.length + (pre a).length ≤ 1000000 → Calls Try.prog 41 #[v, .pointer (some ⟨eb, 0, none⟩), .pointer (some ⟨lb, 0, none⟩)] W fun e w' => ∃ u', e = .returned (.int .i64 (emitT a L).2) ∧ CmI B bl bm eb lb u' (emitT a L).1 w' ∧ Ext bl bm u u' W w') (ihb : ∀ (u : Value) (L : List Is) (W : World) (v : Value), CmI B bl bm eb lb u L W → NxO W v (pre b) → L.length + (pre b).length ≤ 1000000 → Calls Try.prog 41 #[v, .pointer (some ⟨eb, 0, none⟩), .pointer (some ⟨lb, 0, none⟩)] W fun e w' => ∃ u', e = .returned (.int .i64 (emitT b L).2) ∧ CmI B bl bm eb lb u' (emitT b L).1 w' ∧ Ext bl bm u u' W w') (u : Value) (L : List Is) (W : World) (v : Value) (hc : CmI B bl bm eb lb u L W) (hv : NxO W v (pre (.e2 x a b))) (hL : L.length + (pre (.e2 x a b)).length ≤ 1000000) :
    Calls Try.prog 41 #[v, .pointer (some ⟨eb, 0, none⟩), .pointer (some ⟨lb, 0, none⟩)] W fun e w' => ∃ u', e = .returned (.int .i64 (emitT (.e2 x a b) L).2) ∧ CmI B bl bm eb lb u' (emitT (.e2 x a b) L).1 w' ∧ Ext bl bm u u' W w' := by
  obtain ⟨op, n, lo, hi⟩ := x
  unfold emitT
  dsimp only
  obtain ⟨⟨La, ka⟩, hA⟩ : ∃ R, emitT a L = R := ⟨_, rfl⟩
  have hpe : (pre (.e2 ⟨op, n, lo, hi⟩ a b)).length = (pre a).length + (pre b).length + 1 := by simp [pre]
  have lena := emitT_len a L
  have KA := Lib.hid (fun W v h1 h2 => iha u L W v h1 h2 (by omega))
  rw [hA] at KA lena ⊢
  dsimp only at KA lena ⊢
  obtain ⟨⟨Lb, kb⟩, hB⟩ : ∃ R, emitT b La = R := ⟨_, rfl⟩
  have lenb := emitT_len b La
  have KB := Lib.hid (fun u W v h1 h2 => ihb u La W v h1 h2 (by omega))
  rw [hB] at KB lenb ⊢
  dsimp only at KB lenb ⊢
  have hnd := hnw ⟨op, n, lo, hi⟩ (by simp [pre])
  have hop := ops2 har
  have KO := Lib.hid (fun (v : Value) w h => operands_ok v (pre (.e2 ⟨op, n, lo, hi⟩ a b)) w h (by omega))
  rw [hop] at KO
  have hls := hc.ls
  have hbl := hls.lt
  have hbm := hls.mlt
  have hrw : ∀ g, u.ownBlock = some g → g < W.heap.size := fun g e => (hls.off e).2.2.2.1
  obtain ⟨⟨hx0, p, c, rfl, hx2⟩, hx3⟩ := id hv.1
  obtain ⟨b', o', rfl, hbs, rd⟩ := nd_rd (i := 0) hv.1.1 (show (pre (.e2 ⟨op, n, lo, hi⟩ a b))[0]? = some ⟨op, n, lo, hi⟩ from rfl)
  have rdg := fun g : Grown W => rd g
  simp only [Nat.zero_mul, Nat.add_zero] at rdg
  have f0 := fun g => (rdg g).1
  have f1 := fun g => (rdg g).2.1
  have f2 := fun g => (rdg g).2.2.1
  have f3 := fun g => (rdg g).2.2.2
  have hpl := pre_pos (.e2 ⟨op, n, lo, hi⟩ a b)
  obtain ⟨N, hN⟩ : ∃ N, (pre (.e2 ⟨op, n, lo, hi⟩ a b)).length = N := ⟨_, rfl⟩
  have HV := Lib.hid hv
  have HCM := Lib.hid hc
  rw [hN] at hpl
  have i1 : (0 : Int) < (N : Int) := by omega
  have hN0 : N ≠ 0 := by omega
  have HND := Lib.hid hnd
  have HRW := Lib.hid hrw
  rw [hN]
  clear hx0 hx2 hx3 rd rdg hnd hls hc hv hnw har hop hrw
  go_enter Try.func41, Try.ntmps41
  go_wp2_with (fail)
  refine region_pred_n 14 (lk [(7, fun z_ _ => z_ = .slice (some ⟨b', o', none⟩) N c), (8, fun z_ _ => z_ = .pointer (some ⟨b', o', none⟩)), (9, fun z_ _ => z_ = .pointer (some ⟨b', o', none⟩)), (10, fun z_ _ => z_ = .int .i64 op), (11, fun z_ _ => z_ = .slice (some ⟨b', o', none⟩) N c), (12, fun z_ _ => z_ = .pointer (some ⟨b', o', none⟩)), (13, fun z_ _ => z_ = .pointer (some ⟨b', o' + 1, none⟩)), (14, fun z_ _ => z_ = .int .i64 n), (15, fun z_ _ => z_ = .slice (some ⟨b', o', none⟩) N c), (16, fun z_ _ => z_ = .pointer (some ⟨b', o', none⟩)), (17, fun z_ _ => z_ = .pointer (some ⟨b', o' + 2, none⟩)), (18, fun z_ _ => z_ = .agg #[.int .i64 lo, .int .i64 hi]), (19, fun z_ _ => z_ = .agg #[.int .i64 op, .int .i64 n, .int .i64 0, .int .i64 lo, .int .i64 hi]), (5, fun z_ w' => ∃ X_, z_ = .pointer (some ⟨X_, 0, none⟩) ∧ W.heap.size ≤ X_ ∧ IsC w' X_ ⟨0, 0, 0, 0, 0⟩)]) (by kernel_rfl) (by kernel_rfl) (lk_steady _ ⟨steady_eq _, steady_eq _, steady_eq _, steady_eq _, steady_eq _, steady_eq _, steady_eq _, steady_eq _, steady_eq _, steady_eq _, steady_eq _, steady_eq _, steady_eq _, fun u w1 w2 hb ⟨X, h1, h2, h3⟩ => ⟨X, h1, h2, h3.grow hb⟩, trivial⟩) ?_ ?_
  · refine ⟨?_, ?_, ?_, ?_, ?_, ?_, ?_, ?_, ?_, ?_, ?_, ?_, ?_, ?_, trivial⟩
    · refine ob_plain [0] rfl rfl fun aa g h => ?_
      have yy0 := seen_out (v := .slice (some ⟨b', o', none⟩) N c) rfl rfl h.1
      have ee0 := getD_of yy0
      exact tupon_value (v := .slice (some ⟨b', o', none⟩) N c) (by simp [go_sem, ee0, yy0]) (Below.refl _ _) rfl
    · refine ob_plain [7] rfl rfl fun aa g h => ?_
      obtain ⟨_, yy0, rfl⟩ := seen_in rfl h.1
      have ee0 := getD_of yy0
      exact tupon_value (v := .pointer (some ⟨b', o', none⟩)) (by simp [go_sem, ee0, yy0, hN0]) (Below.refl _ _) rfl
    · refine ob_plain [8] rfl rfl fun aa g h => ?_
      obtain ⟨_, yy0, rfl⟩ := seen_in rfl h.1
      have ee0 := getD_of yy0
      exact tupon_value (v := .pointer (some ⟨b', o', none⟩)) (by simp [go_sem, ee0, yy0]) (Below.refl _ _) rfl
    · refine ob_plain [9] rfl rfl fun aa g h => ?_
      obtain ⟨_, yy0, rfl⟩ := seen_in rfl h.1
      have ee0 := getD_of yy0
      exact tupon_value (v := .int .i64 op) (by simp [go_sem, ee0, yy0, f0 g]) (Below.refl _ _) rfl
    · refine ob_plain [0] rfl rfl fun aa g h => ?_
      have yy0 := seen_out (v := .slice (some ⟨b', o', none⟩) N c) rfl rfl h.1
      have ee0 := getD_of yy0
      exact tupon_value (v := .slice (some ⟨b', o', none⟩) N c) (by simp [go_sem, ee0, yy0]) (Below.refl _ _) rfl
    · refine ob_plain [11] rfl rfl fun aa g h => ?_
      obtain ⟨_, yy0, rfl⟩ := seen_in rfl h.1
      have ee0 := getD_of yy0
      exact tupon_value (v := .pointer (some ⟨b', o', none⟩)) (by simp [go_sem, ee0, yy0, hN0]) (Below.refl _ _) rfl
    · refine ob_plain [12] rfl rfl fun aa g h => ?_
      obtain ⟨_, yy0, rfl⟩ := seen_in rfl h.1
      have ee0 := getD_of yy0
      exact tupon_value (v := .pointer (some ⟨b', o' + 1, none⟩)) (by simp [go_sem, ee0, yy0]) (Below.refl _ _) rfl
    · refine ob_plain [13] rfl rfl fun aa g h => ?_
      obtain ⟨_, yy0, rfl⟩ := seen_in rfl h.1
      have ee0 := getD_of yy0
      exact tupon_value (v := .int .i64 n) (by simp [go_sem, ee0, yy0, f1 g]) (Below.refl _ _) rfl
    · refine ob_plain [0] rfl rfl fun aa g h => ?_
      have yy0 := seen_out (v := .slice (some ⟨b', o', none⟩) N c) rfl rfl h.1
      have ee0 := getD_of yy0
      exact tupon_value (v := .slice (some ⟨b', o', none⟩) N c) (by simp [go_sem, ee0, yy0]) (Below.refl _ _) rfl
    · refine ob_plain [15] rfl rfl fun aa g h => ?_
      obtain ⟨_, yy0, rfl⟩ := seen_in rfl h.1
      have ee0 := getD_of yy0
      exact tupon_value (v := .pointer (some ⟨b', o', none⟩)) (by simp [go_sem, ee0, yy0, hN0]) (Below.refl _ _) rfl
    · refine ob_plain [16] rfl rfl fun aa g h => ?_
      obtain ⟨_, yy0, rfl⟩ := seen_in rfl h.1
      have ee0 := getD_of yy0
      exact tupon_value (v := .pointer (some ⟨b', o' + 2, none⟩)) (by simp [go_sem, ee0, yy0]) (Below.refl _ _) rfl
    · refine ob_plain [17] rfl rfl fun aa g h => ?_
      obtain ⟨_, yy0, rfl⟩ := seen_in rfl h.1
      have ee0 := getD_of yy0
      exact tupon_value (v := .agg #[.int .i64 lo, .int .i64 hi]) (by simp [go_sem, ee0, yy0, f2 g, f3 g]) (Below.refl _ _) rfl
    · refine ob_plain [10, 14, 18] rfl rfl fun aa g h => ?_
      obtain ⟨_, yy0, rfl⟩ := seen_in rfl h.1
      have ee0 := getD_of yy0
      obtain ⟨_, yy1, rfl⟩ := seen_in rfl h.2.1
      have ee1 := getD_of yy1
      obtain ⟨_, yy2, rfl⟩ := seen_in rfl h.2.2.1
      have ee2 := getD_of yy2
      exact tupon_value (v := .agg #[.int .i64 op, .int .i64 n, .int .i64 0, .int .i64 lo, .int .i64 hi]) (by simp [go_sem, ee0, yy0, ee1, yy1, ee2, yy2]) (Below.refl _ _) rfl
    · refine ob_plain [] rfl rfl fun aa g h => ?_
      exact tupon_value (v := .pointer (some ⟨g.w.heap.size, 0, none⟩)) (w1 := g.w.alloc (.cells #[.int .i64 0, .int .i64 0, .int .i64 0, .int .i64 0, .int .i64 0] 59)) (by simp [go_sem]) ((Below.refl _ _).alloc (Nat.le_refl _) _) ⟨_, rfl, g.h.size, IsC.new g.w ⟨0, 0, 0, 0, 0⟩⟩
  rintro w5 hB5 _ rfl _ rfl _ rfl _ rfl _ rfl _ rfl _ rfl _ rfl _ rfl _ rfl _ rfl _ rfl _ rfl _ ⟨X, rfl, hX, icX⟩
  simp only [Act.put, List.setIfInBounds_toArray, List.set_cons_succ, List.set_cons_zero, finP, List.drop_succ_cons, List.drop_zero, List.take_zero, List.filterMap_nil]
  have z0 := icX.c0
  have z1 := icX.c1
  have z2 := icX.c2
  have z3 := icX.c3
  have z4 := icX.c4
  have y0 := icX.frozen 0
  have y1 := icX.frozen 1
  have y2 := icX.frozen 2
  have y3 := icX.frozen 3
  have y4 := icX.frozen 4
  dsimp only at z0 z1 z2 z3 z4
  have hn1 : X ≠ bl := by omega
  have hn2 : X ≠ bm := by omega
  have hn3 : ∀ g, u.ownBlock = some g → g ≠ X := fun g e => by have := HRW.out g e; omega
  obtain ⟨W1, hW1⟩ : ∃ W', (((((w5.setCell ⟨X, 0, none⟩ (.int .i64 op)).setCell ⟨X, 1, none⟩ (.int .i64 n)).setCell ⟨X, 2, none⟩ (.int .i64 0)).setCell ⟨X, 3, none⟩ (.int .i64 lo)).setCell ⟨X, 4, none⟩ (.int .i64 hi)) = W' := ⟨_, rfl⟩
  have I1 : IsC W1 X ⟨op, n, 0, lo, hi⟩ := by
    rw [← hW1]
    exact cellsT_setN (o := 4) (u := .int .i64 hi) (cellsT_setN (o := 3) (u := .int .i64 lo) (cellsT_setN (o := 2) (u := .int .i64 0) (cellsT_setN (o := 1) (u := .int .i64 n) (cellsT_setN (o := 0) (u := .int .i64 op) icX))))
  have hB1 : Below W.heap.size W W1 := by
    rw [← hW1]
    exact ((((hB5.setCell (p := ⟨X, 0, none⟩) hX _).setCell (p := ⟨X, 1, none⟩) hX _).setCell (p := ⟨X, 2, none⟩) hX _).setCell (p := ⟨X, 3, none⟩) hX _).setCell (p := ⟨X, 4, none⟩) hX _
  have I1H := Lib.hid I1
  have HB1 := Lib.hid hB1
  clear I1 hB1 hB5 icX f0 f1 f2 f3
  go_wp2_with (fail)
  try rw [hW1]
  clear hW1 z0 z1 z2 z3 z4 y0 y1 y2 y3 y4
  rw [hN] at HV
  refine (KO.out _ _ (HV.out.grow HB1.out).1).mono ?_
  rintro e w2 ⟨r, rfl, ⟨us, hol⟩, hB2⟩
  have hBw2 := below_then HB1.out hB2
  have C2 := Lib.hid (HCM.out.grow hBw2)
  have I2 := Lib.hid (I1H.out.grow hB2)
  have E2 := Lib.hid (Ext.of (bl := bl) (bm := bm) (u := u) hBw2)
  have O2 := Lib.hid hol
  clear hB2 hBw2 hol KO HV HCM I1H HB1
  obtain ⟨g, cr', hre, hat⟩ := ownl_at O2.out (by simp)
  obtain ⟨pa, ca, ha0, hna⟩ := hat 0 (pre a) rfl
  subst hre
  have hlen2 : ([pre a, pre b] : List (List Nd)).length = 2 := rfl
  simp only [hlen2] at O2 ⊢
  clear hat
  have k0 := C2.out.be.cell
  have D3 := Lib.hid (C2.out.grow ((Below.refl (w2).heap.size (w2)).drew))
  have J3 := Lib.hid (I2.out.grow ((Below.refl (w2).heap.size (w2)).drew))
  have N3 := Lib.hid (hna.grow ((Below.refl (w2).heap.size (w2)).drew))
  have P3 := Lib.hid (O2.out.kept ((Below.refl (w2).heap.size (w2)).drew))
  have F3 := Lib.hid (E2.out.trans (Ext.of (bl := bl) (bm := bm) (u := u) ((Below.refl (w2).heap.size (w2)).drew)))
  have hlx3 := I2.out.lt
  go_wp2_with (fail)
  go_region_with (first
    | (go_at_call 41; refine (KA.out _ _ D3.out N3.out).mono ?_; rintro e3 w3 ⟨u3, rfl, hc3, he3⟩; have I3' : IsC w3 X ⟨op, n, 0, lo, hi⟩ := he3.local D3.out.ls J3.out hn1 hn2 hn3; have x3 := I3'.c1; have y3 := I3'.frozen 1; dsimp only at x3))
  all_goals
    have hn3' : ∀ g, u3.ownBlock = some g → g ≠ X := fun g e => by
      rcases he3.own g e with h | h
      · exact hn3 g h
      · have h9 : (w2).heap.size ≤ g := h
        omega
    have C3 := Lib.hid (hc3.set I3' 1 (.int .i64 ka) hn1 hn2 hn3')
    have I3 := Lib.hid ((I3'.set ka).1)
    have E3 := Lib.hid ((F3.out.trans he3).newset hX 1 (.int .i64 ka))
    have O3 := Lib.hid (ownl_set (ownl_ext P3.out he3 D3.out.ls) I3' 1 (.int .i64 ka))
    dsimp only at I3
    clear k0 hc3 he3 I3' D3 J3 N3 P3 F3 hlx3
    clear x3 y3 ha0 hna
    obtain ⟨pb, cb, hb0, hnb⟩ := ownl_cell O3.out (k := 1) (x := pre b) rfl
    have k0 := C3.out.be.cell
    have D6 := Lib.hid (C3.out.grow ((Below.refl ((w3.setCell ⟨X, 1, none⟩ (.int .i64 ka))).heap.size ((w3.setCell ⟨X, 1, none⟩ (.int .i64 ka)))).drew))
    have J6 := Lib.hid (I3.out.grow ((Below.refl ((w3.setCell ⟨X, 1, none⟩ (.int .i64 ka))).heap.size ((w3.setCell ⟨X, 1, none⟩ (.int .i64 ka)))).drew))
    have N6 := Lib.hid (hnb.grow ((Below.refl ((w3.setCell ⟨X, 1, none⟩ (.int .i64 ka))).heap.size ((w3.setCell ⟨X, 1, none⟩ (.int .i64 ka)))).drew))
    have P6 := Lib.hid (O3.out.kept ((Below.refl ((w3.setCell ⟨X, 1, none⟩ (.int .i64 ka))).heap.size ((w3.setCell ⟨X, 1, none⟩ (.int .i64 ka)))).drew))
    have F6 := Lib.hid (E3.out.trans (Ext.of (bl := bl) (bm := bm) (u := u3) ((Below.refl ((w3.setCell ⟨X, 1, none⟩ (.int .i64 ka))).heap.size ((w3.setCell ⟨X, 1, none⟩ (.int .i64 ka)))).drew)))
    have hlx6 := I3.out.lt
    go_wp2_with (fail)
    go_region_with (first
      | (go_at_call 41; refine (KB.out u3 _ _ D6.out N6.out).mono ?_; rintro e6 w6 ⟨u6, rfl, hc6, he6⟩; have I6' : IsC w6 X ⟨op, ka, 0, lo, hi⟩ := he6.local D6.out.ls J6.out hn1 hn2 hn3'; have x6 := I6'.c2; have y6 := I6'.frozen 2; dsimp only at x6))
    all_goals
      have hn3'' : ∀ g, u6.ownBlock = some g → g ≠ X := fun g e => by
        rcases he6.own g e with h | h
        · exact hn3' g h
        · have h9 : ((w3.setCell ⟨X, 1, none⟩ (.int .i64 ka))).heap.size ≤ g := h
          omega
      have C6 := Lib.hid (hc6.set I6' 2 (.int .i64 kb) hn1 hn2 hn3'')
      have I6 := Lib.hid ((I6'.set kb).2)
      have E6 := Lib.hid ((F6.out.trans he6).newset hX 2 (.int .i64 kb))
      have O6 := Lib.hid (ownl_set (ownl_ext P6.out he6 D6.out.ls) I6' 2 (.int .i64 kb))
      dsimp only at I6
      clear k0 hc6 he6 I6' D6 J6 N6 P6 F6 hlx6
      clear x6 y6 hb0 hnb
      have KI := Lib.hid (fun h => index_ok B bl bm u6 Lb ⟨op, ka, kb, lo, hi⟩ (w6.setCell ⟨X, 2, none⟩ (.int .i64 kb)) h (by
        obtain ⟨h1, h2, h3, h4⟩ := HND.out
        exact ⟨h1, by first | exact h2 | (unfold W64; dsimp only; omega), by unfold W64; dsimp only; omega, h3, h4⟩) (by omega))
      have c0 := C6.out.bb.cell
      have q0 := I6.out.c0
      have q1 := I6.out.c1
      have q2 := I6.out.c2
      have q3 := I6.out.c3
      have q4 := I6.out.c4
      unfold valI' at KI
      dsimp only at q0 q1 q2 q3 q4 KI
      go_wp2_with (fail)
      refine (KI.out C6.out.ls).mono ?_
      rintro e w9 ⟨u9, rfl, h9, e9⟩
      have C9 : CmI B bl bm eb lb u9 (emitI Lb ⟨op, ka, kb, lo, hi⟩) w9 := ⟨h9, boxed_ext C6.out.be e9 C6.out.ls (by decide) (by decide), boxed_ext C6.out.bb e9 C6.out.ls (by decide) (by decide)⟩
      have H9 := Lib.hid C9
      have E9 := Lib.hid (E6.out.trans e9)
      clear h9 e9 C9 KI c0 q0 q1 q2 q3 q4
      go_wp2_with (fail)
      go_ret
      exact ⟨u9, rfl, H9.out, E9.out⟩
/-- The closure of Compile, at every expression. -/
theorem emit_ok (B bl bm eb lb : Nat) : ∀ t : Ex, Ar t → (∀ y ∈ pre t, NW y) → (pre t).length ≤ 100000 → ∀ (u : Value) (L : List Is) (W : World) (v : Value), CmI B bl bm eb lb u L W → NxO W v (pre t) → L.length + (pre t).length ≤ 1000000 → Calls Try.prog 41 #[v, .pointer (some ⟨eb, 0, none⟩), .pointer (some ⟨lb, 0, none⟩)] W fun e w' => ∃ u', e = .returned (.int .i64 (emitT t L).2) ∧ CmI B bl bm eb lb u' (emitT t L).1 w' ∧ Ext bl bm u u' W w'
  | .e0 x, har, hnw, hsz => emit_e0 B bl bm eb lb x har hnw hsz
  | .e1 x a, har, hnw, hsz => by
    have e : (pre (.e1 x a)).length = (pre a).length + 1 := by simp [pre]
    exact emit_e1 B bl bm eb lb x a har hnw hsz (emit_ok B bl bm eb lb a har.2 (fun y hy => hnw y (by simp [pre, hy])) (by omega))
  | .e2 x a b, har, hnw, hsz => by
    have e : (pre (.e2 x a b)).length = (pre a).length + (pre b).length + 1 := by simp [pre]
    exact emit_e2 B bl bm eb lb x a b har hnw hsz (emit_ok B bl bm eb lb a har.2.1 (fun y hy => hnw y (by simp [pre, hy])) (by omega)) (emit_ok B bl bm eb lb b har.2.2 (fun y hy => hnw y (by simp [pre, hy])) (by omega))
end Go.Proofs.Ytajddejeglhbhaa

namespace Go.Proofs.Ytajddejeglhbhaa
open Go.ChangeShapes Go.WideShapes Go.ChangeAt Go.RowKit
set_option linter.unusedVariables false
set_option linter.unusedSimpArgs false
set_option maxRecDepth 100000
attribute [local irreducible] Calls
def ltB (c : Int) : Bool := decide (97 ≤ c) && decide (c ≤ 122)
def dgB (c : Int) : Bool := decide (48 ≤ c) && decide (c ≤ 57)
theorem letter_ok (c : Int) (w : World) : Calls Try.prog 86 #[.int .u8 c] w fun e w' => e = .returned (.bool (ltB c)) ∧ w' = w := by
  unfold ltB
  cases h : decide (97 ≤ c) <;>
  · go_enter Try.func86, Try.ntmps86
    go_wp2_with (fail)
    go_ret
    exact ⟨rfl, rfl⟩
theorem digit_ok (c : Int) (w : World) : Calls Try.prog 102 #[.int .u8 c] w fun e w' => e = .returned (.bool (dgB c)) ∧ w' = w := by
  unfold dgB
  cases h : decide (48 ≤ c) <;>
  · go_enter Try.func102, Try.ntmps102
    go_wp2_with (fail)
    go_ret
    exact ⟨rfl, rfl⟩
theorem namebyte_ok (c : Int) (w : World) : Calls Try.prog 88 #[.int .u8 c] w fun e w' => e = .returned (.bool (ltB c || dgB c)) ∧ w' = w := by
  have K1 := Lib.hid (fun w => letter_ok c w)
  have K2 := Lib.hid (fun w => digit_ok c w)
  obtain ⟨a, ha⟩ : ∃ a, ltB c = a := ⟨_, rfl⟩
  rw [ha] at K1 ⊢
  cases a with
  | false =>
    go_enter Try.func88, Try.ntmps88
    go_wp2_with (fail)
    refine (K1.out _).mono ?_
    rintro e w1 ⟨rfl, rfl⟩
    go_wp2_with (fail)
    refine (K2.out _).mono ?_
    rintro e w1 ⟨rfl, rfl⟩
    go_wp2_with (fail)
    go_ret
    exact ⟨rfl, rfl⟩
  | true =>
    go_enter Try.func88, Try.ntmps88
    go_wp2_with (fail)
    refine (K1.out _).mono ?_
    rintro e w1 ⟨rfl, rfl⟩
    go_wp2_with (fail)
    go_ret
    exact ⟨rfl, rfl⟩
theorem toList_inj {a b : ByteArray} (h : a.toList = b.toList) : a = b := by
  rw [ByteArray.toList_eq, ByteArray.toList_eq] at h
  exact ByteArray.ext (Array.toList_inj.1 h)
/-- All bytes are letters or digits. -/
def NB (s : ByteArray) : Prop := ∀ c ∈ s.data.toList, (ltB c.toNat || dgB c.toNat) = true
theorem leading_ok (s : ByteArray) (w : World) (hs : s.size ≤ 1000) (h : NB s) : Calls Try.prog 87 #[.string s, .func (.func 88) #[] #[]] w fun e w' => e = .returned (.string s) ∧ w' = w := by
  have HN := Lib.hid h
  clear h
  go_enter Try.func87, Try.ntmps87
  go_wp2_with (fail)
  go_loopw [8] (fun i wr => ∃ k : Nat, i = .int .i64 k ∧ k ≤ s.size ∧ wr = w) (fun i _ => s.size - (intOf i).toNat)
  case atStart => exact ⟨0, rfl, Nat.zero_le _, rfl⟩
  case round =>
    obtain ⟨k, rfl, hk, rfl⟩ := hrel
    by_cases hlt : k < s.size
    · have i1 : (k : Int) < s.size := by omega
      have hm : s[k] ∈ s.data.toList := Array.mem_toList_iff.2 (Array.getElem_mem hlt)
      have hb := HN.out _ hm
      have KB := Lib.hid (fun w => namebyte_ok (s[k].toNat) w)
      rw [hb] at KB
      clear hm hb
      go_wp2_with (fail)
      refine (KB.out _).mono ?_
      rintro e w1 ⟨rfl, rfl⟩
      go_wp2_with (fail)
      exact ⟨⟨k + 1, by go_num, by omega, trivial⟩, by simp [intOf]; omega⟩
    · obtain rfl : k = s.size := by omega
      have i1 : ¬ (s.size : Int) < s.size := by omega
      go_wp2_with (fail)
      go_ret
      exact ⟨rfl, rfl⟩
/-- A name. -/
structure Nm (s : ByteArray) : Prop where
  pos : 0 < s.size
  len : s.size ≤ 12
  k0 : (s.toList == []) = false
  k1 : (s.toList == [116]) = false
  k2 : (s.toList == [115, 113, 114]) = false
  k3 : (s.toList == [115, 113, 114, 116]) = false
  k4 : (s.toList == [97, 108, 108]) = false
  nb : NB s
  l0 : ∀ h : 0 < s.size, ltB (s[0].toNat) = true
theorem keyword_ok (s : ByteArray) (w : World) (h : Nm s) : Calls Try.prog 85 #[.string s] w fun e w' => e = .returned (.bool false) ∧ w' = w := by
  have q1 := h.k1
  have q2 := h.k2
  have q3 := h.k3
  have q4 := h.k4
  clear h
  go_enter Try.func85, Try.ntmps85
  go_wp2_with (fail)
  go_ret
  exact ⟨rfl, rfl⟩
theorem name_ok (s : ByteArray) (w : World) (h : Nm s) : Calls Try.prog 63 #[.string s] w fun e w' => e = .returned (.bool true) ∧ w' = w := by
  have K1 := Lib.hid (fun w => keyword_ok s w h)
  have K2 := Lib.hid (fun w => leading_ok s w (by have := h.len; omega) h.nb)
  have h1 := h.pos
  have K3 := Lib.hid (fun w => letter_ok (s[0].toNat) w)
  rw [h.l0 h1] at K3
  have q0 := h.k0
  have i0 : ¬ (12 : Int) < s.size := by have := h.len; omega
  have i1 : (0 : Int) < s.size := by omega
  clear h
  go_enter Try.func63, Try.ntmps63
  go_wp2_with (fail)
  refine (K1.out _).mono ?_
  rintro e w1 ⟨rfl, rfl⟩
  go_wp2_with (fail)
  refine (K3.out _).mono ?_
  rintro e w1 ⟨rfl, rfl⟩
  go_wp2_with (fail)
  refine (K2.out _).mono ?_
  rintro e w1 ⟨rfl, rfl⟩
  go_wp2_with (fail)
  go_ret
  exact ⟨rfl, rfl⟩
/-- No name of the list is s. -/
theorem index_no (v : Value) (l : List ByteArray) (s : ByteArray) (w : World) (hv : Sx w v l) (hn : s ∉ l) (hsm : l.length ≤ 1000) : Calls Try.prog 89 #[v, .string s] w fun e w' => e = .returned (.int .i64 (-1)) ∧ w' = w := by
  obtain ⟨p, c, rfl⟩ := hv.cut
  have HV := Lib.hid hv
  have HN := Lib.hid hn
  clear hv hn
  go_enter Try.func89, Try.ntmps89
  go_wp2_with (fail)
  go_loopw [8] (fun i wr => ∃ k : Nat, i = .int .i64 k ∧ k ≤ l.length ∧ wr = w) (fun i _ => l.length - (intOf i).toNat)
  case atStart => exact ⟨0, rfl, Nat.zero_le _, rfl⟩
  case round =>
    obtain ⟨k, rfl, hk, rfl⟩ := hrel
    by_cases hlt : k < l.length
    · have i1 : (k : Int) < l.length := by omega
      obtain ⟨x, hx⟩ : ∃ x, l[k]? = some x := ⟨_, List.getElem?_eq_getElem hlt⟩
      have hne : s ≠ x := fun e => HN.out (e ▸ List.mem_of_getElem? hx)
      obtain ⟨b, o, rfl, hb, rd⟩ := sx_rd HV.out hx
      have f0 := rd ⟨wr, Below.refl _ _⟩
      dsimp only at f0
      have q : (s.toList == x.toList) = false := by
        rw [beq_eq_false_iff_ne]
        intro e
        exact hne (toList_inj e)
      clear hx hne rd
      go_wp2_with (fail)
      exact ⟨⟨k + 1, by go_num, by omega, trivial⟩, by simp [intOf]; omega⟩
    · obtain rfl : k = l.length := by omega
      have i1 : ¬ (l.length : Int) < l.length := by omega
      go_wp2_with (fail)
      go_ret
      exact ⟨rfl, rfl⟩
theorem contains_no (v : Value) (l : List ByteArray) (s : ByteArray) (w : World) (hv : Sx w v l) (hn : s ∉ l) (hsm : l.length ≤ 1000) : Calls Try.prog 64 #[v, .string s] w fun e w' => e = .returned (.bool false) ∧ w' = w := by
  have K := Lib.hid (index_no v l s w hv hn hsm)
  clear hv hn hsm
  go_enter Try.func64, Try.ntmps64
  go_wp2_with (fail)
  refine K.out.mono ?_
  rintro e w1 ⟨rfl, rfl⟩
  go_wp2_with (fail)
  go_ret
  exact ⟨rfl, rfl⟩
end Go.Proofs.Ytajddejeglhbhaa

namespace Go.Proofs.Ytajddejeglhbhaa
open Go.ChangeShapes Go.WideShapes Go.ChangeAt Go.RowKit
set_option linter.unusedVariables false
set_option linter.unusedSimpArgs false
set_option maxRecDepth 100000
attribute [local irreducible] Calls
section
variable {P : Program}
theorem ob_gtrue {ops : Array Oper} {ds : List Tmp} {a0 : Act} {w0 : World} {Φ : Tmp → Value → World → Prop} {o : Oper} (ts : List Tmp) (j : Nat) (want : Bool) (u : Tmp) (hg : o.guard = some (j, want)) (hj : ((ops[j]?).bind (·.dst)) = some u) (ht : o.looksAt #[] = ts)
    (hin : inL u ds = true) (hu : ∀ v w, Φ u v w → v = .bool want)
    (h : ∀ (a : Act) (g : Grown w0), seenAll Φ ds a0 a g.w ts → uponP P g.w (meets Φ o.dst) ((execOp a.eval o).run P g.w)) : Obl P ops ds a0 w0 Φ o :=
  ob_guard ts j want u hg hj ht fun a g hs hsu => by
    refine ⟨fun _ => h a g hs, fun hn => ?_⟩
    obtain ⟨v, hv, hp⟩ := seen_in hin hsu
    exact absurd (by rw [hv, hu v _ hp]) hn

end
theorem heapN_cellj {W : World} {b k : Nat} {cs : Array Value} {t : TypeId} {z : Nat × Nat} {u : Value} (h : W.heap[b]? = some (.cells cs t z)) (hk : cs[k]? = some u) : W.cell? ⟨b, k, none⟩ = some u := by
  simp [World.cell?, h, hk]
/-- A valid system. -/
structure SyV (names : List ByteArray) (rows : List (List Nd)) : Prop where
  len : rows.length = names.length
  pos : 1 ≤ names.length
  le : names.length ≤ 6
  nm : ∀ s ∈ names, Nm s
  nd : names.Nodup
  ex : ∀ r ∈ rows, veB names.length r = true
theorem veB_len {n : Int} {l : List Nd} (h : veB n l = true) : l.length ≤ 200 := by
  unfold veB at h
  simp only [Bool.and_eq_true, decide_eq_true_eq] at h
  exact h.1
theorem nodup_take {l : List ByteArray} {k : Nat} {s : ByteArray} (h : l.Nodup) (hx : l[k]? = some s) : s ∉ l.take k := by
  intro hm
  obtain ⟨i, hi⟩ := List.getElem?_of_mem hm
  have hi' := (List.getElem?_eq_some_iff.1 hi).1
  rw [List.length_take] at hi'
  rw [List.getElem?_take, if_pos (by omega)] at hi
  obtain ⟨h1, h2⟩ := List.getElem?_eq_some_iff.1 hi
  obtain ⟨h3, h4⟩ := List.getElem?_eq_some_iff.1 hx
  have := (List.getElem_inj (h₀ := h1) (h₁ := h3) h).1 (h2.trans h4.symm)
  omega
theorem name_b (s : ByteArray) (w : World) (h : Nm s) : Calls Try.prog 63 #[.string s] w fun e w' => e = .returned (.bool true) ∧ Below w.heap.size w w' :=
  (name_ok s w h).mono fun e w' ⟨h1, h2⟩ => ⟨h1, by subst h2; exact Below.refl _ _⟩
theorem contains_b (v : Value) (l : List ByteArray) (s : ByteArray) (w : World) (hv : Sx w v l) (hn : s ∉ l) (hsm : l.length ≤ 1000) : Calls Try.prog 64 #[v, .string s] w fun e w' => e = .returned (.bool false) ∧ Below w.heap.size w w' :=
  (contains_no v l s w hv hn hsm).mono fun e w' ⟨h1, h2⟩ => ⟨h1, by subst h2; exact Below.refl _ _⟩
set_option maxHeartbeats 16000000 in
theorem valid_ok (pn : Option Addr) (cn : Nat) (vf : Value) (names : List ByteArray) (rows : List (List Nd)) (w : World) (hn : Sx w (.slice pn names.length cn) names) (hc : names.length ≤ cn) (hf : Lx NxO w vf rows) (hs : SyV names rows) :
    Calls Try.prog 39 #[.agg #[.slice pn names.length cn, vf]] w fun e w' => e = .returned (.bool true) ∧ Below w.heap.size w w' := by
  obtain ⟨pf, cf, rfl⟩ := hf.cut
  have h1 := hs.pos
  have h2 := hs.le
  have h3 := hs.len
  rw [h3] at hf ⊢
  have i1 : ¬ (names.length : Int) < 1 := by omega
  have i2 : ¬ (6 : Int) < names.length := by omega
  have hba : Below w.heap.size w (w.alloc (.cells #[.slice pn names.length cn, .slice pf names.length cf] 38)) := (Below.refl _ _).alloc (Nat.le_refl _) _
  have hX : (w.alloc (.cells #[.slice pn names.length cn, .slice pf names.length cf] 38)).heap[w.heap.size]? = some (.cells #[.slice pn names.length cn, .slice pf names.length cf] 38 (0, 0)) := World.alloc_heap_new w _
  have HN := Lib.hid hn
  have HF := Lib.hid hf
  have HS := Lib.hid hs
  have HX := Lib.hid hX
  have HB := Lib.hid hba
  have H3 := Lib.hid h3
  clear hn hf hs hba hX h3
  go_enter Try.func39, Try.ntmps39
  go_wp2_with (fail)
  go_loopw [27] (fun i wr => ∃ k : Nat, i = .int .i64 k ∧ k ≤ names.length ∧ Below w.heap.size w wr ∧ Hid (wr.heap[w.heap.size]? = some (.cells #[.slice pn names.length cn, .slice pf names.length cf] 38 (0, 0)))) (fun i _ => names.length - (intOf i).toNat)
  case atStart => exact ⟨0, rfl, Nat.zero_le _, HB.out, HX⟩
  case round =>
    clear HX HB
    obtain ⟨k, rfl, hk, hB, HX⟩ := hrel
    have HBr := Lib.hid hB
    by_cases hlt : k < names.length
    · have i4 : (k : Int) < names.length := by omega
      obtain ⟨s, hx⟩ : ∃ s, names[k]? = some s := ⟨_, List.getElem?_eq_getElem hlt⟩
      obtain ⟨r, hr⟩ : ∃ r, rows[k]? = some r := ⟨_, List.getElem?_eq_getElem (by rw [H3.out]; exact hlt)⟩
      obtain ⟨b, o, hpn, hb, rd⟩ := sx_rd HN.out hx
      obtain ⟨bf, of, u, hpf, hbf, rdf⟩ := HF.out.rd grows_nxo hr
      obtain ⟨_, _, hu⟩ := rdf ⟨w, Below.refl _ _⟩
      obtain ⟨q, cu, rfl, _, _⟩ := hu.1.2
      have KN := Lib.hid (fun w => name_b s w (HS.out.nm s (List.mem_of_getElem? hx)))
      have KC := Lib.hid (fun w h => contains_b (.slice pn k cn) (names.take k) s w h (nodup_take HS.out.nd hx) (by rw [List.length_take]; omega))
      have KV := Lib.hid (fun w h => vexpr_ok (.slice q r.length cu) r names.length w h)
      rw [HS.out.ex r (List.mem_of_getElem? hr)] at KV
      have NT := Lib.hid (HN.out.take (k := k) (c' := cn) (by omega))
      have UT := Lib.hid hu.1.1
      have HRD := Lib.hid rd
      have HRF := Lib.hid rdf
      have i6 : (k : Int) ≤ cn := by omega
      subst hpn hpf
      have f0 := HRD.out ⟨wr, hB⟩
      have x2 : wr.cell? ⟨w.heap.size, 0, none⟩ = some (.slice (some ⟨b, o, none⟩) names.length cn) := heapN_cellj HX.out (k := 0) rfl
      dsimp only at f0
      have x3 := heapN_cellj HX.out (k := 1) rfl
      clear hx hr rd rdf hu hB
      go_wp2_with (fail)
      have k0 := fun g : Grown wr => heapN_cellj ((g.h.block _ (Array.getElem?_eq_some_iff.1 HX.out).1).trans HX.out) (k := 0) rfl
      have k1 := fun g : Grown wr => heapN_cellj ((g.h.block _ (Array.getElem?_eq_some_iff.1 HX.out).1).trans HX.out) (k := 1) rfl
      have u0 := fun g : Grown wr => (HRF.out ⟨g.w, HBr.out.trans (g.h.mono HBr.out.size)⟩).2.1
      dsimp only at u0
      have HBg := Lib.hid (fun g : Grown wr => HBr.out.trans (g.h.mono HBr.out.size))
      clear f0 x2 x3
      refine region_pred (lk [(32, fun z_ _ => z_ = .string s), (33, fun z_ _ => z_ = .bool true), (34, fun z_ _ => z_ = .bool false), (35, fun z_ _ => z_ = .bool false), (36, fun z_ _ => z_ = .pointer (some ⟨w.heap.size, 0, none⟩)), (37, fun z_ _ => z_ = .slice (some ⟨b, o, none⟩) names.length cn), (38, fun z_ _ => z_ = .int .i64 (k : Int)), (39, fun z_ _ => z_ = .slice (some ⟨b, o, none⟩) k cn), (40, fun z_ _ => z_ = .string s), (41, fun z_ _ => z_ = .bool false), (42, fun z_ _ => z_ = .bool false), (43, fun z_ _ => z_ = .bool false), (44, fun z_ _ => z_ = .pointer (some ⟨w.heap.size, 1, none⟩)), (45, fun z_ _ => z_ = .slice (some ⟨bf, of, none⟩) names.length cf), (46, fun z_ _ => z_ = .int .i64 (k : Int)), (47, fun z_ _ => z_ = .pointer (some ⟨bf, of + k, none⟩)), (48, fun z_ _ => z_ = .slice q r.length cu), (49, fun z_ _ => z_ = .pointer (some ⟨w.heap.size, 0, none⟩)), (50, fun z_ _ => z_ = .slice (some ⟨b, o, none⟩) names.length cn), (51, fun z_ _ => z_ = .int .i64 (names.length : Int)), (52, fun z_ _ => z_ = .bool true), (53, fun z_ _ => z_ = .bool false), (54, fun z_ _ => z_ = .bool false)]) (by kernel_rfl) (by kernel_rfl) (lk_steady _ ⟨steady_eq _, steady_eq _, steady_eq _, steady_eq _, steady_eq _, steady_eq _, steady_eq _, steady_eq _, steady_eq _, steady_eq _, steady_eq _, steady_eq _, steady_eq _, steady_eq _, steady_eq _, steady_eq _, steady_eq _, steady_eq _, steady_eq _, steady_eq _, steady_eq _, steady_eq _, steady_eq _, trivial⟩) ?_ ?_
      · refine ⟨?_, ?_, ?_, ?_, ?_, ?_, ?_, ?_, ?_, ?_, ?_, ?_, ?_, ?_, ?_, ?_, ?_, ?_, ?_, ?_, ?_, ?_, ?_, trivial⟩
        · refine ob_plain [4] rfl rfl fun aa g h => ?_
          have yy0 := seen_out (v := .string s) rfl rfl h.1
          have ee0 := getD_of yy0
          exact tupon_value (v := .string s) (by simp [go_sem, ee0, yy0]) (Below.refl _ _) rfl
        · refine ob_plain [32] rfl rfl fun aa g h => ?_
          obtain ⟨_, yy0, rfl⟩ := seen_in rfl h.1
          have ee0 := getD_of yy0
          refine tupon_enter (f := 63) (args := #[.string s]) (by simp [go_sem, ee0, yy0]) rfl ?_
          exact (KN.out g.w).mono fun e w' ⟨he, hB⟩ => ⟨_, he, hB, rfl⟩
        · refine ob_plain [33] rfl rfl fun aa g h => ?_
          obtain ⟨_, yy0, rfl⟩ := seen_in rfl h.1
          have ee0 := getD_of yy0
          exact tupon_value (v := .bool false) (by simp [go_sem, ee0, yy0]) (Below.refl _ _) rfl
        · refine ob_plain [34] rfl rfl fun aa g h => ?_
          obtain ⟨_, yy0, rfl⟩ := seen_in rfl h.1
          have ee0 := getD_of yy0
          exact tupon_value (v := .bool false) (by simp [go_sem, ee0, yy0]) (Below.refl _ _) rfl
        · refine ob_gtrue [1] _ false 35 rfl rfl rfl rfl (fun v w h => h) fun aa g h => ?_
          have yy0 := seen_out (v := .pointer (some ⟨w.heap.size, 0, none⟩)) rfl rfl h.1
          have ee0 := getD_of yy0
          exact tupon_value (v := .pointer (some ⟨w.heap.size, 0, none⟩)) (by simp [go_sem, ee0, yy0]) (Below.refl _ _) rfl
        · refine ob_gtrue [36] _ false 35 rfl rfl rfl rfl (fun v w h => h) fun aa g h => ?_
          obtain ⟨_, yy0, rfl⟩ := seen_in rfl h.1
          have ee0 := getD_of yy0
          exact tupon_value (v := .slice (some ⟨b, o, none⟩) names.length cn) (by simp [go_sem, ee0, yy0, k0 g]) (Below.refl _ _) rfl
        · refine ob_gtrue [3] _ false 35 rfl rfl rfl rfl (fun v w h => h) fun aa g h => ?_
          have yy0 := seen_out (v := .int .i64 (k : Int)) rfl rfl h.1
          have ee0 := getD_of yy0
          exact tupon_value (v := .int .i64 (k : Int)) (by simp [go_sem, ee0, yy0]) (Below.refl _ _) rfl
        · refine ob_gtrue [37, 38] _ false 35 rfl rfl rfl rfl (fun v w h => h) fun aa g h => ?_
          obtain ⟨_, yy0, rfl⟩ := seen_in rfl h.1
          have ee0 := getD_of yy0
          obtain ⟨_, yy1, rfl⟩ := seen_in rfl h.2.1
          have ee1 := getD_of yy1
          exact tupon_value (v := .slice (some ⟨b, o, none⟩) k cn) (by simp [go_sem, ee0, yy0, ee1, yy1, i6]) (Below.refl _ _) rfl
        · refine ob_gtrue [4] _ false 35 rfl rfl rfl rfl (fun v w h => h) fun aa g h => ?_
          have yy0 := seen_out (v := .string s) rfl rfl h.1
          have ee0 := getD_of yy0
          exact tupon_value (v := .string s) (by simp [go_sem, ee0, yy0]) (Below.refl _ _) rfl
        · refine ob_gtrue [39, 40] _ false 35 rfl rfl rfl rfl (fun v w h => h) fun aa g h => ?_
          obtain ⟨_, yy0, rfl⟩ := seen_in rfl h.1
          have ee0 := getD_of yy0
          obtain ⟨_, yy1, rfl⟩ := seen_in rfl h.2.1
          have ee1 := getD_of yy1
          refine tupon_enter (f := 64) (args := #[.slice (some ⟨b, o, none⟩) k cn, .string s]) (by simp [go_sem, ee0, yy0, ee1, yy1]) rfl ?_
          exact (KC.out g.w (NT.out.grow (HBg.out g))).mono fun e w' ⟨he, hB⟩ => ⟨_, he, hB, rfl⟩
        · refine ob_plain [35, 41] rfl rfl fun aa g h => ?_
          obtain ⟨_, yy0, rfl⟩ := seen_in rfl h.1
          have ee0 := getD_of yy0
          obtain ⟨_, yy1, rfl⟩ := seen_in rfl h.2.1
          have ee1 := getD_of yy1
          exact tupon_value (v := .bool false) (by simp [go_sem, ee0, yy0, ee1, yy1]) (Below.refl _ _) rfl
        · refine ob_plain [42] rfl rfl fun aa g h => ?_
          obtain ⟨_, yy0, rfl⟩ := seen_in rfl h.1
          have ee0 := getD_of yy0
          exact tupon_value (v := .bool false) (by simp [go_sem, ee0, yy0]) (Below.refl _ _) rfl
        · refine ob_gtrue [1] _ false 43 rfl rfl rfl rfl (fun v w h => h) fun aa g h => ?_
          have yy0 := seen_out (v := .pointer (some ⟨w.heap.size, 0, none⟩)) rfl rfl h.1
          have ee0 := getD_of yy0
          exact tupon_value (v := .pointer (some ⟨w.heap.size, 1, none⟩)) (by simp [go_sem, ee0, yy0]) (Below.refl _ _) rfl
        · refine ob_gtrue [44] _ false 43 rfl rfl rfl rfl (fun v w h => h) fun aa g h => ?_
          obtain ⟨_, yy0, rfl⟩ := seen_in rfl h.1
          have ee0 := getD_of yy0
          exact tupon_value (v := .slice (some ⟨bf, of, none⟩) names.length cf) (by simp [go_sem, ee0, yy0, k1 g]) (Below.refl _ _) rfl
        · refine ob_gtrue [3] _ false 43 rfl rfl rfl rfl (fun v w h => h) fun aa g h => ?_
          have yy0 := seen_out (v := .int .i64 (k : Int)) rfl rfl h.1
          have ee0 := getD_of yy0
          exact tupon_value (v := .int .i64 (k : Int)) (by simp [go_sem, ee0, yy0]) (Below.refl _ _) rfl
        · refine ob_gtrue [45, 46] _ false 43 rfl rfl rfl rfl (fun v w h => h) fun aa g h => ?_
          obtain ⟨_, yy0, rfl⟩ := seen_in rfl h.1
          have ee0 := getD_of yy0
          obtain ⟨_, yy1, rfl⟩ := seen_in rfl h.2.1
          have ee1 := getD_of yy1
          exact tupon_value (v := .pointer (some ⟨bf, of + k, none⟩)) (by simp [go_sem, ee0, yy0, ee1, yy1, i4]) (Below.refl _ _) rfl
        · refine ob_gtrue [47] _ false 43 rfl rfl rfl rfl (fun v w h => h) fun aa g h => ?_
          obtain ⟨_, yy0, rfl⟩ := seen_in rfl h.1
          have ee0 := getD_of yy0
          exact tupon_value (v := .slice q r.length cu) (by simp [go_sem, ee0, yy0, u0 g]) (Below.refl _ _) rfl
        · refine ob_gtrue [1] _ false 43 rfl rfl rfl rfl (fun v w h => h) fun aa g h => ?_
          have yy0 := seen_out (v := .pointer (some ⟨w.heap.size, 0, none⟩)) rfl rfl h.1
          have ee0 := getD_of yy0
          exact tupon_value (v := .pointer (some ⟨w.heap.size, 0, none⟩)) (by simp [go_sem, ee0, yy0]) (Below.refl _ _) rfl
        · refine ob_gtrue [49] _ false 43 rfl rfl rfl rfl (fun v w h => h) fun aa g h => ?_
          obtain ⟨_, yy0, rfl⟩ := seen_in rfl h.1
          have ee0 := getD_of yy0
          exact tupon_value (v := .slice (some ⟨b, o, none⟩) names.length cn) (by simp [go_sem, ee0, yy0, k0 g]) (Below.refl _ _) rfl
        · refine ob_gtrue [50] _ false 43 rfl rfl rfl rfl (fun v w h => h) fun aa g h => ?_
          obtain ⟨_, yy0, rfl⟩ := seen_in rfl h.1
          have ee0 := getD_of yy0
          exact tupon_value (v := .int .i64 (names.length : Int)) (by simp [go_sem, ee0, yy0]) (Below.refl _ _) rfl
        · refine ob_gtrue [48, 51] _ false 43 rfl rfl rfl rfl (fun v w h => h) fun aa g h => ?_
          obtain ⟨_, yy0, rfl⟩ := seen_in rfl h.1
          have ee0 := getD_of yy0
          obtain ⟨_, yy1, rfl⟩ := seen_in rfl h.2.1
          have ee1 := getD_of yy1
          refine tupon_enter (f := 65) (args := #[.slice q r.length cu, .int .i64 (names.length : Int)]) (by simp [go_sem, ee0, yy0, ee1, yy1]) rfl ?_
          exact (KV.out g.w (UT.out.grow (HBg.out g))).mono fun e w' ⟨he, hB⟩ => ⟨_, he, hB, rfl⟩
        · refine ob_gtrue [52] _ false 43 rfl rfl rfl rfl (fun v w h => h) fun aa g h => ?_
          obtain ⟨_, yy0, rfl⟩ := seen_in rfl h.1
          have ee0 := getD_of yy0
          exact tupon_value (v := .bool false) (by simp [go_sem, ee0, yy0]) (Below.refl _ _) rfl
        · refine ob_plain [43, 53] rfl rfl fun aa g h => ?_
          obtain ⟨_, yy0, rfl⟩ := seen_in rfl h.1
          have ee0 := getD_of yy0
          obtain ⟨_, yy1, rfl⟩ := seen_in rfl h.2.1
          have ee1 := getD_of yy1
          exact tupon_value (v := .bool false) (by simp [go_sem, ee0, yy0, ee1, yy1]) (Below.refl _ _) rfl
      rintro w9 hB9 _ rfl _ rfl _ rfl _ rfl _ rfl _ rfl _ rfl _ rfl _ rfl _ rfl _ rfl _ rfl _ rfl _ rfl _ rfl _ rfl _ rfl _ rfl _ rfl _ rfl _ rfl _ rfl _ rfl
      simp only [Act.put, List.setIfInBounds_toArray, List.set_cons_succ, List.set_cons_zero, List.filterMap_nil, finP]
      have hBn := HBr.out.trans (hB9.mono HBr.out.size)
      have HXn := Lib.hid ((hB9.block _ (Array.getElem?_eq_some_iff.1 HX.out).1).trans HX.out)
      clear k0 k1 u0
      go_wp2_with (fail)
      exact ⟨⟨k + 1, by go_num, by omega, hBn, HXn⟩, by simp [intOf]; omega⟩
    · obtain rfl : k = names.length := by omega
      have i4 : ¬ (names.length : Int) < names.length := by omega
      go_wp2_with (fail)
      go_ret
      exact ⟨rfl, HBr.out⟩
end Go.Proofs.Ytajddejeglhbhaa

namespace Go.Proofs.Ytajddejeglhbhaa
open Go.ChangeShapes Go.WideShapes Go.ChangeAt Go.RowKit Go.Maps
set_option linter.unusedVariables false
set_option linter.unusedSimpArgs false
set_option maxRecDepth 100000
attribute [local irreducible] Calls
theorem Ext.below {B bl bm : Nat} {u u' : Value} {L : List Is} {W W' : World} (E : Ext bl bm u u' W W') (h : LsI B bl bm u L W) (hB : B ≤ W.heap.size) : Below B W W' :=
  ⟨E.os, E.tape, E.output, E.size, fun k hk => E.blk k (by omega) (by have := h.far.1; omega) (by have := h.far.2; omega) (fun e => by have := (h.off e.symm).2.2.1; omega)⟩
theorem row_ext {B' n sz : Nat} {bl bm B : Nat} {u u' v : Value} {L : List Is} {W W' : World} {t : TypeId} {xs : List Value} (hr : W.ownsRow B' t sz v n xs) (E : Ext bl bm u u' W W') (h : LsI B bl bm u L W) (h1 : t ≠ 97) (h2 : t ≠ 59) : W'.ownsRow B' t sz v n xs := by
  refine ⟨hr.1, hr.2.imp id ?_⟩
  rintro ⟨g, cap, cur, e, hg, hh, rest⟩
  exact ⟨g, cap, cur, e, hg, E.typed h hh h1 h2, rest⟩
theorem CmI.app {B bl bm eb lb : Nat} {u r : Value} {L : List Is} {W W' : World} {B' n : Nat} {xs : List Value} (h : CmI B bl bm eb lb u L W) (hr : W.ownsRow B' 3 1 r n xs) (hg : W.grownBy W' r.ownBlock) : CmI B bl bm eb lb u L W' := by
  have key : ∀ k o, W.heap[k]? = some o → (∀ cs z, o ≠ .cells cs 3 z) → some k ≠ r.ownBlock := fun k o hk hne e => by
    rcases id hr.2 with ⟨e1, _⟩ | ⟨g, cap, cur, e1, _, hh, _⟩
    · rw [e1] at e; simp [Value.ownBlock] at e
    · rw [e1] at e
      simp only [Value.ownBlock, Option.some.injEq] at e
      rw [e, hh] at hk
      exact hne _ _ (Option.some.inj hk).symm
  obtain ⟨D, m1, m2⟩ := h.ls.map
  have kb := key bl _ h.ls.blk (fun cs z e => by simp only [Obj.cells.injEq] at e; exact absurd e.2.1 (by decide))
  have km : some bm ≠ r.ownBlock := by
    obtain ⟨es, cl, hm, _⟩ := m1
    exact key bm _ hm (fun cs z e => by cases e)
  have ke := key eb _ h.be (fun cs z e => by simp only [Obj.cells.injEq] at e; exact absurd e.2.1 (by decide))
  have kl := key lb _ h.bb (fun cs z e => by simp only [Obj.cells.injEq] at e; exact absurd e.2.1 (by decide))
  refine ⟨⟨h.ls.far, (hg.block bl h.ls.lt kb).trans h.ls.blk, h.ls.row.kept hg ?_, D, m1.kept hg km, m2⟩, h.be.kept hg ke, h.bb.kept hg kl⟩
  cases e : u.ownBlock with
  | none => exact .inl rfl
  | some g =>
    obtain ⟨_, _, _, _, cur, hc⟩ := h.ls.off e
    exact .inr (fun e2 => key g _ hc (fun cs z e3 => by simp only [Obj.cells.injEq] at e3; exact absurd e3.2.1 (by decide)) e2)
theorem tape_ok (B bl bm : Nat) (u : Value) (L : List Is) (q : Option Addr) (n cq : Nat) (W : World) (h : LsI B bl bm u L W) (hL : L.length ≤ 400) (hn : n ≤ 1000) :
    Calls Try.prog 44 #[.pointer (some ⟨bl, 0, none⟩), .slice q n cq] W fun e w' => e = .returned (.agg #[.int .i64 n, u, .slice q n cq]) ∧ Below W.heap.size W w' := by
  obtain ⟨p, c, rfl⟩ := h.shape
  have hba : Below W.heap.size W (W.alloc (.cells #[.int .i64 0, .slice none 0 0, .slice none 0 0] 25)) := (Below.refl _ _).alloc (Nat.le_refl _) _
  have c0 := (h.grow hba).c0
  have hne : bl ≠ W.heap.size := by have := h.lt; omega
  have i1 : ¬ (400 : Int) < L.length := by omega
  clear h hba
  go_enter Try.func44, Try.ntmps44
  go_wp2_with (fail)
  have hX : (W.alloc (.cells #[.int .i64 n, .slice p L.length c, .slice q n cq] 25)).heap[W.heap.size]? = some (.cells #[.int .i64 n, .slice p L.length c, .slice q n cq] 25 (0, 0)) := World.alloc_heap_new W _
  have x0 := heapN_cell hX (k := 0) rfl
  have x1 := heapN_cell hX (k := 1) rfl
  have x2 := heapN_cell hX (k := 2) rfl
  exact bodyPost_ret (v := .agg #[.int .i64 n, .slice p L.length c, .slice q n cq]) (by simp [results, Try.results44, go_sem, x0, x1, x2]) rfl ⟨rfl, (Below.refl _ _).alloc (Nat.le_refl _) _⟩
/-- The list and the places behind emitting expressions one after the other. -/
def compT : List Ex → List Is → List Is × List Int
  | [], L => (L, [])
  | t :: ts, L => ((compT ts (emitT t L).1).1, ((emitT t L).2 : Int) :: (compT ts (emitT t L).1).2)
theorem compT_app : ∀ (ts us : List Ex) (L : List Is), compT (ts ++ us) L = ((compT us (compT ts L).1).1, (compT ts L).2 ++ (compT us (compT ts L).1).2)
  | [], us, L => rfl
  | t :: ts, us, L => by
    show compT (t :: (ts ++ us)) L = _
    simp only [compT, compT_app ts us (emitT t L).1, List.cons_append]
theorem compT_snoc {ts : List Ex} {k : Nat} {t : Ex} (h : ts[k]? = some t) : compT (ts.take (k + 1)) [] = ((emitT t (compT (ts.take k) []).1).1, (compT (ts.take k) []).2 ++ [((emitT t (compT (ts.take k) []).1).2 : Int)]) := by
  rw [List.take_add_one, h]
  show compT (ts.take k ++ [t]) [] = _
  rw [compT_app]
  rfl
theorem compT_le : ∀ (ts : List Ex) (L : List Is), L.length ≤ (compT ts L).1.length ∧ (compT ts L).2.length = ts.length
  | [], L => ⟨Nat.le_refl _, rfl⟩
  | t :: ts, L => by
    have h := compT_le ts (emitT t L).1
    have h1 := (emitT_len t L).1
    exact ⟨Nat.le_trans h1 h.1, by show (compT ts (emitT t L).1).2.length + 1 = _; rw [h.2]; rfl⟩
theorem compT_take (ts : List Ex) (k : Nat) : (compT (ts.take k) []).1.length ≤ (compT ts []).1.length := by
  have h := compT_app (ts.take k) (ts.drop k) []
  rw [List.take_append_drop] at h
  rw [h]
  exact (compT_le _ _).1
theorem info_int : (Try.prog.info? 3).map (fun i => (i.zero, i.size, i.bytes)) = some (some (.int .i64 0), 1, 8) := by kernel_rfl
end Go.Proofs.Ytajddejeglhbhaa

namespace Go.Proofs.Ytajddejeglhbhaa
open Go.ChangeShapes Go.WideShapes Go.ChangeAt Go.RowKit Go.Maps
set_option linter.unusedVariables false
set_option linter.unusedSimpArgs false
set_option maxRecDepth 100000
attribute [local irreducible] Calls
theorem alloc_sz (w : World) (o : Obj) : (w.alloc o).heap.size = w.heap.size + 1 := Array.size_push _
theorem own_base {B B' n sz : Nat} {W : World} {v : Value} {t : TypeId} {xs : List Value} (h : W.ownsRow B t sz v n xs) (hB : B' ≤ B) : W.ownsRow B' t sz v n xs := by
  refine ⟨h.1, h.2.imp id ?_⟩
  rintro ⟨g, cap, cur, e, hg, rest⟩
  exact ⟨g, cap, cur, e, Nat.le_trans hB hg, rest⟩
theorem own_setT {B n sz X : Nat} {W : World} {v : Value} {t t' : TypeId} {cs : Array Value} {z : Nat × Nat} {xs : List Value} (h : W.ownsRow B t sz v n xs) (hX : W.heap[X]? = some (.cells cs t' z)) (ht : t' ≠ t) (o : Nat) (y : Value) : (W.setCell ⟨X, o, none⟩ y).ownsRow B t sz v n xs := by
  refine h.kept (grownBy_setN W ⟨X, o, none⟩ y) (own_ne fun g hg e => ?_)
  rcases id h.2 with ⟨e1, _⟩ | ⟨g', cap, cur, e1, _, hh, _⟩
  · rw [e1] at hg; simp [Value.ownBlock] at hg
  · rw [e1] at hg
    simp only [Value.ownBlock, Option.some.injEq] at hg
    rw [hg, e, hX] at hh
    simp only [Option.some.injEq, Obj.cells.injEq] at hh
    exact ht hh.2.1
theorem one_i64' (n : Int) : ∀ u ∈ [Value.int .i64 n], u.oneCell' = true := by
  intro u hu
  simp at hu
  subst hu
  rfl
theorem own_ints {B n : Nat} {w : World} {v : Value} {xs : List Value} (h : w.ownsRow B 3 1 v n xs) : ∃ p c, v = .slice p n c := by
  rcases id h.2 with ⟨rfl, h0⟩ | ⟨g, cap, cur, rfl, _⟩
  · have h1 := h.1
    rw [h0] at h1
    subst h0
    exact ⟨none, 0, rfl⟩
  · exact ⟨_, _, rfl⟩
set_option maxHeartbeats 16000000 in
theorem compile_ok (pn : Option Addr) (cn : Nat) (vf : Value) (names : List ByteArray) (ts : List Ex) (w : World) (hn : Sx w (.slice pn names.length cn) names) (hc : names.length ≤ cn) (hf : Lx NxO w vf (ts.map pre)) (hs : SyV names (ts.map pre)) (ha : ∀ t ∈ ts, Ar t) (hw : ∀ t ∈ ts, ∀ y ∈ pre t, NW y) (hL : (compT ts []).1.length ≤ 400) :
    Calls Try.prog 17 #[.agg #[.slice pn names.length cn, vf]] w fun e w' => ∃ u r, e = .returned (.agg #[.int .i64 ts.length, u, r]) ∧ w'.ownsRow w.heap.size 59 5 u (compT ts []).1.length (cr encI (compT ts []).1) ∧ w'.ownsRow w.heap.size 3 1 r ts.length ((compT ts []).2.map (fun x => Value.int .i64 x)) ∧ Below w.heap.size w w' := by
  obtain ⟨i0, hi, hz0, hz1, hz2⟩ := info_parts info_int
  obtain ⟨pf, cf, rfl⟩ := hf.cut
  have h1 := hs.pos
  have h2 := hs.le
  have h3 := hs.len
  have h4 : ts.length = names.length := by rw [← h3, List.length_map]
  rw [h3] at hf ⊢
  rw [h4]
  have hba : Below w.heap.size w ((w.alloc (.cells #[.slice pn names.length cn, .slice pf names.length cf] 38)).alloc (.cells #[.int .i64 0, .slice none 0 0, .slice none 0 0] 25)) := ((Below.refl _ _).alloc (Nat.le_refl _) _).alloc (by rw [alloc_sz]; omega) _
  have hX : ((w.alloc (.cells #[.slice pn names.length cn, .slice pf names.length cf] 38)).alloc (.cells #[.int .i64 0, .slice none 0 0, .slice none 0 0] 25)).heap[w.heap.size]? = some (.cells #[.slice pn names.length cn, .slice pf names.length cf] 38 (0, 0)) := (((Below.refl _ (w.alloc (.cells #[.slice pn names.length cn, .slice pf names.length cf] 38))).alloc (Nat.le_refl _) _).block _ (by rw [alloc_sz]; omega)).trans (World.alloc_heap_new w _)
  have hY : ((w.alloc (.cells #[.slice pn names.length cn, .slice pf names.length cf] 38)).alloc (.cells #[.int .i64 0, .slice none 0 0, .slice none 0 0] 25)).heap[w.heap.size + 1]? = some (.cells #[.int .i64 0, .slice none 0 0, .slice none 0 0] 25 (0, 0)) := by
    have := World.alloc_heap_new (w.alloc (.cells #[.slice pn names.length cn, .slice pf names.length cf] 38)) (.cells #[.int .i64 0, .slice none 0 0, .slice none 0 0] 25)
    rwa [alloc_sz] at this
  have x0 : ((w.alloc (.cells #[.slice pn names.length cn, .slice pf names.length cf] 38)).alloc (.cells #[.int .i64 0, .slice none 0 0, .slice none 0 0] 25)).cell? ⟨w.heap.size, 0, none⟩ = _ := heapN_cellj hX (k := 0) rfl
  have x1 : ((w.alloc (.cells #[.slice pn names.length cn, .slice pf names.length cf] 38)).alloc (.cells #[.int .i64 0, .slice none 0 0, .slice none 0 0] 25)).cell? ⟨w.heap.size, 1, none⟩ = _ := heapN_cellj hX (k := 1) rfl
  have KV := Lib.hid (fun w a b => valid_ok pn cn (.slice pf names.length cf) names (ts.map pre) w a hc b hs)
  have HN := Lib.hid hn
  have HF := Lib.hid hf
  have HS := Lib.hid hs
  have HX := Lib.hid hX
  have HY := Lib.hid hY
  have HB := Lib.hid hba
  have H4 := Lib.hid h4
  have HA := Lib.hid ha
  have HW := Lib.hid hw
  have HL := Lib.hid hL
  have HC := Lib.hid hc
  clear hn hf hs hba hX hY h3 h4 ha hw hL hc
  go_enter Try.func17, Try.ntmps17
  go_wp2_with (fail)
  refine (KV.out _ (HN.out.grow HB.out) (HF.out.grow grows_nxo HB.out)).mono ?_
  rintro e w1 ⟨rfl, hB1⟩
  have hB01 := below_then HB.out hB1
  have X1 := Lib.hid ((hB1.block _ (Array.getElem?_eq_some_iff.1 HX.out).1).trans HX.out)
  have Y1 := Lib.hid ((hB1.block _ (Array.getElem?_eq_some_iff.1 HY.out).1).trans HY.out)
  have hsz : w.heap.size + 1 < w1.heap.size := (Array.getElem?_eq_some_iff.1 Y1.out).1
  have HB1 := Lib.hid hB01
  clear hB1 hB01 KV HB HX HY x0 x1
  go_wp2_with (fail)
  refine (newlist_ok w1).mono ?_
  rintro e w2 ⟨bl, bm, rfl, hl2, hB2⟩
  have hbl := hl2.lt
  have hbm := hl2.mlt
  have hs2 := hB2.size
  have HL2 := Lib.hid hl2
  have HB2 := Lib.hid hB2
  have q1 := heapN_cellj ((hB2.block _ (show w.heap.size < w1.heap.size by omega)).trans X1.out) (k := 1) rfl
  clear hl2 hB2
  have hs3 : w.heap.size < w2.heap.size := by omega
  go_wp2_with (fail)
  have hC4 : CmI w1.heap.size bl bm (w2.heap.size + 1) w2.heap.size (.slice none 0 0) [] ((w2.alloc (.cells #[.pointer (some ⟨bl, 0, none⟩)] 74)).alloc (.cells #[.func (.func 41) #[] #[.pointer (some ⟨w2.heap.size + 1, 0, none⟩), .pointer (some ⟨w2.heap.size, 0, none⟩)]] 76)) ∧ Below w2.heap.size w2 ((w2.alloc (.cells #[.pointer (some ⟨bl, 0, none⟩)] 74)).alloc (.cells #[.func (.func 41) #[] #[.pointer (some ⟨w2.heap.size + 1, 0, none⟩), .pointer (some ⟨w2.heap.size, 0, none⟩)]] 76)) := by
    have b1 : Below w2.heap.size w2 (w2.alloc (.cells #[.pointer (some ⟨bl, 0, none⟩)] 74)) := (Below.refl _ _).alloc (Nat.le_refl _) _
    have b2 : Below (w2.alloc (.cells #[.pointer (some ⟨bl, 0, none⟩)] 74)).heap.size (w2.alloc (.cells #[.pointer (some ⟨bl, 0, none⟩)] 74)) ((w2.alloc (.cells #[.pointer (some ⟨bl, 0, none⟩)] 74)).alloc (.cells #[.func (.func 41) #[] #[.pointer (some ⟨w2.heap.size + 1, 0, none⟩), .pointer (some ⟨w2.heap.size, 0, none⟩)]] 76)) := (Below.refl _ _).alloc (Nat.le_refl _) _
    have n1 := World.alloc_heap_new w2 (.cells #[.pointer (some ⟨bl, 0, none⟩)] 74)
    have n2 := World.alloc_heap_new (w2.alloc (.cells #[.pointer (some ⟨bl, 0, none⟩)] 74)) (.cells #[.func (.func 41) #[] #[.pointer (some ⟨w2.heap.size + 1, 0, none⟩), .pointer (some ⟨w2.heap.size, 0, none⟩)]] 76)
    rw [alloc_sz] at n2
    exact ⟨⟨(HL2.out.grow b1).grow (b2.mono (Nat.le_refl _)), n2, (b2.block w2.heap.size (by rw [alloc_sz]; omega)).trans n1⟩, below_then b1 b2⟩
  have HC4 := Lib.hid hC4.1
  have HB4 := Lib.hid (below_then HB2.out hC4.2)
  clear hC4
  go_loopw [5, 17] (fun v i wr => ∃ (k : Nat) (u : Value), i = .int .i64 k ∧ k ≤ names.length ∧ CmI w1.heap.size bl bm (w2.heap.size + 1) w2.heap.size u (compT (ts.take k) []).1 wr ∧ wr.ownsRow w1.heap.size 3 1 v k ((compT (ts.take k) []).2.map (fun x => Value.int .i64 x)) ∧ Below w1.heap.size w1 wr) (fun v i _ => names.length - (intOf i).toNat)
  case atStart => exact ⟨0, .slice none 0 0, rfl, Nat.zero_le _, HC4.out, World.ownsRow_nil _ _ _ _, HB4.out⟩
  case round =>
    clear HC4 HB4 HL2 HB2 q1
    obtain ⟨k, u, rfl, hk, hcm, hrow, hB⟩ := hrel
    obtain ⟨pv, cv, rfl⟩ := own_ints hrow
    have HBr := Lib.hid hB
    have HCM := Lib.hid hcm
    have HR := Lib.hid hrow
    by_cases hlt : k < names.length
    · have i4 : (k : Int) < names.length := by omega
      obtain ⟨t, ht⟩ : ∃ t, ts[k]? = some t := ⟨_, List.getElem?_eq_getElem (by rw [H4.out]; exact hlt)⟩
      have hr : (ts.map pre)[k]? = some (pre t) := by rw [List.getElem?_map, ht]; rfl
      obtain ⟨bf, of, uu, hpf, hbf, rdf⟩ := HF.out.rd grows_nxo hr
      subst hpf
      have hBw : Below w.heap.size w wr := HB1.out.trans (hB.mono HB1.out.size)
      obtain ⟨f0, f1, f2⟩ := rdf ⟨wr, hBw⟩
      dsimp only at f1 f2
      have htm := List.mem_of_getElem? ht
      have hsn := compT_snoc ht
      have hl1 := compT_take ts k
      have hl2 := veB_len (HS.out.ex _ (List.mem_of_getElem? hr))
      have hl3 := HL.out
      have KE := Lib.hid (emit_ok w1.heap.size bl bm (w2.heap.size + 1) w2.heap.size t (HA.out t htm) (HW.out t htm) (by omega) u (compT (ts.take k) []).1 wr uu hcm f2 (by omega))
      have k0 := hcm.be.cell
      have HSN := Lib.hid hsn
      have hsr := hB.size
      dsimp only at f0
      clear f2 hr rdf ht htm hsn hl1 hl2 hl3 hcm hrow hB
      go_wp2_with (fail)
      refine KE.out.mono ?_
      rintro e w5 ⟨u5, rfl, hc5, he5⟩
      have hB5 := he5.below HCM.out.ls hsr
      have hrow5 := row_ext HR.out he5 HCM.out.ls (by decide) (by decide)
      have hs5 := hB5.size
      have HC5 := Lib.hid hc5
      have HR5 := Lib.hid hrow5
      have HB5 := Lib.hid hB5
      clear KE k0 hc5 he5 hB5 hrow5
      go_wp2_with (at_builtin; refine wpList_append_own _ rfl (.tmp 21) (.tmp 25) 23 rfl w1.heap.size 3 i0 (.int .i64 0) 1 8 Try.underlying23 hi hz0 hz1 hz2 rfl (by decide) (.slice pv k cv) k _ rfl (own_keptN HR5.out ((Below.refl _ _).alloc (Nat.le_refl _) _)) ⟨w5.heap.size, 0, none⟩ 1 1 [.int .i64 (emitT t (compT (ts.take k) []).1).2] rfl rfl (new_one _ _ _) (one_i64' _) (by unfold maxLen; omega) (by omega) (by rw [alloc_sz]; omega) ?_)
      intro v' w6 hown' hgrow _
      have hba : Below w5.heap.size w5 (w5.alloc (.cells #[.int .i64 (emitT t (compT (ts.take k) []).1).2] 3)) := (Below.refl _ _).alloc (Nat.le_refl _) _
      have hrow6 := own_keptN HR5.out hba
      have hc6 := (HC5.out.grow hba).app hrow6 hgrow
      have hB6 : Below w1.heap.size w1 w6 := Below.grown ((HBr.out.trans HB5.out).trans (hba.mono (by omega))) hgrow (by rw [alloc_sz]; omega) (fun j hj => (hrow6.lt j hj).1)
      obtain ⟨p', c', rfl⟩ := own_ints hown'
      have HC6 := Lib.hid hc6
      have HR6 := Lib.hid hown'
      have HB6 := Lib.hid hB6
      clear hba hrow6 hc6 hB6 hown' hgrow
      go_wp2_with (fail)
      go_roundw
      case rel =>
        refine ⟨k + 1, u5, by go_num, by omega, ?_, ?_, HB6.out⟩
        · rw [HSN.out]; exact HC6.out
        · rw [HSN.out]
          simpa using HR6.out
      case measure => simp [intOf]; omega
    · obtain rfl : k = names.length := by omega
      have i4 : ¬ (names.length : Int) < names.length := by omega
      have htk : ts.take names.length = ts := by rw [← H4.out]; exact List.take_length
      rw [htk] at HCM HR
      obtain ⟨pu, cu, rfl⟩ := HCM.out.ls.shape
      have k0 := HCM.out.bb.cell
      have KT := Lib.hid (tape_ok w1.heap.size bl bm (.slice pu (compT ts []).1.length cu) (compT ts []).1 pv names.length cv wr HCM.out.ls HL.out (by omega))
      have HYr := (HBr.out.block _ hsz).trans Y1.out
      have hsr := HBr.out.size
      go_wp2_with (fail)
      refine KT.out.mono ?_
      rintro e w5 ⟨rfl, hB5⟩
      have hy5 := (hB5.block _ (show w.heap.size + 1 < wr.heap.size by omega)).trans HYr
      have z0 : w5.frozen? ⟨w.heap.size + 1, 0, none⟩ = false := by simp [World.frozen?, hy5]
      have z1 : w5.frozen? ⟨w.heap.size + 1, 1, none⟩ = false := by simp [World.frozen?, hy5]
      have z2 : w5.frozen? ⟨w.heap.size + 1, 2, none⟩ = false := by simp [World.frozen?, hy5]
      have x0 := heapN_cellj hy5 (k := 0) rfl
      have x1 := heapN_cellj hy5 (k := 1) rfl
      have x2 := heapN_cellj hy5 (k := 2) rfl
      have HR5 := Lib.hid (own_keptN HR.out hB5)
      have HU5 := Lib.hid (own_keptN HCM.out.ls.row hB5)
      have HB5 := Lib.hid hB5
      have hy6 := Lib.hid hy5
      clear hB5 hy5 KT HYr
      go_wp2_with (fail)
      have hs0 := cellsT_setN (o := 0) (u := .int .i64 names.length) hy6.out
      have hs1 := cellsT_setN (o := 1) (u := .slice pu (compT ts []).1.length cu) hs0
      have hs2 := cellsT_setN (o := 2) (u := .slice pv names.length cv) hs1
      have y0 := heapN_cellj hs2 (k := 0) (u := .int .i64 names.length) rfl
      have y1 := heapN_cellj hs2 (k := 1) (u := .slice pu (compT ts []).1.length cu) rfl
      have y2 := heapN_cellj hs2 (k := 2) (u := .slice pv names.length cv) rfl
      have hsz1 : w.heap.size ≤ w1.heap.size := by omega
      exact bodyPost_ret (v := .agg #[.int .i64 names.length, .slice pu (compT ts []).1.length cu, .slice pv names.length cv]) (by simp [results, Try.results17, go_sem, y0, y1, y2]) rfl ⟨_, _, rfl, own_base (own_setT (own_setT (own_setT HU5.out hy6.out (by decide) _ _) hs0 (by decide) _ _) hs1 (by decide) _ _) hsz1, own_base (own_setT (own_setT (own_setT HR5.out hy6.out (by decide) _ _) hs0 (by decide) _ _) hs1 (by decide) _ _) hsz1, (((HB1.out.trans ((HBr.out.trans (HB5.out.mono hsr)).mono hsz1)).setCell (p := ⟨w.heap.size + 1, 0, none⟩) (by dsimp only; omega) _).setCell (p := ⟨w.heap.size + 1, 1, none⟩) (by dsimp only; omega) _).setCell (p := ⟨w.heap.size + 1, 2, none⟩) (by dsimp only; omega) _⟩
end Go.Proofs.Ytajddejeglhbhaa
