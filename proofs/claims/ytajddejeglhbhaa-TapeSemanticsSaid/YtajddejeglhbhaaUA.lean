/-
  Package tape: the closure of Optimize.
  Package tape: Optimize.
-/
import Derived.Test.YtajddejeglhbhaaU9
import Derived.Laws.EntriesVeiled
namespace Go.Proofs.Ytajddejeglhbhaa
open Go.ChangeShapes Go.WideShapes Go.ChangeAt Go.RowKit Go.Maps
set_option linter.unusedVariables false
set_option linter.unusedSimpArgs false
set_option maxRecDepth 100000
attribute [local irreducible] Calls
/-- What the closure finds: the list, the map, the variables. -/
structure OpI (w0 : World) (B bl bm mb eb cb lb ob : Nat) (C : Array Value) (n : Nat) (u : Value) (T : List Is) (M : Int → Option Nat) (W : World) : Prop where
  ls : LsI B bl bm u T W
  mp : MpI mb n M W
  be : Boxed W eb 60 (.func (.func 46) #[] #[.pointer (some ⟨ob, 0, none⟩), .pointer (some ⟨cb, 0, none⟩), .pointer (some ⟨eb, 0, none⟩), .pointer (some ⟨lb, 0, none⟩)])
  bo : Boxed W ob 81 (.map (some mb))
  bb : Boxed W lb 74 (.pointer (some ⟨bl, 0, none⟩))
  tp : W.heap[cb]? = some (.cells C 25 (0, 0))
  bel : Below w0.heap.size w0 W
  ne : mb ≠ bm
  far : w0.heap.size ≤ B ∧ w0.heap.size ≤ mb
/-- What the closure leaves. -/
structure ExtO (bl bm mb : Nat) (u u' : Value) (W W' : World) : Prop where
  size : W.heap.size ≤ W'.heap.size
  blk : ∀ k, k < W.heap.size → k ≠ bl → k ≠ bm → k ≠ mb → some k ≠ u.ownBlock → W'.heap[k]? = W.heap[k]?
  own : ∀ g, u'.ownBlock = some g → u.ownBlock = some g ∨ W.heap.size ≤ g
theorem MpI.at {mb n : Nat} {M : Int → Option Nat} {W W' : World} (h : MpI mb n M W) (e : W'.heap[mb]? = W.heap[mb]?) : MpI mb n M W' := by
  obtain ⟨D, ⟨es, cl, hb, r1, r2, r3⟩, h2⟩ := h
  exact ⟨D, ⟨es, cl, e.trans hb, r1, r2, r3⟩, h2⟩
theorem MpI.blk {mb n : Nat} {M : Int → Option Nat} {W : World} (h : MpI mb n M W) : ∃ es cl, W.heap[mb]? = some (.map es cl) := by
  obtain ⟨D, ⟨es, cl, hb, _⟩, _⟩ := h
  exact ⟨es, cl, hb⟩
theorem ExtO.of {bl bm mb : Nat} {u : Value} {W W' : World} (h : Below W.heap.size W W') : ExtO bl bm mb u u W W' :=
  ⟨h.size, fun k hk _ _ _ _ => h.block k hk, fun _ h => .inl h⟩
theorem ExtO.ofE {bl bm mb : Nat} {u u' : Value} {W W' : World} (h : Ext bl bm u u' W W') : ExtO bl bm mb u u' W W' :=
  ⟨h.size, fun k hk h1 h2 _ h3 => h.blk k hk h1 h2 h3, h.own⟩
theorem ExtO.ofM {bl bm mb : Nat} {u : Value} {W W' : World} (h : W.grownBy W' (some mb)) : ExtO bl bm mb u u W W' :=
  ⟨h.size, fun k hk _ _ h3 _ => h.block k hk (fun e => h3 (Option.some.inj e)), fun _ h => .inl h⟩
theorem ExtO.trans {bl bm mb : Nat} {u u' u'' : Value} {W W' W'' : World} (h : ExtO bl bm mb u u' W W') (k : ExtO bl bm mb u' u'' W' W'') : ExtO bl bm mb u u'' W W'' :=
  ⟨Nat.le_trans h.size k.size, fun j hj h1 h2 h4 h3 => (k.blk j (Nat.lt_of_lt_of_le hj h.size) h1 h2 h4 (fun e => by
    rcases h.own j e.symm with h5 | h5
    · exact h3 h5.symm
    · omega)).trans (h.blk j hj h1 h2 h4 h3), fun g hg => by
    rcases k.own g hg with h5 | h5
    · exact h.own g h5
    · exact .inr (Nat.le_trans h.size h5)⟩
theorem ExtO.local {bl bm mb : Nat} {u u' : Value} {W W' : World} (E : ExtO bl bm mb u u' W W') {k : Nat} {o : Obj} (hk : W.heap[k]? = some o) (h1 : k ≠ bl) (h2 : k ≠ bm) (h4 : k ≠ mb) (h3 : ∀ g, u.ownBlock = some g → g ≠ k) : W'.heap[k]? = some o :=
  (E.blk k (Array.getElem?_eq_some_iff.1 hk).1 h1 h2 h4 (fun e => h3 k e.symm rfl)).trans hk
theorem ExtO.newset {bl bm mb : Nat} {u u' : Value} {W W' : World} (h : ExtO bl bm mb u u' W W') {X : Nat} (hX : W.heap.size ≤ X) (o : Nat) (v : Value) : ExtO bl bm mb u u' W (W'.setCell ⟨X, o, none⟩ v) :=
  have hg := grownBy_setN W' ⟨X, o, none⟩ v
  ⟨Nat.le_trans h.size hg.size, fun k hk h1 h2 h4 h3 => (hg.block k (Nat.lt_of_lt_of_le hk h.size) (fun e => by have := Option.some.inj e; dsimp only at this; omega)).trans (h.blk k hk h1 h2 h4 h3), h.own⟩
section
variable {w0 : World} {B bl bm mb eb cb lb ob : Nat} {C : Array Value} {n : Nat} {u u' : Value} {T T' : List Is} {M M' : Int → Option Nat} {W W' : World}
theorem OpI.grow (h : OpI w0 B bl bm mb eb cb lb ob C n u T M W) (hB : Below W.heap.size W W') : OpI w0 B bl bm mb eb cb lb ob C n u T M W' :=
  have hg := grown_belowN hB
  ⟨h.ls.grow hB, h.mp.at (hB.block mb h.mp.lt), h.be.kept hg (by simp), h.bo.kept hg (by simp), h.bb.kept hg (by simp), (hB.block cb (Array.getElem?_eq_some_iff.1 h.tp).1).trans h.tp, h.bel.trans (hB.mono h.bel.size), h.ne, h.far⟩
theorem OpI.sep (h : OpI w0 B bl bm mb eb cb lb ob C n u T M W) : mb ≠ bl ∧ mb ≠ eb ∧ mb ≠ ob ∧ mb ≠ lb ∧ mb ≠ cb ∧ (∀ g, u.ownBlock = some g → g ≠ mb) := by
  obtain ⟨es, cl, hb⟩ := h.mp.blk
  have key : ∀ {k : Nat} {cs : Array Value} {t : TypeId} {z : Nat × Nat}, W.heap[k]? = some (.cells cs t z) → mb ≠ k := fun h1 e => by
    rw [← e, hb] at h1
    cases h1
  exact ⟨key h.ls.blk, key h.be, key h.bo, key h.bb, key h.tp, fun g hg e => by
    obtain ⟨_, _, _, _, cur, hc⟩ := h.ls.off hg
    exact key hc e.symm⟩
theorem OpI.ext (h : OpI w0 B bl bm mb eb cb lb ob C n u T M W) (h6 : LsI B bl bm u' T' W') (E : Ext bl bm u u' W W') : OpI w0 B bl bm mb eb cb lb ob C n u' T' M W' := by
  have hs := h.sep
  have hls := h.ls
  have hB : B ≤ W.heap.size := by have := hls.far; have := hls.lt; omega
  exact ⟨h6, h.mp.at (E.blk mb h.mp.lt hs.1 h.ne (fun e => hs.2.2.2.2.2 mb e.symm rfl)), boxed_ext h.be E hls (by decide) (by decide), boxed_ext h.bo E hls (by decide) (by decide), boxed_ext h.bb E hls (by decide) (by decide), E.typed hls h.tp (by decide) (by decide), h.bel.trans ((E.below hls hB).mono h.far.1), h.ne, h.far⟩
theorem OpI.put (h : OpI w0 B bl bm mb eb cb lb ob C n u T M W) {n' : Nat} (hm : MpI mb n' M' W') (hg : W.grownBy W' (some mb)) : OpI w0 B bl bm mb eb cb lb ob C n' u T M' W' := by
  have hs := h.sep
  have hls := h.ls
  have key : ∀ {k : Nat} {o : Obj}, W.heap[k]? = some o → mb ≠ k → W'.heap[k]? = some o := fun h1 h2 => (hg.block _ (Array.getElem?_eq_some_iff.1 h1).1 (fun e => h2 (Option.some.inj e).symm)).trans h1
  obtain ⟨D, m1, m2⟩ := hls.map
  exact ⟨⟨hls.far, key hls.blk hs.1, hls.row.kept hg (own_ne fun g hg' => hs.2.2.2.2.2 g hg'), D, m1.kept hg (fun e => h.ne (Option.some.inj e).symm), m2⟩, hm, key h.be hs.2.1, key h.bo hs.2.2.1, key h.bb hs.2.2.2.1, key h.tp hs.2.2.2.2.1, h.bel.trans ⟨hg.os, hg.tape, hg.output, hg.size, fun k hk => hg.block k (Nat.lt_of_lt_of_le hk h.bel.size) (fun e => by have := Option.some.inj e; have := h.far.2; omega)⟩, h.ne, h.far⟩
theorem OpI.set (h : OpI w0 B bl bm mb eb cb lb ob C n u T M W) {X : Nat} {cs : Array Value} {z : Nat × Nat} (hX : W.heap[X]? = some (.cells cs 59 z)) (hw : w0.heap.size ≤ X) (o : Nat) (v : Value) (h1 : X ≠ bl) (h2 : X ≠ bm) (h3 : ∀ g, u.ownBlock = some g → g ≠ X) : OpI w0 B bl bm mb eb cb lb ob C n u T M (W.setCell ⟨X, o, none⟩ v) := by
  obtain ⟨es, cl, hb⟩ := h.mp.blk
  have hg := grownBy_setN W ⟨X, o, none⟩ v
  have hmx : mb ≠ X := fun e => by rw [e, hX] at hb; cases hb
  have hcx : cb ≠ X := fun e => by
    have h4 := h.tp
    rw [e, hX] at h4
    simp only [Option.some.injEq, Obj.cells.injEq] at h4
    exact absurd h4.2.1 (by decide)
  exact ⟨h.ls.set o v h1 h2 h3, h.mp.at (hg.block mb h.mp.lt (fun e => hmx (Option.some.inj e))), h.be.kept hg (fun e => boxed_ne h.be hX (by decide) (Option.some.inj e).symm), h.bo.kept hg (fun e => boxed_ne h.bo hX (by decide) (Option.some.inj e).symm), h.bb.kept hg (fun e => boxed_ne h.bb hX (by decide) (Option.some.inj e).symm), (hg.block cb (Array.getElem?_eq_some_iff.1 h.tp).1 (fun e => hcx (Option.some.inj e))).trans h.tp, h.bel.setCell (p := ⟨X, o, none⟩) hw v, h.ne, h.far⟩
theorem px_exto {m c : Nat} {p : Option Addr} {l : List Int} (h : Px W (.slice p m c) l) (hp : ∀ a : Addr, p = some a → a.block < W.heap.size ∧ a.block ≠ bl ∧ a.block ≠ bm ∧ a.block ≠ mb ∧ some a.block ≠ u.ownBlock) (E : ExtO bl bm mb u u' W W') : Px W' (.slice p m c) l := by
  obtain ⟨h1, q, c', e, h2⟩ := h
  simp only [Value.slice.injEq] at e
  obtain ⟨rfl, rfl, rfl⟩ := e
  refine ⟨h1, _, _, rfl, fun i x hx => ?_⟩
  obtain ⟨b, o, rfl, h3, h4⟩ := h2 i x hx
  obtain ⟨g1, g2, g3, g4, g5⟩ := hp _ rfl
  have hb := E.blk b g1 g2 g3 g4 g5
  exact ⟨b, o, rfl, Nat.lt_of_lt_of_le h3 E.size, fun j v hv => (World.cell?_of_block (a := ⟨b, o + i * 1 + j, none⟩) hb).trans (h4 j v hv)⟩
end
/-- What the closure does with instruction i, whose expression is t. -/
def EmO (w0 : World) (B bl bm mb eb cb lb ob : Nat) (C : Array Value) (L : List Is) (i : Nat) (t : Ex) : Prop := ∀ (n : Nat) (u : Value) (T : List Is) (M : Int → Option Nat) (W : World), OpI w0 B bl bm mb eb cb lb ob C n u T M W → KM L T M → n ≤ cntM M L.length → Calls Try.prog 46 #[.int .i64 i, .pointer (some ⟨ob, 0, none⟩), .pointer (some ⟨cb, 0, none⟩), .pointer (some ⟨eb, 0, none⟩), .pointer (some ⟨lb, 0, none⟩)] W fun e w' => ∃ (n' : Nat) (u' : Value) (M' : Int → Option Nat), e = .returned (.int .i64 (emitT t T).2) ∧ OpI w0 B bl bm mb eb cb lb ob C n' u' (emitT t T).1 M' w' ∧ KM L (emitT t T).1 M' ∧ n' ≤ cntM M' L.length ∧ (∀ j : Int, i < j → M' j = M j) ∧ ExtO bl bm mb u u' W w'
theorem iw_of {N k : Int} {x : Is} (h : vinB k N x = true) (hk : k ≤ 100000) (hN : N ≤ 6) : IW x := by
  have h1 := vin_cases h
  have h2 := ops_cases h
  obtain ⟨op, a, b, lo, hi⟩ := x
  dsimp only at h1 h2
  unfold vinB ixB at h
  dsimp only at h
  unfold IW W64
  dsimp only
  split at h
  · simp only [Bool.and_eq_true, decide_eq_true_eq] at h
    obtain ⟨ha, hb, hv⟩ := h
    unfold VI Ent Num at hv
    omega
  · split at h
    · simp only [Bool.and_eq_true, decide_eq_true_eq] at h
      omega
    · split at h
      · simp only [Bool.and_eq_true, decide_eq_true_eq] at h
        omega
      · split at h
        · simp only [Bool.and_eq_true, decide_eq_true_eq] at h
          omega
        · split at h
          · simp only [Bool.and_eq_true, decide_eq_true_eq] at h
            omega
          · cases h
set_option maxHeartbeats 8000000 in
theorem oe_hit (w0 : World) (B bl bm mb eb cb lb ob : Nat) (nv vo : Value) (pl : Option Addr) (cl : Nat) (L : List Is) (N : Int) (hl : Ix w0 (.slice pl L.length cl) L) (h400 : L.length ≤ 400) (hN : N ≤ 6) (hvl : VL N L) (i : Nat) (hiL : i < L.length) (n : Nat) (u : Value) (T : List Is) (M : Int → Option Nat) (W : World) (hd : OpI w0 B bl bm mb eb cb lb ob #[nv, .slice pl L.length cl, vo] n u T M W) (hk : KM L T M) (hn : n ≤ cntM M L.length) (k : Nat) (hM : M i = some k) : Calls Try.prog 46 #[.int .i64 i, .pointer (some ⟨ob, 0, none⟩), .pointer (some ⟨cb, 0, none⟩), .pointer (some ⟨eb, 0, none⟩), .pointer (some ⟨lb, 0, none⟩)] W fun e w' => ∃ (n' : Nat) (u' : Value) (M' : Int → Option Nat), e = .returned (.int .i64 (emitT (trL L L.length i) T).2) ∧ OpI w0 B bl bm mb eb cb lb ob #[nv, .slice pl L.length cl, vo] n' u' (emitT (trL L L.length i) T).1 M' w' ∧ KM L (emitT (trL L L.length i) T).1 M' ∧ n' ≤ cntM M' L.length ∧ (∀ j : Int, i < j → M' j = M j) ∧ ExtO bl bm mb u u' W w' := by
  rw [rep_emit hk.nd (hk.memo _ _ hM)]
  obtain ⟨a, hlk, ha⟩ := hd.mp.look (i := i) (by unfold W64; omega)
  rw [ha k hM, hM] at hlk
  simp only [Option.isSome_some] at hlk
  have c0 := hd.bo.cell
  have HD := Lib.hid hd
  have HK := Lib.hid hk
  have HN := Lib.hid hn
  clear hd hk hn ha hl hvl hM
  go_enter Try.func46, Try.ntmps46
  go_wp2_with (fail)
  go_ret
  exact ⟨n, u, M, rfl, HD.out, HK.out, HN.out, fun _ _ => rfl, .of (Below.refl _ _)⟩
theorem px_drew {m c : Nat} {p : Option Addr} {l : List Int} {W : World} (h : Px W (.slice p m c) l) : Px W.drew (.slice p m c) l := h.grow ((Below.refl _ _).drew)
theorem size_setN (W : World) (a : Addr) (v : Value) : (W.setCell a v).heap.size = W.heap.size := by
  show (W.heap.modify _ _).size = _
  exact Array.size_modify
theorem px_set {m c : Nat} {p : Option Addr} {l : List Int} {W : World} (h : Px W (.slice p m c) l) {X o : Nat} {y : Value} (hp : ∀ a : Addr, p = some a → a.block ≠ X) : Px (W.setCell ⟨X, o, none⟩ y) (.slice p m c) l := by
  obtain ⟨h1, q, c', e, h2⟩ := h
  simp only [Value.slice.injEq] at e
  obtain ⟨rfl, rfl, rfl⟩ := e
  refine ⟨h1, _, _, rfl, fun i x hx => ?_⟩
  obtain ⟨b, o', rfl, h3, h4⟩ := h2 i x hx
  have hb := (grownBy_setN W ⟨X, o, none⟩ y).block b h3 (fun e => hp _ rfl (Option.some.inj e))
  exact ⟨b, o', rfl, by rw [size_setN]; exact h3, fun j v hv => (World.cell?_of_block (a := ⟨b, o' + i * 1 + j, none⟩) hb).trans (h4 j v hv)⟩
set_option maxHeartbeats 32000000 in
theorem oe_0 (w0 : World) (B bl bm mb eb cb lb ob : Nat) (nv vo : Value) (pl : Option Addr) (cl : Nat) (L : List Is) (N : Int) (hl : Ix w0 (.slice pl L.length cl) L) (h400 : L.length ≤ 400) (hN : N ≤ 6) (hvl : VL N L) (i : Nat) (op a b lo hi : Int) (hx : L[i]? = some ⟨op, a, b, lo, hi⟩) (hops : opsI ⟨op, a, b, lo, hi⟩ = []) (he : (⟨op, a, b, lo, hi⟩ : Is) = ⟨op, (ndI ⟨op, a, b, lo, hi⟩).n, 0, lo, hi⟩) (ht : trL L L.length i = .e0 (ndI ⟨op, a, b, lo, hi⟩)) (n : Nat) (u : Value) (T : List Is) (M : Int → Option Nat) (W : World) (hd : OpI w0 B bl bm mb eb cb lb ob #[nv, .slice pl L.length cl, vo] n u T M W) (hk : KM L T M) (hn : n ≤ cntM M L.length) (hM : M i = none) : Calls Try.prog 46 #[.int .i64 i, .pointer (some ⟨ob, 0, none⟩), .pointer (some ⟨cb, 0, none⟩), .pointer (some ⟨eb, 0, none⟩), .pointer (some ⟨lb, 0, none⟩)] W fun e w' => ∃ (n' : Nat) (u' : Value) (M' : Int → Option Nat), e = .returned (.int .i64 (emitT (trL L L.length i) T).2) ∧ OpI w0 B bl bm mb eb cb lb ob #[nv, .slice pl L.length cl, vo] n' u' (emitT (trL L L.length i) T).1 M' w' ∧ KM L (emitT (trL L L.length i) T).1 M' ∧ n' ≤ cntM M' L.length ∧ (∀ j : Int, i < j → M' j = M j) ∧ ExtO bl bm mb u u' W w' := by
  have hiL := (List.getElem?_eq_some_iff.1 hx).1
  have hkm := km_emit hvl hk hiL
  have hrep := emit_rep (trL L L.length i) T
  obtain ⟨⟨Tr, kr⟩, hR⟩ : ∃ R, emitT (trL L L.length i) T = R := ⟨_, rfl⟩
  rw [hR] at hkm hrep ⊢
  rw [ht] at hR
  dsimp only at hkm hrep ⊢
  have hrl := rep_lt hrep
  have hi1 : (i : Int) < L.length := by omega
  have hi64 : W64 (i : Int) := by unfold W64; omega
  have hxv := hvl i _ hx
  have hiw := iw_of hxv (by omega) hN
  obtain ⟨bb, o, rfl, hbs, rd⟩ := is_rd hl hx
  obtain ⟨f0, f1, f2, f3, f4⟩ := rd ⟨W, hd.bel⟩
  dsimp only at f0 f1 f2 f3 f4
  have t1 : W.cell? ⟨cb, 1, none⟩ = some (.slice (some ⟨bb, o, none⟩) L.length cl) := heapN_cellj hd.tp (k := 1) rfl
  have hls := hd.ls
  have hbl := hls.lt
  have hbm := hls.mlt
  have hmb := hd.mp.lt
  have hw0 := hd.bel.size
  have hown : ∀ g, u.ownBlock = some g → g < W.heap.size := fun g e => (hls.off e).2.2.2.1
  obtain ⟨a0, hlk, ha⟩ := hd.mp.look hi64
  rw [hM] at hlk
  simp only [Option.isSome_none] at hlk
  have c0 := hd.bo.cell
  have KO := Lib.hid (fun w => opsof_new op a b lo hi w)
  rw [hops] at KO
  obtain ⟨hTr, hkr⟩ : emitI T ⟨op, a, b, lo, hi⟩ = Tr ∧ idxI (emitI T ⟨op, a, b, lo, hi⟩) ⟨op, a, b, lo, hi⟩ = kr := by
    unfold emitT at hR
    have e1 : (⟨(ndI ⟨op, a, b, lo, hi⟩).op, (ndI ⟨op, a, b, lo, hi⟩).n, 0, (ndI ⟨op, a, b, lo, hi⟩).lo, (ndI ⟨op, a, b, lo, hi⟩).hi⟩ : Is) = ⟨op, a, b, lo, hi⟩ := he.symm
    rw [e1] at hR
    exact Prod.mk.inj hR
  simp only [List.length_nil] at KO
  have hnw : ∀ g, u.ownBlock = some g → g ≠ W.heap.size := fun g e => by have := hown g e; omega
  have HD := Lib.hid hd
  have HK := Lib.hid hk
  have HKM := Lib.hid hkm
  have HREP := Lib.hid hrep
  have HN := Lib.hid hn
  have HM := Lib.hid hM
  have HIW := Lib.hid hiw
  have H64 := Lib.hid hi64
  have HOWN := Lib.hid hown
  have HNW := Lib.hid hnw
  have HTR := Lib.hid hTr
  have HKR := Lib.hid hkr
  have hxn := Lib.hid (IsC.new W ⟨op, a, b, lo, hi⟩)
  have hba : Below W.heap.size W (W.alloc (.cells #[.int .i64 op, .int .i64 a, .int .i64 b, .int .i64 lo, .int .i64 hi] 59)) := (Below.refl _ _).alloc (Nat.le_refl _) _
  have HBA := Lib.hid hba
  have hTrl := hkm.le
  clear hd hk hkm hrep hn hM hiw hi64 hown hnw hTr hkr hba hls hl hvl hx hxv rd ht hR ha hops he
  go_enter Try.func46, Try.ntmps46
  go_wp2_with (fail)
  generalize hW0 : World.alloc W _ = W1 at *
  clear hW0
  refine (KO.out _).mono ?_
  rintro e w2 ⟨⟨po, co, rfl, hpo, hpl⟩, hB2⟩
  have hBw2 := below_then HBA.out hB2
  have C2 := Lib.hid (HD.out.grow hBw2)
  have I2 : Hid (IsC w2 W.heap.size ⟨op, a, b, lo, hi⟩) := Lib.hid (hxn.out.grow hB2)
  have E2 := Lib.hid (ExtO.of (bl := bl) (bm := bm) (mb := mb) (u := u) hBw2)
  have hs1 := HBA.out.size
  have hs2 := hB2.size
  have hX1 := hxn.out.lt
  have HP2 := Lib.hid hpo
  have HPL2 : Hid (∀ x : Addr, po = some x → x.block < w2.heap.size ∧ x.block ≠ bl ∧ x.block ≠ bm ∧ x.block ≠ mb ∧ (∀ g, u.ownBlock = some g → g ≠ x.block) ∧ x.block ≠ W.heap.size) := Lib.hid (fun x hx => by
    have h := hpl x hx
    refine ⟨h.2, by omega, by omega, by omega, fun g e => by have := HOWN.out g e; omega, by omega⟩)
  clear hpo hpl hB2 hBw2 KO f0 f1 f2 f3 f4 t1 hlk c0
  have D9 := Lib.hid (C2.out.grow ((Below.refl (w2).heap.size (w2)).drew))
  have J9 := Lib.hid (I2.out.grow ((Below.refl (w2).heap.size (w2)).drew))
  have F9 := Lib.hid (E2.out.trans (ExtO.of (bl := bl) (bm := bm) (mb := mb) (u := u) ((Below.refl (w2).heap.size (w2)).drew)))
  have hkl := HK.out.le
  have KI := Lib.hid (fun h => index_ok B bl bm u T ⟨op, a, b, lo, hi⟩ ((w2).drew) h (by
    obtain ⟨h1, h2, h3, h4, h5⟩ := HIW.out
    exact ⟨h1, by first | exact h2 | (unfold W64; dsimp only; omega), by first | exact h3 | (unfold W64; dsimp only; omega), h4, h5⟩) (by have := HK.out.le; omega))
  unfold valI' at KI
  rw [HKR.out, HTR.out] at KI
  try dsimp only at KI
  have q0 := J9.out.c0
  have q1 := J9.out.c1
  have q2 := J9.out.c2
  have q3 := J9.out.c3
  have q4 := J9.out.c4
  dsimp only at q0 q1 q2 q3 q4
  have b0 := D9.out.bb.cell
  have o0 := D9.out.bo.cell
  have hcl := cntM_le M L.length
  have hcn := HN.out
  have hnm : n < maxLen := by unfold maxLen; omega
  go_wp2_with (fail)
  go_region_with (first
    | (go_at_call 43; refine (KI.out D9.out.ls).mono ?_; rintro e9 w9 ⟨u9, rfl, h9, e9'⟩; have D10 := Lib.hid (D9.out.ext h9 e9'); have o9 := D10.out.bo.cell; obtain ⟨w10, hup, m10, g10⟩ := D10.out.mp.put H64.out kr hnm))
  all_goals
    have DD := Lib.hid (D10.out.put m10 g10)
    have EE := Lib.hid ((F9.out.trans (ExtO.ofE e9')).trans (ExtO.ofM g10))
    have o10 := DD.out.bo.cell
    have hget := DD.out.mp.get H64.out (b := kr) (by simp [updM])
    clear hup m10 g10 D10 h9 e9' o9 KI q0 q1 q2 q3 q4 b0 o0
    go_wp2_with (fail)
    go_ret
    refine ⟨_, u9, updM M i kr, rfl, DD.out, km_put ⟨HKM.out.nd, HKM.out.of, fun j k hj => by have h := (HK.out.memo j k hj); rw [← HTR.out]; exact rep_pre (emitI_pre _ _) h⟩ HREP.out, by rw [cntM_upd kr HM.out, if_pos (by omega)]; omega, fun j hj => ?_, EE.out⟩
    unfold updM
    exact if_neg (by omega)
set_option maxHeartbeats 32000000 in
theorem oe_1 (w0 : World) (B bl bm mb eb cb lb ob : Nat) (nv vo : Value) (pl : Option Addr) (cl : Nat) (L : List Is) (N : Int) (hl : Ix w0 (.slice pl L.length cl) L) (h400 : L.length ≤ 400) (hN : N ≤ 6) (hvl : VL N L) (i : Nat) (op a lo hi : Int) (hx : L[i]? = some ⟨op, a, 0, lo, hi⟩) (a' : Nat) (hai : a' < i) (hops : opsI ⟨op, a, 0, lo, hi⟩ = [(a' : Int)]) (ht : trL L L.length i = .e1 (ndI ⟨op, a, 0, lo, hi⟩) (trL L L.length a')) (iha : EmO w0 B bl bm mb eb cb lb ob #[nv, .slice pl L.length cl, vo] L a' (trL L L.length a')) (n : Nat) (u : Value) (T : List Is) (M : Int → Option Nat) (W : World) (hd : OpI w0 B bl bm mb eb cb lb ob #[nv, .slice pl L.length cl, vo] n u T M W) (hk : KM L T M) (hn : n ≤ cntM M L.length) (hM : M i = none) : Calls Try.prog 46 #[.int .i64 i, .pointer (some ⟨ob, 0, none⟩), .pointer (some ⟨cb, 0, none⟩), .pointer (some ⟨eb, 0, none⟩), .pointer (some ⟨lb, 0, none⟩)] W fun e w' => ∃ (n' : Nat) (u' : Value) (M' : Int → Option Nat), e = .returned (.int .i64 (emitT (trL L L.length i) T).2) ∧ OpI w0 B bl bm mb eb cb lb ob #[nv, .slice pl L.length cl, vo] n' u' (emitT (trL L L.length i) T).1 M' w' ∧ KM L (emitT (trL L L.length i) T).1 M' ∧ n' ≤ cntM M' L.length ∧ (∀ j : Int, i < j → M' j = M j) ∧ ExtO bl bm mb u u' W w' := by
  have hiL := (List.getElem?_eq_some_iff.1 hx).1
  have hkm := km_emit hvl hk hiL
  have hrep := emit_rep (trL L L.length i) T
  obtain ⟨⟨Tr, kr⟩, hR⟩ : ∃ R, emitT (trL L L.length i) T = R := ⟨_, rfl⟩
  rw [hR] at hkm hrep ⊢
  rw [ht] at hR
  dsimp only at hkm hrep ⊢
  have hrl := rep_lt hrep
  have hi1 : (i : Int) < L.length := by omega
  have hi64 : W64 (i : Int) := by unfold W64; omega
  have hxv := hvl i _ hx
  have hiw := iw_of hxv (by omega) hN
  obtain ⟨bb, o, rfl, hbs, rd⟩ := is_rd hl hx
  obtain ⟨f0, f1, f2, f3, f4⟩ := rd ⟨W, hd.bel⟩
  dsimp only at f0 f1 f2 f3 f4
  have t1 : W.cell? ⟨cb, 1, none⟩ = some (.slice (some ⟨bb, o, none⟩) L.length cl) := heapN_cellj hd.tp (k := 1) rfl
  have hls := hd.ls
  have hbl := hls.lt
  have hbm := hls.mlt
  have hmb := hd.mp.lt
  have hw0 := hd.bel.size
  have hown : ∀ g, u.ownBlock = some g → g < W.heap.size := fun g e => (hls.off e).2.2.2.1
  obtain ⟨a0, hlk, ha⟩ := hd.mp.look hi64
  rw [hM] at hlk
  simp only [Option.isSome_none] at hlk
  have c0 := hd.bo.cell
  have KO := Lib.hid (fun w => opsof_new op a 0 lo hi w)
  rw [hops] at KO
  obtain ⟨⟨Ta, ka⟩, hA⟩ : ∃ R, emitT (trL L L.length a') T = R := ⟨_, rfl⟩
  have KA := Lib.hid (fun W h => iha n u T M W h hk hn)
  rw [hA] at KA
  dsimp only at KA
  obtain ⟨hTr, hkr⟩ : emitI Ta ⟨op, ka, 0, lo, hi⟩ = Tr ∧ idxI (emitI Ta ⟨op, ka, 0, lo, hi⟩) ⟨op, ka, 0, lo, hi⟩ = kr := by
    unfold emitT at hR
    rw [hA] at hR
    exact Prod.mk.inj hR
  have hab := rep_lt (emit_rep (trL L L.length a') T)
  rw [hA] at hab
  dsimp only at hab
  simp only [List.length_singleton] at KO
  have hnw : ∀ g, u.ownBlock = some g → g ≠ W.heap.size := fun g e => by have := hown g e; omega
  have HD := Lib.hid hd
  have HK := Lib.hid hk
  have HKM := Lib.hid hkm
  have HREP := Lib.hid hrep
  have HN := Lib.hid hn
  have HM := Lib.hid hM
  have HIW := Lib.hid hiw
  have H64 := Lib.hid hi64
  have HOWN := Lib.hid hown
  have HNW := Lib.hid hnw
  have HTR := Lib.hid hTr
  have HKR := Lib.hid hkr
  have hxn := Lib.hid (IsC.new W ⟨op, a, 0, lo, hi⟩)
  have hba : Below W.heap.size W (W.alloc (.cells #[.int .i64 op, .int .i64 a, .int .i64 0, .int .i64 lo, .int .i64 hi] 59)) := (Below.refl _ _).alloc (Nat.le_refl _) _
  have HBA := Lib.hid hba
  have hTrl := hkm.le
  clear hd hk hkm hrep hn hM hiw hi64 hown hnw hTr hkr hba hls hl hvl hx hxv rd ht hR ha hops hA iha
  go_enter Try.func46, Try.ntmps46
  go_wp2_with (fail)
  generalize hW0 : World.alloc W _ = W1 at *
  clear hW0
  refine (KO.out _).mono ?_
  rintro e w2 ⟨⟨po, co, rfl, hpo, hpl⟩, hB2⟩
  have hBw2 := below_then HBA.out hB2
  have C2 := Lib.hid (HD.out.grow hBw2)
  have I2 : Hid (IsC w2 W.heap.size ⟨op, a, 0, lo, hi⟩) := Lib.hid (hxn.out.grow hB2)
  have E2 := Lib.hid (ExtO.of (bl := bl) (bm := bm) (mb := mb) (u := u) hBw2)
  have hs1 := HBA.out.size
  have hs2 := hB2.size
  have hX1 := hxn.out.lt
  have HP2 := Lib.hid hpo
  have HPL2 : Hid (∀ x : Addr, po = some x → x.block < w2.heap.size ∧ x.block ≠ bl ∧ x.block ≠ bm ∧ x.block ≠ mb ∧ (∀ g, u.ownBlock = some g → g ≠ x.block) ∧ x.block ≠ W.heap.size) := Lib.hid (fun x hx => by
    have h := hpl x hx
    refine ⟨h.2, by omega, by omega, by omega, fun g e => by have := HOWN.out g e; omega, by omega⟩)
  clear hpo hpl hB2 hBw2 KO f0 f1 f2 f3 f4 t1 hlk c0
  obtain ⟨bg3, og3, rfl, hbg3, rdg3⟩ := px_rd (i := 0) HP2.out rfl
  have r3 := rdg3 ⟨_, Below.refl _ _⟩
  dsimp only [Nat.add_zero] at r3
  have k0 := C2.out.be.cell
  have D3 := Lib.hid (C2.out.grow ((Below.refl (w2).heap.size (w2)).drew))
  have J3 := Lib.hid (I2.out.grow ((Below.refl (w2).heap.size (w2)).drew))
  have F3 := Lib.hid (E2.out.trans (ExtO.of (bl := bl) (bm := bm) (mb := mb) (u := u) ((Below.refl (w2).heap.size (w2)).drew)))
  have hlx3 := I2.out.lt
  clear rdg3
  go_wp2_with (fail)
  go_region_with (first
    | (go_at_call 46; refine (KA.out _ D3.out).mono ?_; rintro e3 w3 ⟨n3, u3, M3, rfl, hd3, hk3, hc3, hm3, he3⟩; have I3' : IsC w3 W.heap.size ⟨op, a, 0, lo, hi⟩ := he3.local J3.out (by omega) (by omega) (by omega) HNW.out; have x3 := I3'.c1; have y3 := I3'.frozen 1; dsimp only at x3))
  all_goals
    have hnw3 : Hid (∀ g, u3.ownBlock = some g → g ≠ W.heap.size) := Lib.hid (fun g e => by
      rcases he3.own g e with h | h
      · exact HNW.out g h
      · have h9 : (w2).heap.size ≤ g := h
        omega)
    have C3 := Lib.hid (hd3.set I3' hw0 1 (.int .i64 ka) (by omega) (by omega) hnw3.out)
    have I3 : Hid (IsC (w3.setCell ⟨W.heap.size, 1, none⟩ (.int .i64 ka)) W.heap.size ⟨op, ka, 0, lo, hi⟩) := Lib.hid ((I3'.set ka).1)
    have E3 := Lib.hid ((F3.out.trans he3).newset (Nat.le_refl _) 1 (.int .i64 ka))
    have KM3 := Lib.hid hk3
    have HC3 := Lib.hid hc3
    have HJ3 : Hid (∀ j : Int, (a' : Int) < j → M3 j = M j) := Lib.hid hm3
    have HM3 : Hid (M3 i = none) := Lib.hid ((hm3 i (by omega)).trans HM.out)
    have hx3 := he3.size
    have PX3 := Lib.hid (px_set (o := 1) (y := .int .i64 ka) (px_exto (px_drew HP2.out) (fun x hx => by obtain ⟨g1, g2, g3, g4, g5, g6⟩ := HPL2.out x hx; exact ⟨g1, g2, g3, g4, fun e => g5 _ e.symm rfl⟩) he3) (X := W.heap.size) (fun x hx => (HPL2.out x hx).2.2.2.2.2))
    have PL3 : Hid (∀ x : Addr, some (⟨bg3, og3, none⟩ : Addr) = some x → x.block < (w3.setCell ⟨W.heap.size, 1, none⟩ (.int .i64 ka)).heap.size ∧ x.block ≠ bl ∧ x.block ≠ bm ∧ x.block ≠ mb ∧ (∀ g, u3.ownBlock = some g → g ≠ x.block) ∧ x.block ≠ W.heap.size) := Lib.hid (fun x hx => by
      obtain ⟨g1, g2, g3, g4, g5, g6⟩ := HPL2.out x hx
      have h7 : (w2).heap.size ≤ w3.heap.size := hx3
      refine ⟨by rw [size_setN]; omega, g2, g3, g4, fun g e => ?_, g6⟩
      rcases he3.own g e with h | h
      · exact g5 g h
      · have h9 : (w2).heap.size ≤ g := h
        omega)
    clear hd3 hk3 hc3 hm3 he3 I3' D3 J3 F3 hlx3 k0 r3 x3 y3
    have hkr2 := rep_lt HREP.out
    have hka := hx3
    have D9 := Lib.hid (C3.out.grow ((Below.refl ((w3.setCell ⟨W.heap.size, 1, none⟩ (.int .i64 ka))).heap.size ((w3.setCell ⟨W.heap.size, 1, none⟩ (.int .i64 ka)))).drew))
    have J9 := Lib.hid (I3.out.grow ((Below.refl ((w3.setCell ⟨W.heap.size, 1, none⟩ (.int .i64 ka))).heap.size ((w3.setCell ⟨W.heap.size, 1, none⟩ (.int .i64 ka)))).drew))
    have F9 := Lib.hid (E3.out.trans (ExtO.of (bl := bl) (bm := bm) (mb := mb) (u := u3) ((Below.refl ((w3.setCell ⟨W.heap.size, 1, none⟩ (.int .i64 ka))).heap.size ((w3.setCell ⟨W.heap.size, 1, none⟩ (.int .i64 ka)))).drew)))
    have hkl := KM3.out.le
    have KI := Lib.hid (fun h => index_ok B bl bm u3 Ta ⟨op, ka, 0, lo, hi⟩ (((w3.setCell ⟨W.heap.size, 1, none⟩ (.int .i64 ka))).drew) h (by
      obtain ⟨h1, h2, h3, h4, h5⟩ := HIW.out
      exact ⟨h1, by first | exact h2 | (unfold W64; dsimp only; omega), by first | exact h3 | (unfold W64; dsimp only; omega), h4, h5⟩) (by have := KM3.out.le; omega))
    unfold valI' at KI
    rw [HKR.out, HTR.out] at KI
    try dsimp only at KI
    have q0 := J9.out.c0
    have q1 := J9.out.c1
    have q2 := J9.out.c2
    have q3 := J9.out.c3
    have q4 := J9.out.c4
    dsimp only at q0 q1 q2 q3 q4
    have b0 := D9.out.bb.cell
    have o0 := D9.out.bo.cell
    have hcl := cntM_le M3 L.length
    have hcn := HC3.out
    have hnm : n3 < maxLen := by unfold maxLen; omega
    go_wp2_with (fail)
    go_region_with (first
      | (go_at_call 43; refine (KI.out D9.out.ls).mono ?_; rintro e9 w9 ⟨u9, rfl, h9, e9'⟩; have D10 := Lib.hid (D9.out.ext h9 e9'); have o9 := D10.out.bo.cell; obtain ⟨w10, hup, m10, g10⟩ := D10.out.mp.put H64.out kr hnm))
    all_goals
      have DD := Lib.hid (D10.out.put m10 g10)
      have EE := Lib.hid ((F9.out.trans (ExtO.ofE e9')).trans (ExtO.ofM g10))
      have o10 := DD.out.bo.cell
      have hget := DD.out.mp.get H64.out (b := kr) (by simp [updM])
      clear hup m10 g10 D10 h9 e9' o9 KI q0 q1 q2 q3 q4 b0 o0
      go_wp2_with (fail)
      go_ret
      refine ⟨_, u9, updM M3 i kr, rfl, DD.out, km_put ⟨HKM.out.nd, HKM.out.of, fun j k hj => by have h := (KM3.out.memo j k hj); rw [← HTR.out]; exact rep_pre (emitI_pre _ _) h⟩ HREP.out, by rw [cntM_upd kr HM3.out, if_pos (by omega)]; omega, fun j hj => ?_, EE.out⟩
      unfold updM
      rw [if_neg (by omega)]
      exact HJ3.out j (by omega)
set_option maxHeartbeats 32000000 in
theorem oe_2 (w0 : World) (B bl bm mb eb cb lb ob : Nat) (nv vo : Value) (pl : Option Addr) (cl : Nat) (L : List Is) (N : Int) (hl : Ix w0 (.slice pl L.length cl) L) (h400 : L.length ≤ 400) (hN : N ≤ 6) (hvl : VL N L) (i : Nat) (op a b lo hi : Int) (hx : L[i]? = some ⟨op, a, b, lo, hi⟩) (a' b' : Nat) (hai : a' < i) (hbi : b' < i) (hops : opsI ⟨op, a, b, lo, hi⟩ = [(a' : Int), (b' : Int)]) (ht : trL L L.length i = .e2 (ndI ⟨op, a, b, lo, hi⟩) (trL L L.length a') (trL L L.length b')) (iha : EmO w0 B bl bm mb eb cb lb ob #[nv, .slice pl L.length cl, vo] L a' (trL L L.length a')) (ihb : EmO w0 B bl bm mb eb cb lb ob #[nv, .slice pl L.length cl, vo] L b' (trL L L.length b')) (n : Nat) (u : Value) (T : List Is) (M : Int → Option Nat) (W : World) (hd : OpI w0 B bl bm mb eb cb lb ob #[nv, .slice pl L.length cl, vo] n u T M W) (hk : KM L T M) (hn : n ≤ cntM M L.length) (hM : M i = none) : Calls Try.prog 46 #[.int .i64 i, .pointer (some ⟨ob, 0, none⟩), .pointer (some ⟨cb, 0, none⟩), .pointer (some ⟨eb, 0, none⟩), .pointer (some ⟨lb, 0, none⟩)] W fun e w' => ∃ (n' : Nat) (u' : Value) (M' : Int → Option Nat), e = .returned (.int .i64 (emitT (trL L L.length i) T).2) ∧ OpI w0 B bl bm mb eb cb lb ob #[nv, .slice pl L.length cl, vo] n' u' (emitT (trL L L.length i) T).1 M' w' ∧ KM L (emitT (trL L L.length i) T).1 M' ∧ n' ≤ cntM M' L.length ∧ (∀ j : Int, i < j → M' j = M j) ∧ ExtO bl bm mb u u' W w' := by
  have hiL := (List.getElem?_eq_some_iff.1 hx).1
  have hkm := km_emit hvl hk hiL
  have hrep := emit_rep (trL L L.length i) T
  obtain ⟨⟨Tr, kr⟩, hR⟩ : ∃ R, emitT (trL L L.length i) T = R := ⟨_, rfl⟩
  rw [hR] at hkm hrep ⊢
  rw [ht] at hR
  dsimp only at hkm hrep ⊢
  have hrl := rep_lt hrep
  have hi1 : (i : Int) < L.length := by omega
  have hi64 : W64 (i : Int) := by unfold W64; omega
  have hxv := hvl i _ hx
  have hiw := iw_of hxv (by omega) hN
  obtain ⟨bb, o, rfl, hbs, rd⟩ := is_rd hl hx
  obtain ⟨f0, f1, f2, f3, f4⟩ := rd ⟨W, hd.bel⟩
  dsimp only at f0 f1 f2 f3 f4
  have t1 : W.cell? ⟨cb, 1, none⟩ = some (.slice (some ⟨bb, o, none⟩) L.length cl) := heapN_cellj hd.tp (k := 1) rfl
  have hls := hd.ls
  have hbl := hls.lt
  have hbm := hls.mlt
  have hmb := hd.mp.lt
  have hw0 := hd.bel.size
  have hown : ∀ g, u.ownBlock = some g → g < W.heap.size := fun g e => (hls.off e).2.2.2.1
  obtain ⟨a0, hlk, ha⟩ := hd.mp.look hi64
  rw [hM] at hlk
  simp only [Option.isSome_none] at hlk
  have c0 := hd.bo.cell
  have KO := Lib.hid (fun w => opsof_new op a b lo hi w)
  rw [hops] at KO
  obtain ⟨⟨Ta, ka⟩, hA⟩ : ∃ R, emitT (trL L L.length a') T = R := ⟨_, rfl⟩
  have KA := Lib.hid (fun W h => iha n u T M W h hk hn)
  rw [hA] at KA
  dsimp only at KA
  obtain ⟨⟨Tb, kb⟩, hBB⟩ : ∃ R, emitT (trL L L.length b') Ta = R := ⟨_, rfl⟩
  have KB := Lib.hid (fun n u M W h h1 h2 => ihb n u Ta M W h h1 h2)
  rw [hBB] at KB
  dsimp only at KB
  obtain ⟨hTr, hkr⟩ : emitI Tb ⟨op, ka, kb, lo, hi⟩ = Tr ∧ idxI (emitI Tb ⟨op, ka, kb, lo, hi⟩) ⟨op, ka, kb, lo, hi⟩ = kr := by
    unfold emitT at hR
    rw [hA] at hR
    dsimp only at hR
    rw [hBB] at hR
    exact Prod.mk.inj hR
  have hab := rep_lt (emit_rep (trL L L.length a') T)
  have hlb := (emitT_pre (trL L L.length b') Ta).length_le
  rw [hA] at hab
  rw [hBB] at hlb
  have hbb := rep_lt (emit_rep (trL L L.length b') Ta)
  rw [hBB] at hbb
  dsimp only at hab hlb hbb
  simp only [show ([(a' : Int), (b' : Int)]).length = 2 from rfl] at KO
  have hnw : ∀ g, u.ownBlock = some g → g ≠ W.heap.size := fun g e => by have := hown g e; omega
  have HD := Lib.hid hd
  have HK := Lib.hid hk
  have HKM := Lib.hid hkm
  have HREP := Lib.hid hrep
  have HN := Lib.hid hn
  have HM := Lib.hid hM
  have HIW := Lib.hid hiw
  have H64 := Lib.hid hi64
  have HOWN := Lib.hid hown
  have HNW := Lib.hid hnw
  have HTR := Lib.hid hTr
  have HKR := Lib.hid hkr
  have hxn := Lib.hid (IsC.new W ⟨op, a, b, lo, hi⟩)
  have hba : Below W.heap.size W (W.alloc (.cells #[.int .i64 op, .int .i64 a, .int .i64 b, .int .i64 lo, .int .i64 hi] 59)) := (Below.refl _ _).alloc (Nat.le_refl _) _
  have HBA := Lib.hid hba
  have hTrl := hkm.le
  clear hd hk hkm hrep hn hM hiw hi64 hown hnw hTr hkr hba hls hl hvl hx hxv rd ht hR ha hops hA hBB iha ihb
  go_enter Try.func46, Try.ntmps46
  go_wp2_with (fail)
  generalize hW0 : World.alloc W _ = W1 at *
  clear hW0
  refine (KO.out _).mono ?_
  rintro e w2 ⟨⟨po, co, rfl, hpo, hpl⟩, hB2⟩
  have hBw2 := below_then HBA.out hB2
  have C2 := Lib.hid (HD.out.grow hBw2)
  have I2 : Hid (IsC w2 W.heap.size ⟨op, a, b, lo, hi⟩) := Lib.hid (hxn.out.grow hB2)
  have E2 := Lib.hid (ExtO.of (bl := bl) (bm := bm) (mb := mb) (u := u) hBw2)
  have hs1 := HBA.out.size
  have hs2 := hB2.size
  have hX1 := hxn.out.lt
  have HP2 := Lib.hid hpo
  have HPL2 : Hid (∀ x : Addr, po = some x → x.block < w2.heap.size ∧ x.block ≠ bl ∧ x.block ≠ bm ∧ x.block ≠ mb ∧ (∀ g, u.ownBlock = some g → g ≠ x.block) ∧ x.block ≠ W.heap.size) := Lib.hid (fun x hx => by
    have h := hpl x hx
    refine ⟨h.2, by omega, by omega, by omega, fun g e => by have := HOWN.out g e; omega, by omega⟩)
  clear hpo hpl hB2 hBw2 KO f0 f1 f2 f3 f4 t1 hlk c0
  obtain ⟨bg3, og3, rfl, hbg3, rdg3⟩ := px_rd (i := 0) HP2.out rfl
  have r3 := rdg3 ⟨_, Below.refl _ _⟩
  dsimp only [Nat.add_zero] at r3
  have k0 := C2.out.be.cell
  have D3 := Lib.hid (C2.out.grow ((Below.refl (w2).heap.size (w2)).drew))
  have J3 := Lib.hid (I2.out.grow ((Below.refl (w2).heap.size (w2)).drew))
  have F3 := Lib.hid (E2.out.trans (ExtO.of (bl := bl) (bm := bm) (mb := mb) (u := u) ((Below.refl (w2).heap.size (w2)).drew)))
  have hlx3 := I2.out.lt
  clear rdg3
  go_wp2_with (fail)
  go_region_with (first
    | (go_at_call 46; refine (KA.out _ D3.out).mono ?_; rintro e3 w3 ⟨n3, u3, M3, rfl, hd3, hk3, hc3, hm3, he3⟩; have I3' : IsC w3 W.heap.size ⟨op, a, b, lo, hi⟩ := he3.local J3.out (by omega) (by omega) (by omega) HNW.out; have x3 := I3'.c1; have y3 := I3'.frozen 1; dsimp only at x3))
  all_goals
    have hnw3 : Hid (∀ g, u3.ownBlock = some g → g ≠ W.heap.size) := Lib.hid (fun g e => by
      rcases he3.own g e with h | h
      · exact HNW.out g h
      · have h9 : (w2).heap.size ≤ g := h
        omega)
    have C3 := Lib.hid (hd3.set I3' hw0 1 (.int .i64 ka) (by omega) (by omega) hnw3.out)
    have I3 : Hid (IsC (w3.setCell ⟨W.heap.size, 1, none⟩ (.int .i64 ka)) W.heap.size ⟨op, ka, b, lo, hi⟩) := Lib.hid ((I3'.set ka).1)
    have E3 := Lib.hid ((F3.out.trans he3).newset (Nat.le_refl _) 1 (.int .i64 ka))
    have KM3 := Lib.hid hk3
    have HC3 := Lib.hid hc3
    have HJ3 : Hid (∀ j : Int, (a' : Int) < j → M3 j = M j) := Lib.hid hm3
    have HM3 : Hid (M3 i = none) := Lib.hid ((hm3 i (by omega)).trans HM.out)
    have hx3 := he3.size
    have PX3 := Lib.hid (px_set (o := 1) (y := .int .i64 ka) (px_exto (px_drew HP2.out) (fun x hx => by obtain ⟨g1, g2, g3, g4, g5, g6⟩ := HPL2.out x hx; exact ⟨g1, g2, g3, g4, fun e => g5 _ e.symm rfl⟩) he3) (X := W.heap.size) (fun x hx => (HPL2.out x hx).2.2.2.2.2))
    have PL3 : Hid (∀ x : Addr, some (⟨bg3, og3, none⟩ : Addr) = some x → x.block < (w3.setCell ⟨W.heap.size, 1, none⟩ (.int .i64 ka)).heap.size ∧ x.block ≠ bl ∧ x.block ≠ bm ∧ x.block ≠ mb ∧ (∀ g, u3.ownBlock = some g → g ≠ x.block) ∧ x.block ≠ W.heap.size) := Lib.hid (fun x hx => by
      obtain ⟨g1, g2, g3, g4, g5, g6⟩ := HPL2.out x hx
      have h7 : (w2).heap.size ≤ w3.heap.size := hx3
      refine ⟨by rw [size_setN]; omega, g2, g3, g4, fun g e => ?_, g6⟩
      rcases he3.own g e with h | h
      · exact g5 g h
      · have h9 : (w2).heap.size ≤ g := h
        omega)
    clear hd3 hk3 hc3 hm3 he3 I3' D3 J3 F3 hlx3 k0 r3 x3 y3
    obtain ⟨bg6, og6, hpe, hbg6, rdg6⟩ := px_rd (i := 1) PX3.out rfl
    simp only [Option.some.injEq, Addr.mk.injEq, and_true] at hpe
    obtain ⟨rfl, rfl⟩ := hpe
    have r6 := rdg6 ⟨_, Below.refl _ _⟩
    dsimp only [Nat.add_zero] at r6
    have k0 := C3.out.be.cell
    have D6 := Lib.hid (C3.out.grow ((Below.refl ((w3.setCell ⟨W.heap.size, 1, none⟩ (.int .i64 ka))).heap.size ((w3.setCell ⟨W.heap.size, 1, none⟩ (.int .i64 ka)))).drew))
    have J6 := Lib.hid (I3.out.grow ((Below.refl ((w3.setCell ⟨W.heap.size, 1, none⟩ (.int .i64 ka))).heap.size ((w3.setCell ⟨W.heap.size, 1, none⟩ (.int .i64 ka)))).drew))
    have F6 := Lib.hid (E3.out.trans (ExtO.of (bl := bl) (bm := bm) (mb := mb) (u := u3) ((Below.refl ((w3.setCell ⟨W.heap.size, 1, none⟩ (.int .i64 ka))).heap.size ((w3.setCell ⟨W.heap.size, 1, none⟩ (.int .i64 ka)))).drew)))
    have hlx6 := I3.out.lt
    clear rdg6
    go_wp2_with (fail)
    go_region_with (first
      | (go_at_call 46; refine (KB.out _ _ _ _ D6.out KM3.out HC3.out).mono ?_; rintro e6 w6 ⟨n6, u6, M6, rfl, hd6, hk6, hc6, hm6, he6⟩; have I6' : IsC w6 W.heap.size ⟨op, ka, b, lo, hi⟩ := he6.local J6.out (by omega) (by omega) (by omega) hnw3.out; have x6 := I6'.c2; have y6 := I6'.frozen 2; dsimp only at x6))
    all_goals
      have hnw6 : Hid (∀ g, u6.ownBlock = some g → g ≠ W.heap.size) := Lib.hid (fun g e => by
        rcases he6.own g e with h | h
        · exact hnw3.out g h
        · have h9 : ((w3.setCell ⟨W.heap.size, 1, none⟩ (.int .i64 ka))).heap.size ≤ g := h
          omega)
      have C6 := Lib.hid (hd6.set I6' hw0 2 (.int .i64 kb) (by omega) (by omega) hnw6.out)
      have I6 : Hid (IsC (w6.setCell ⟨W.heap.size, 2, none⟩ (.int .i64 kb)) W.heap.size ⟨op, ka, kb, lo, hi⟩) := Lib.hid ((I6'.set kb).2)
      have E6 := Lib.hid ((F6.out.trans he6).newset (Nat.le_refl _) 2 (.int .i64 kb))
      have KM6 := Lib.hid hk6
      have HC6 := Lib.hid hc6
      have HJ6 : Hid (∀ j : Int, (b' : Int) < j → M6 j = M3 j) := Lib.hid hm6
      have HM6 : Hid (M6 i = none) := Lib.hid ((hm6 i (by omega)).trans HM3.out)
      have hx6 := he6.size
      have PX6 := Lib.hid (px_set (o := 2) (y := .int .i64 kb) (px_exto (px_drew PX3.out) (fun x hx => by obtain ⟨g1, g2, g3, g4, g5, g6⟩ := PL3.out x hx; exact ⟨g1, g2, g3, g4, fun e => g5 _ e.symm rfl⟩) he6) (X := W.heap.size) (fun x hx => (PL3.out x hx).2.2.2.2.2))
      have PL6 : Hid (∀ x : Addr, some (⟨bg3, og3, none⟩ : Addr) = some x → x.block < (w6.setCell ⟨W.heap.size, 2, none⟩ (.int .i64 kb)).heap.size ∧ x.block ≠ bl ∧ x.block ≠ bm ∧ x.block ≠ mb ∧ (∀ g, u6.ownBlock = some g → g ≠ x.block) ∧ x.block ≠ W.heap.size) := Lib.hid (fun x hx => by
        obtain ⟨g1, g2, g3, g4, g5, g6⟩ := PL3.out x hx
        have h7 : ((w3.setCell ⟨W.heap.size, 1, none⟩ (.int .i64 ka))).heap.size ≤ w6.heap.size := hx6
        refine ⟨by rw [size_setN]; omega, g2, g3, g4, fun g e => ?_, g6⟩
        rcases he6.own g e with h | h
        · exact g5 g h
        · have h9 : ((w3.setCell ⟨W.heap.size, 1, none⟩ (.int .i64 ka))).heap.size ≤ g := h
          omega)
      clear hd6 hk6 hc6 hm6 he6 I6' D6 J6 F6 hlx6 k0 r6 x6 y6
      have D9 := Lib.hid (C6.out.grow ((Below.refl ((w6.setCell ⟨W.heap.size, 2, none⟩ (.int .i64 kb))).heap.size ((w6.setCell ⟨W.heap.size, 2, none⟩ (.int .i64 kb)))).drew))
      have J9 := Lib.hid (I6.out.grow ((Below.refl ((w6.setCell ⟨W.heap.size, 2, none⟩ (.int .i64 kb))).heap.size ((w6.setCell ⟨W.heap.size, 2, none⟩ (.int .i64 kb)))).drew))
      have F9 := Lib.hid (E6.out.trans (ExtO.of (bl := bl) (bm := bm) (mb := mb) (u := u6) ((Below.refl ((w6.setCell ⟨W.heap.size, 2, none⟩ (.int .i64 kb))).heap.size ((w6.setCell ⟨W.heap.size, 2, none⟩ (.int .i64 kb)))).drew)))
      have hkl := KM6.out.le
      have KI := Lib.hid (fun h => index_ok B bl bm u6 Tb ⟨op, ka, kb, lo, hi⟩ (((w6.setCell ⟨W.heap.size, 2, none⟩ (.int .i64 kb))).drew) h (by
        obtain ⟨h1, h2, h3, h4, h5⟩ := HIW.out
        exact ⟨h1, by first | exact h2 | (unfold W64; dsimp only; omega), by first | exact h3 | (unfold W64; dsimp only; omega), h4, h5⟩) (by have := KM6.out.le; omega))
      unfold valI' at KI
      rw [HKR.out, HTR.out] at KI
      try dsimp only at KI
      have q0 := J9.out.c0
      have q1 := J9.out.c1
      have q2 := J9.out.c2
      have q3 := J9.out.c3
      have q4 := J9.out.c4
      dsimp only at q0 q1 q2 q3 q4
      have b0 := D9.out.bb.cell
      have o0 := D9.out.bo.cell
      have hcl := cntM_le M6 L.length
      have hcn := HC6.out
      have hnm : n6 < maxLen := by unfold maxLen; omega
      go_wp2_with (fail)
      go_region_with (first
        | (go_at_call 43; refine (KI.out D9.out.ls).mono ?_; rintro e9 w9 ⟨u9, rfl, h9, e9'⟩; have D10 := Lib.hid (D9.out.ext h9 e9'); have o9 := D10.out.bo.cell; obtain ⟨w10, hup, m10, g10⟩ := D10.out.mp.put H64.out kr hnm))
      all_goals
        have DD := Lib.hid (D10.out.put m10 g10)
        have EE := Lib.hid ((F9.out.trans (ExtO.ofE e9')).trans (ExtO.ofM g10))
        have o10 := DD.out.bo.cell
        have hget := DD.out.mp.get H64.out (b := kr) (by simp [updM])
        clear hup m10 g10 D10 h9 e9' o9 KI q0 q1 q2 q3 q4 b0 o0
        go_wp2_with (fail)
        go_ret
        refine ⟨_, u9, updM M6 i kr, rfl, DD.out, km_put ⟨HKM.out.nd, HKM.out.of, fun j k hj => by have h := (KM6.out.memo j k hj); rw [← HTR.out]; exact rep_pre (emitI_pre _ _) h⟩ HREP.out, by rw [cntM_upd kr HM6.out, if_pos (by omega)]; omega, fun j hj => ?_, EE.out⟩
        unfold updM
        rw [if_neg (by omega), HJ6.out j (by omega)]
        exact HJ3.out j (by omega)
set_option maxHeartbeats 1000000 in
/-- The closure of Optimize, at every instruction of a valid tape. -/
theorem oe_ok (w0 : World) (B bl bm mb eb cb lb ob : Nat) (nv vo : Value) (pl : Option Addr) (cl : Nat) (L : List Is) (N : Int) (hl : Ix w0 (.slice pl L.length cl) L) (h400 : L.length ≤ 400) (hN : N ≤ 6) (hvl : VL N L) : ∀ f i : Nat, i < f → i < L.length → EmO w0 B bl bm mb eb cb lb ob #[nv, .slice pl L.length cl, vo] L i (trL L L.length i) := by
  intro f
  induction f with
  | zero => intro i h; omega
  | succ f ih =>
    intro i hi hL n u T M W hd hk hn
    rcases hM : M i with _ | k
    · obtain ⟨⟨op, a, b, lo, hi'⟩, hx⟩ : ∃ x, L[i]? = some x := ⟨_, List.getElem?_eq_getElem hL⟩
      rcases tr_step hvl hx with ⟨ho, he, ht⟩ | ⟨a', h1, he, ho, ht⟩ | ⟨a', b', h1, h2, he, ho, ht⟩
      · exact oe_0 w0 B bl bm mb eb cb lb ob nv vo pl cl L N hl h400 hN hvl i op a b lo hi' hx ho he ht n u T M W hd hk hn hM
      · obtain rfl : b = 0 := by simp at he; exact he.2
        exact oe_1 w0 B bl bm mb eb cb lb ob nv vo pl cl L N hl h400 hN hvl i op a lo hi' hx a' h1 ho ht (ih a' (by omega) (by omega)) n u T M W hd hk hn hM
      · exact oe_2 w0 B bl bm mb eb cb lb ob nv vo pl cl L N hl h400 hN hvl i op a b lo hi' hx a' b' h1 h2 ho ht (ih a' (by omega) (by omega)) (ih b' (by omega) (by omega)) n u T M W hd hk hn hM
    · exact oe_hit w0 B bl bm mb eb cb lb ob nv vo pl cl L N hl h400 hN hvl i hL n u T M W hd hk hn k hM
end Go.Proofs.Ytajddejeglhbhaa

namespace Go.Proofs.Ytajddejeglhbhaa
open Go.ChangeShapes Go.WideShapes Go.ChangeAt Go.RowKit Go.Maps
set_option linter.unusedVariables false
set_option linter.unusedSimpArgs false
set_option maxRecDepth 100000
attribute [local irreducible] Calls
theorem OpI.app {w0 : World} {B bl bm mb eb cb lb ob n : Nat} {C : Array Value} {u r : Value} {T : List Is} {M : Int → Option Nat} {W W' : World} {B' n' : Nat} {xs : List Value} (h : OpI w0 B bl bm mb eb cb lb ob C n u T M W) (hr : W.ownsRow B' 3 1 r n' xs) (hB' : w0.heap.size ≤ B') (hg : W.grownBy W' r.ownBlock) : OpI w0 B bl bm mb eb cb lb ob C n u T M W' := by
  have key : ∀ k o, W.heap[k]? = some o → (∀ cs z, o ≠ .cells cs 3 z) → some k ≠ r.ownBlock := fun k o hk hne e => by
    rcases id hr.2 with ⟨e1, _⟩ | ⟨g, cap, cur, e1, _, hh, _⟩
    · rw [e1] at e; simp [Value.ownBlock] at e
    · rw [e1] at e
      simp only [Value.ownBlock, Option.some.injEq] at e
      rw [e, hh] at hk
      exact hne _ _ (Option.some.inj hk).symm
  obtain ⟨D, m1, m2⟩ := h.ls.map
  obtain ⟨es', cl', hmb⟩ := h.mp.blk
  have kb := key bl _ h.ls.blk (fun cs z e => by simp only [Obj.cells.injEq] at e; exact absurd e.2.1 (by decide))
  have km : some bm ≠ r.ownBlock := by
    obtain ⟨es, cl, hm, _⟩ := m1
    exact key bm _ hm (fun cs z e => by cases e)
  have kmb := key mb _ hmb (fun cs z e => by cases e)
  have ke := key eb _ h.be (fun cs z e => by simp only [Obj.cells.injEq] at e; exact absurd e.2.1 (by decide))
  have kl := key lb _ h.bb (fun cs z e => by simp only [Obj.cells.injEq] at e; exact absurd e.2.1 (by decide))
  have ko := key ob _ h.bo (fun cs z e => by simp only [Obj.cells.injEq] at e; exact absurd e.2.1 (by decide))
  have kc := key cb _ h.tp (fun cs z e => by simp only [Obj.cells.injEq] at e; exact absurd e.2.1 (by decide))
  refine ⟨⟨h.ls.far, (hg.block bl h.ls.lt kb).trans h.ls.blk, h.ls.row.kept hg ?_, D, m1.kept hg km, m2⟩, h.mp.at (hg.block mb h.mp.lt kmb), h.be.kept hg ke, h.bo.kept hg ko, h.bb.kept hg kl, (hg.block cb (Array.getElem?_eq_some_iff.1 h.tp).1 kc).trans h.tp, h.bel.trans ⟨hg.os, hg.tape, hg.output, hg.size, fun k hk => hg.block k (Nat.lt_of_lt_of_le hk h.bel.size) (fun e => by have := (hr.lt k e.symm).1; omega)⟩, h.ne, h.far⟩
  cases e : u.ownBlock with
  | none => exact .inl rfl
  | some g =>
    obtain ⟨_, _, _, _, cur, hc⟩ := h.ls.off e
    exact .inr (fun e2 => key g _ hc (fun cs z e3 => by simp only [Obj.cells.injEq] at e3; exact absurd e3.2.1 (by decide)) e2)
theorem ExtO.typed {bl bm mb : Nat} {u u' : Value} {w0 : World} {B eb cb lb ob n : Nat} {C : Array Value} {T : List Is} {M : Int → Option Nat} {W W' : World} (E : ExtO bl bm mb u u' W W') (h : OpI w0 B bl bm mb eb cb lb ob C n u T M W) {k : Nat} {cs : Array Value} {t : TypeId} {z : Nat × Nat} (hk : W.heap[k]? = some (.cells cs t z)) (h1 : t ≠ 97) (h2 : t ≠ 59) : W'.heap[k]? = some (.cells cs t z) := by
  refine (E.blk k (Array.getElem?_eq_some_iff.1 hk).1 ?_ ?_ ?_ ?_).trans hk
  · rintro rfl
    have hb := h.ls.blk
    rw [hk] at hb
    simp only [Option.some.injEq, Obj.cells.injEq] at hb
    exact h1 hb.2.1
  · rintro rfl
    obtain ⟨D, ⟨es, cl, hm, _⟩, _⟩ := h.ls.map
    rw [hk] at hm
    cases hm
  · rintro rfl
    obtain ⟨es, cl, hm⟩ := h.mp.blk
    rw [hk] at hm
    cases hm
  · intro e
    obtain ⟨_, _, _, _, cur, hc⟩ := h.ls.off e.symm
    rw [hk] at hc
    simp only [Option.some.injEq, Obj.cells.injEq] at hc
    exact h2 hc.2.1
theorem row_exto {bl bm mb : Nat} {u u' v : Value} {w0 : World} {B eb cb lb ob n : Nat} {C : Array Value} {T : List Is} {M : Int → Option Nat} {W W' : World} {B' n' sz : Nat} {t : TypeId} {xs : List Value} (hr : W.ownsRow B' t sz v n' xs) (E : ExtO bl bm mb u u' W W') (h : OpI w0 B bl bm mb eb cb lb ob C n u T M W) (h1 : t ≠ 97) (h2 : t ≠ 59) : W'.ownsRow B' t sz v n' xs := by
  refine ⟨hr.1, hr.2.imp id ?_⟩
  rintro ⟨g, cap, cur, e, hg, hh, rest⟩
  exact ⟨g, cap, cur, e, hg, E.typed h hh h1 h2, rest⟩
theorem comp_take (ts : List Ex) (k : Nat) : ∃ S, (compT ts []).1 = (compT (ts.take k) []).1 ++ S := by
  have h := compT_app (ts.take k) (ts.drop k) []
  rw [List.take_append_drop] at h
  obtain ⟨S, hS⟩ := compT_pre (ts.drop k) (compT (ts.take k) []).1
  exact ⟨S, by rw [h]; exact hS.symm⟩
set_option maxHeartbeats 16000000 in
theorem optimize_ok (n : Int) (vl vo : Value) (L : List Is) (out : List Int) (w : World) (hl : Ix w vl L) (ho : Px w vo out) (htv : tvB n L out = true) :
    Calls Try.prog 19 #[.agg #[.int .i64 n, vl, vo]] w fun e w' => ∃ u r, e = .returned (.agg #[.int .i64 n, u, r]) ∧ w'.ownsRow w.heap.size 59 5 u (optL L out).1.length (cr encI (optL L out).1) ∧ w'.ownsRow w.heap.size 3 1 r out.length ((optL L out).2.map (fun x => Value.int .i64 x)) ∧ Below w.heap.size w w' := by
  obtain ⟨i0, hi, hz0, hz1, hz2⟩ := info_parts info_int
  have hmm := @run_makeMap Try.prog
  obtain ⟨pl, cl, rfl⟩ := hl.cut
  obtain ⟨po, co, rfl⟩ := ho.cut
  obtain ⟨hn1, hn6, h400, hon, hvl, hout⟩ := tv_cases htv
  have hvl : VL n L := hvl
  have KV := Lib.hid (fun w a b => tvalid_ok n (.slice pl L.length cl) (.slice po out.length co) L out w a b)
  rw [htv] at KV
  obtain ⟨ts, hts⟩ : ∃ ts, out.map (trL L L.length) = ts := ⟨_, rfl⟩
  have htl : ts.length = out.length := by rw [← hts, List.length_map]
  have hopt : optL L out = compT ts [] := by unfold optL; rw [hts]
  have hole := opt_le hvl hout
  rw [hopt] at hole ⊢
  have hba : Below w.heap.size w ((w.alloc (.cells #[.int .i64 n, .slice pl L.length cl, .slice po out.length co] 25)).alloc (.cells #[.int .i64 0, .slice none 0 0, .slice none 0 0] 25)) := ((Below.refl _ _).alloc (Nat.le_refl _) _).alloc (by rw [alloc_sz]; omega) _
  have hX : ((w.alloc (.cells #[.int .i64 n, .slice pl L.length cl, .slice po out.length co] 25)).alloc (.cells #[.int .i64 0, .slice none 0 0, .slice none 0 0] 25)).heap[w.heap.size]? = some (.cells #[.int .i64 n, .slice pl L.length cl, .slice po out.length co] 25 (0, 0)) := (((Below.refl _ (w.alloc (.cells #[.int .i64 n, .slice pl L.length cl, .slice po out.length co] 25))).alloc (Nat.le_refl _) _).block _ (by rw [alloc_sz]; omega)).trans (World.alloc_heap_new w _)
  have hY : ((w.alloc (.cells #[.int .i64 n, .slice pl L.length cl, .slice po out.length co] 25)).alloc (.cells #[.int .i64 0, .slice none 0 0, .slice none 0 0] 25)).heap[w.heap.size + 1]? = some (.cells #[.int .i64 0, .slice none 0 0, .slice none 0 0] 25 (0, 0)) := by
    have := World.alloc_heap_new (w.alloc (.cells #[.int .i64 n, .slice pl L.length cl, .slice po out.length co] 25)) (.cells #[.int .i64 0, .slice none 0 0, .slice none 0 0] 25)
    rwa [alloc_sz] at this
  have x0 : ((w.alloc (.cells #[.int .i64 n, .slice pl L.length cl, .slice po out.length co] 25)).alloc (.cells #[.int .i64 0, .slice none 0 0, .slice none 0 0] 25)).cell? ⟨w.heap.size, 0, none⟩ = _ := heapN_cellj hX (k := 0) rfl
  have x1 : ((w.alloc (.cells #[.int .i64 n, .slice pl L.length cl, .slice po out.length co] 25)).alloc (.cells #[.int .i64 0, .slice none 0 0, .slice none 0 0] 25)).cell? ⟨w.heap.size, 1, none⟩ = _ := heapN_cellj hX (k := 1) rfl
  have x2 : ((w.alloc (.cells #[.int .i64 n, .slice pl L.length cl, .slice po out.length co] 25)).alloc (.cells #[.int .i64 0, .slice none 0 0, .slice none 0 0] 25)).cell? ⟨w.heap.size, 2, none⟩ = _ := heapN_cellj hX (k := 2) rfl
  have HLX := Lib.hid hl
  have HO := Lib.hid ho
  have HX := Lib.hid hX
  have HY := Lib.hid hY
  have HB := Lib.hid hba
  have HV := Lib.hid hvl
  have HOUT := Lib.hid hout
  have HTS := Lib.hid hts
  have HTL := Lib.hid htl
  have HLE := Lib.hid hole
  have HON := Lib.hid hon
  clear hl ho hba hX hY hvl hout hts htl hole hopt htv hon
  go_enter Try.func19, Try.ntmps19
  go_wp2_with (fail)
  refine (KV.out _ (HLX.out.grow HB.out) (HO.out.grow HB.out)).mono ?_
  rintro e w1 ⟨rfl, hB1⟩
  have hB01 := below_then HB.out hB1
  have X1 := Lib.hid ((hB1.block _ (Array.getElem?_eq_some_iff.1 HX.out).1).trans HX.out)
  have Y1 := Lib.hid ((hB1.block _ (Array.getElem?_eq_some_iff.1 HY.out).1).trans HY.out)
  have hsz : w.heap.size + 1 < w1.heap.size := (Array.getElem?_eq_some_iff.1 Y1.out).1
  have HB1 := Lib.hid hB01
  clear hB1 hB01 KV HB HX HY x0 x1 x2
  go_wp2_with (fail)
  refine (newlist_ok w1).mono ?_
  rintro e w2 ⟨bl, bm, rfl, hl2, hB2⟩
  have hbl := hl2.lt
  have hbm := hl2.mlt
  have hs2 := hB2.size
  have HL2 := Lib.hid hl2
  have HB2 := Lib.hid hB2
  have X2 := Lib.hid ((hB2.block _ (show w.heap.size < w1.heap.size by omega)).trans X1.out)
  clear hl2 hB2
  have hs3 : w.heap.size < w2.heap.size := by omega
  have hC4 : OpI w w1.heap.size bl bm (w2.heap.size + 1) (w2.heap.size + 1 + 1 + 1) w.heap.size w2.heap.size (w2.heap.size + 1 + 1) #[.int .i64 n, .slice pl L.length cl, .slice po out.length co] 0 (.slice none 0 0) [] (fun _ => none) ((((w2.alloc (.cells #[.pointer (some ⟨bl, 0, none⟩)] 74)).alloc (.map #[] 0)).alloc (.cells #[.map (some (w2.heap.size + 1))] 81)).alloc (.cells #[.func (.func 46) #[] #[.pointer (some ⟨w2.heap.size + 1 + 1, 0, none⟩), .pointer (some ⟨w.heap.size, 0, none⟩), .pointer (some ⟨w2.heap.size + 1 + 1 + 1, 0, none⟩), .pointer (some ⟨w2.heap.size, 0, none⟩)]] 60)) ∧ Below w2.heap.size w2 ((((w2.alloc (.cells #[.pointer (some ⟨bl, 0, none⟩)] 74)).alloc (.map #[] 0)).alloc (.cells #[.map (some (w2.heap.size + 1))] 81)).alloc (.cells #[.func (.func 46) #[] #[.pointer (some ⟨w2.heap.size + 1 + 1, 0, none⟩), .pointer (some ⟨w.heap.size, 0, none⟩), .pointer (some ⟨w2.heap.size + 1 + 1 + 1, 0, none⟩), .pointer (some ⟨w2.heap.size, 0, none⟩)]] 60)) := by
    have b1 : Below w2.heap.size w2 (w2.alloc (.cells #[.pointer (some ⟨bl, 0, none⟩)] 74)) := (Below.refl _ _).alloc (Nat.le_refl _) _
    have b2 : Below (w2.alloc (.cells #[.pointer (some ⟨bl, 0, none⟩)] 74)).heap.size (w2.alloc (.cells #[.pointer (some ⟨bl, 0, none⟩)] 74)) ((w2.alloc (.cells #[.pointer (some ⟨bl, 0, none⟩)] 74)).alloc (.map #[] 0)) := (Below.refl _ _).alloc (Nat.le_refl _) _
    have b3 : Below ((w2.alloc (.cells #[.pointer (some ⟨bl, 0, none⟩)] 74)).alloc (.map #[] 0)).heap.size ((w2.alloc (.cells #[.pointer (some ⟨bl, 0, none⟩)] 74)).alloc (.map #[] 0)) (((w2.alloc (.cells #[.pointer (some ⟨bl, 0, none⟩)] 74)).alloc (.map #[] 0)).alloc (.cells #[.map (some (w2.heap.size + 1))] 81)) := (Below.refl _ _).alloc (Nat.le_refl _) _
    have b4 : Below (((w2.alloc (.cells #[.pointer (some ⟨bl, 0, none⟩)] 74)).alloc (.map #[] 0)).alloc (.cells #[.map (some (w2.heap.size + 1))] 81)).heap.size (((w2.alloc (.cells #[.pointer (some ⟨bl, 0, none⟩)] 74)).alloc (.map #[] 0)).alloc (.cells #[.map (some (w2.heap.size + 1))] 81)) ((((w2.alloc (.cells #[.pointer (some ⟨bl, 0, none⟩)] 74)).alloc (.map #[] 0)).alloc (.cells #[.map (some (w2.heap.size + 1))] 81)).alloc (.cells #[.func (.func 46) #[] #[.pointer (some ⟨w2.heap.size + 1 + 1, 0, none⟩), .pointer (some ⟨w.heap.size, 0, none⟩), .pointer (some ⟨w2.heap.size + 1 + 1 + 1, 0, none⟩), .pointer (some ⟨w2.heap.size, 0, none⟩)]] 60)) := (Below.refl _ _).alloc (Nat.le_refl _) _
    have n1 := World.alloc_heap_new w2 (.cells #[.pointer (some ⟨bl, 0, none⟩)] 74)
    have n2 := MpI.new (w2.alloc (.cells #[.pointer (some ⟨bl, 0, none⟩)] 74))
    rw [alloc_sz] at n2
    have n3 := World.alloc_heap_new ((w2.alloc (.cells #[.pointer (some ⟨bl, 0, none⟩)] 74)).alloc (.map #[] 0)) (.cells #[.map (some (w2.heap.size + 1))] 81)
    rw [alloc_sz, alloc_sz] at n3
    have n4 := World.alloc_heap_new (((w2.alloc (.cells #[.pointer (some ⟨bl, 0, none⟩)] 74)).alloc (.map #[] 0)).alloc (.cells #[.map (some (w2.heap.size + 1))] 81)) (.cells #[.func (.func 46) #[] #[.pointer (some ⟨w2.heap.size + 1 + 1, 0, none⟩), .pointer (some ⟨w.heap.size, 0, none⟩), .pointer (some ⟨w2.heap.size + 1 + 1 + 1, 0, none⟩), .pointer (some ⟨w2.heap.size, 0, none⟩)]] 60)
    rw [alloc_sz, alloc_sz, alloc_sz] at n4
    have b14 : Below w2.heap.size w2 ((((w2.alloc (.cells #[.pointer (some ⟨bl, 0, none⟩)] 74)).alloc (.map #[] 0)).alloc (.cells #[.map (some (w2.heap.size + 1))] 81)).alloc (.cells #[.func (.func 46) #[] #[.pointer (some ⟨w2.heap.size + 1 + 1, 0, none⟩), .pointer (some ⟨w.heap.size, 0, none⟩), .pointer (some ⟨w2.heap.size + 1 + 1 + 1, 0, none⟩), .pointer (some ⟨w2.heap.size, 0, none⟩)]] 60)) := below_then (below_then (below_then b1 b2) b3) b4
    have z1 := alloc_sz w2 (.cells #[.pointer (some ⟨bl, 0, none⟩)] 74)
    have z2 := alloc_sz (w2.alloc (.cells #[.pointer (some ⟨bl, 0, none⟩)] 74)) (.map #[] 0)
    have z3 := alloc_sz ((w2.alloc (.cells #[.pointer (some ⟨bl, 0, none⟩)] 74)).alloc (.map #[] 0)) (.cells #[.map (some (w2.heap.size + 1))] 81)
    refine ⟨⟨HL2.out.grow b14, (n2.at (b3.block _ (by omega))).at (b4.block _ (by omega)), n4, (b4.block _ (by omega)).trans n3, (b4.block _ (by omega)).trans ((b3.block _ (by omega)).trans ((b2.block _ (by omega)).trans n1)), (b14.block _ hs3).trans X2.out, HB1.out.trans ((HB2.out.trans (b14.mono hs2)).mono HB1.out.size), by omega, by omega, by omega⟩, b14⟩
  have HC4 := Lib.hid hC4.1
  have HB4 := Lib.hid (below_then HB2.out hC4.2)
  have y2 : ((((w2.alloc (.cells #[.pointer (some ⟨bl, 0, none⟩)] 74)).alloc (.map #[] 0)).alloc (.cells #[.map (some (w2.heap.size + 1))] 81)).alloc (.cells #[.func (.func 46) #[] #[.pointer (some ⟨w2.heap.size + 1 + 1, 0, none⟩), .pointer (some ⟨w.heap.size, 0, none⟩), .pointer (some ⟨w2.heap.size + 1 + 1 + 1, 0, none⟩), .pointer (some ⟨w2.heap.size, 0, none⟩)]] 60)).cell? ⟨w.heap.size, 2, none⟩ = some (.slice po out.length co) := heapN_cellj hC4.1.tp (k := 2) rfl
  clear hC4
  go_wp2_with (fail)
  go_loopw [6, 19] (fun v i wr => ∃ (k n' : Nat) (u : Value) (M : Int → Option Nat), i = .int .i64 k ∧ k ≤ out.length ∧ OpI w w1.heap.size bl bm (w2.heap.size + 1) (w2.heap.size + 1 + 1 + 1) w.heap.size w2.heap.size (w2.heap.size + 1 + 1) #[.int .i64 n, .slice pl L.length cl, .slice po out.length co] n' u (compT (ts.take k) []).1 M wr ∧ KM L (compT (ts.take k) []).1 M ∧ n' ≤ cntM M L.length ∧ wr.ownsRow w1.heap.size 3 1 v k ((compT (ts.take k) []).2.map (fun x => Value.int .i64 x)) ∧ Below w1.heap.size w1 wr) (fun v i _ => out.length - (intOf i).toNat)
  case atStart => exact ⟨0, 0, .slice none 0 0, fun _ => none, rfl, Nat.zero_le _, HC4.out, km_start L, Nat.zero_le _, World.ownsRow_nil _ _ _ _, HB4.out⟩
  case round =>
    clear HC4 HB4 HL2 HB2 y2
    obtain ⟨k, n', u, M, rfl, hk, hcm, hkm, hcn, hrow, hB⟩ := hrel
    obtain ⟨pv, cv, rfl⟩ := own_ints hrow
    have HBr := Lib.hid hB
    have HCM := Lib.hid hcm
    have HKM := Lib.hid hkm
    have HCN := Lib.hid hcn
    have HR := Lib.hid hrow
    by_cases hlt : k < out.length
    · have i4 : (k : Int) < out.length := by omega
      obtain ⟨y, hy⟩ : ∃ y, out[k]? = some y := ⟨_, List.getElem?_eq_getElem hlt⟩
      have hyb := HOUT.out y (List.mem_of_getElem? hy)
      obtain ⟨j, rfl⟩ : ∃ j : Nat, y = j := ⟨y.toNat, by omega⟩
      have ht : ts[k]? = some (trL L L.length j) := by rw [← HTS.out, List.getElem?_map, hy]; rfl
      obtain ⟨bf, of, hpf, hbf, rdf⟩ := px_rd HO.out hy
      subst hpf
      have hBw : Below w.heap.size w wr := HB1.out.trans (hB.mono HB1.out.size)
      have f0 := rdf ⟨wr, hBw⟩
      have HSN := Lib.hid (compT_snoc ht)
      have KE := Lib.hid (oe_ok w w1.heap.size bl bm (w2.heap.size + 1) (w2.heap.size + 1 + 1 + 1) w.heap.size w2.heap.size (w2.heap.size + 1 + 1) (.int .i64 n) (.slice (some ⟨bf, of, none⟩) out.length co) pl cl L n HLX.out h400 hn6 HV.out L.length j (by omega) (by omega) n' u (compT (ts.take k) []).1 M wr hcm hkm hcn)
      have k0 := hcm.be.cell
      have hsr := hB.size
      have hol6 : out.length ≤ 6 := by have := HON.out; omega
      dsimp only at f0
      clear rdf hy hyb ht hcm hkm hcn hrow hB
      go_wp2_with (fail)
      refine KE.out.mono ?_
      rintro e w5 ⟨n5, u5, M5, rfl, hc5, hk5, hn5, _, he5⟩
      have hrow5 := row_exto HR.out he5 HCM.out (by decide) (by decide)
      have hfar := HCM.out.ls.far
      have hB5 : Below w1.heap.size wr w5 := ⟨hc5.bel.os.trans HCM.out.bel.os.symm, hc5.bel.tape.trans HCM.out.bel.tape.symm, hc5.bel.output.trans HCM.out.bel.output.symm, he5.size, fun q hq => he5.blk q (by omega) (by omega) (by omega) (by omega) (fun e => by have := (HCM.out.ls.off e.symm).2.2.1; omega)⟩
      have hs5 := he5.size
      have HC5 := Lib.hid hc5
      have HK5 := Lib.hid hk5
      have HN5 := Lib.hid hn5
      have HR5 := Lib.hid hrow5
      have HB5 := Lib.hid hB5
      clear KE k0 hc5 hk5 hn5 he5 hB5 hrow5
      go_wp2_with (at_builtin; refine wpList_append_own _ rfl (.tmp 23) (.tmp 27) 23 rfl w1.heap.size 3 i0 (.int .i64 0) 1 8 Try.underlying23 hi hz0 hz1 hz2 rfl (by decide) (.slice pv k cv) k _ rfl (own_keptN HR5.out ((Below.refl _ _).alloc (Nat.le_refl _) _)) ⟨w5.heap.size, 0, none⟩ 1 1 [.int .i64 (emitT (trL L L.length j) (compT (ts.take k) []).1).2] rfl rfl (new_one _ _ _) (one_i64' _) (by unfold maxLen; omega) (by omega) (by rw [alloc_sz]; omega) ?_)
      intro v' w6 hown' hgrow _
      have hba : Below w5.heap.size w5 (w5.alloc (.cells #[.int .i64 (emitT (trL L L.length j) (compT (ts.take k) []).1).2] 3)) := (Below.refl _ _).alloc (Nat.le_refl _) _
      have hrow6 := own_keptN HR5.out hba
      have hc6 := (HC5.out.grow hba).app hrow6 (by omega) hgrow
      have hB6 : Below w1.heap.size w1 w6 := Below.grown ((HBr.out.trans HB5.out).trans (hba.mono (by omega))) hgrow (by rw [alloc_sz]; omega) (fun j hj => (hrow6.lt j hj).1)
      obtain ⟨p', c', rfl⟩ := own_ints hown'
      have HC6 := Lib.hid hc6
      have HR6 := Lib.hid hown'
      have HB6 := Lib.hid hB6
      clear hba hrow6 hc6 hB6 hown' hgrow
      go_wp2_with (fail)
      go_roundw
      case rel =>
        refine ⟨k + 1, n5, u5, M5, by go_num, by omega, ?_, ?_, HN5.out, ?_, HB6.out⟩
        · rw [HSN.out]; exact HC6.out
        · rw [HSN.out]; exact HK5.out
        · rw [HSN.out]
          simpa using HR6.out
      case measure => simp [intOf]; omega
    · obtain rfl : k = out.length := by omega
      have i4 : ¬ (out.length : Int) < out.length := by omega
      have htk : ts.take out.length = ts := by rw [← HTL.out]; exact List.take_length
      rw [htk] at HCM HR
      obtain ⟨pu, cu, rfl⟩ := HCM.out.ls.shape
      have k0 := HCM.out.bb.cell
      have KT := Lib.hid (tape_ok w1.heap.size bl bm (.slice pu (compT ts []).1.length cu) (compT ts []).1 pv out.length cv wr HCM.out.ls (by have := HLE.out; omega) (by have := HON.out; omega))
      have HYr := (HBr.out.block _ hsz).trans Y1.out
      have hsr := HBr.out.size
      clear hcm hkm hcn hrow hB
      go_wp2_with (fail)
      refine KT.out.mono ?_
      rintro e w5 ⟨rfl, hB5⟩
      have hy5 := (hB5.block _ (show w.heap.size + 1 < wr.heap.size by omega)).trans HYr
      have z0 : w5.frozen? ⟨w.heap.size + 1, 0, none⟩ = false := by simp [World.frozen?, hy5]
      have z1 : w5.frozen? ⟨w.heap.size + 1, 1, none⟩ = false := by simp [World.frozen?, hy5]
      have z2 : w5.frozen? ⟨w.heap.size + 1, 2, none⟩ = false := by simp [World.frozen?, hy5]
      have x0 := heapN_cellj hy5 (k := 0) rfl
      have x1 := heapN_cellj hy5 (k := 1) rfl
      have x2 := heapN_cellj hy5 (k := 2) rfl
      have HR5 := Lib.hid (own_keptN HR.out hB5)
      have HU5 := Lib.hid (own_keptN HCM.out.ls.row hB5)
      have HB5 := Lib.hid hB5
      have hy6 := Lib.hid hy5
      clear hB5 hy5 KT HYr
      go_wp2_with (fail)
      have hs0 := cellsT_setN (o := 0) (u := .int .i64 out.length) hy6.out
      have hs1 := cellsT_setN (o := 1) (u := .slice pu (compT ts []).1.length cu) hs0
      have hs2 := cellsT_setN (o := 2) (u := .slice pv out.length cv) hs1
      have y0 := heapN_cellj hs2 (k := 0) (u := .int .i64 out.length) rfl
      have y1 := heapN_cellj hs2 (k := 1) (u := .slice pu (compT ts []).1.length cu) rfl
      have y2 := heapN_cellj hs2 (k := 2) (u := .slice pv out.length cv) rfl
      have hsz1 : w.heap.size ≤ w1.heap.size := by omega
      exact bodyPost_ret (v := .agg #[.int .i64 out.length, .slice pu (compT ts []).1.length cu, .slice pv out.length cv]) (by simp [results, Try.results19, go_sem, y0, y1, y2]) rfl ⟨_, _, by rw [HON.out], own_base (own_setT (own_setT (own_setT HU5.out hy6.out (by decide) _ _) hs0 (by decide) _ _) hs1 (by decide) _ _) hsz1, own_base (own_setT (own_setT (own_setT HR5.out hy6.out (by decide) _ _) hs0 (by decide) _ _) hs1 (by decide) _ _) hsz1, (((HB1.out.trans ((HBr.out.trans (HB5.out.mono hsr)).mono hsz1)).setCell (p := ⟨w.heap.size + 1, 0, none⟩) (by dsimp only; omega) _).setCell (p := ⟨w.heap.size + 1, 1, none⟩) (by dsimp only; omega) _).setCell (p := ⟨w.heap.size + 1, 2, none⟩) (by dsimp only; omega) _⟩
end Go.Proofs.Ytajddejeglhbhaa
