/-
  Of
-/
import Derived.Test.YtbppfohcicepcaaGreatKbn
import Derived.Deep.RegionHeld
namespace Go.Proofs.YtbppfohcicepcaaGreat
open Go.ChangeShapes Go.WideShapes Go.ChangeAt Go.RowKit Go.Maps
set_option linter.unusedVariables false
set_option linter.unusedSimpArgs false
set_option maxRecDepth 100000
attribute [local irreducible] Calls
theorem rootE_ok (a b : Int) (w : World) (hv : VI a b) : Calls Tryz.prog 85 #[.agg #[.int .i64 a, .int .i64 b]] w fun e w' => e = .returned (.agg #[.int .i64 (rtI (a, b)).1, .int .i64 (rtI (a, b)).2]) ∧ Below w.heap.size w w' := by
  obtain ⟨ha1, ha2, hb1, hb2, hab⟩ := hv.bd
  unfold rtI
  have hba : Below w.heap.size w ((w.alloc (.cells #[.int .i64 a, .int .i64 b] 26)).alloc (.cells #[.int .i64 0, .int .i64 0] 26)) := ((Below.refl _ _).alloc (Nat.le_refl _) _).alloc (by rw [alloc_sz]; omega) _
  have hX : ((w.alloc (.cells #[.int .i64 a, .int .i64 b] 26)).alloc (.cells #[.int .i64 0, .int .i64 0] 26)).heap[w.heap.size]? = some (.cells #[.int .i64 a, .int .i64 b] 26 (0, 0)) := (((Below.refl _ (w.alloc (.cells #[.int .i64 a, .int .i64 b] 26))).alloc (Nat.le_refl _) _).block _ (by rw [alloc_sz]; omega)).trans (World.alloc_heap_new w _)
  have hY : ((w.alloc (.cells #[.int .i64 a, .int .i64 b] 26)).alloc (.cells #[.int .i64 0, .int .i64 0] 26)).heap[w.heap.size + 1]? = some (.cells #[.int .i64 0, .int .i64 0] 26 (0, 0)) := by
    have := World.alloc_heap_new (w.alloc (.cells #[.int .i64 a, .int .i64 b] 26)) (.cells #[.int .i64 0, .int .i64 0] 26)
    rwa [alloc_sz] at this
  have HX := Lib.hid hX
  have HY := Lib.hid hY
  have HB := Lib.hid hba
  clear hX hY hba
  have hbl := fun (w1 : World) (h : Below ((w.alloc (.cells #[.int .i64 a, .int .i64 b] 26)).alloc (.cells #[.int .i64 0, .int .i64 0] 26)).heap.size ((w.alloc (.cells #[.int .i64 a, .int .i64 b] 26)).alloc (.cells #[.int .i64 0, .int .i64 0] 26)) w1) (p q : Int) => (((below_then HB.out h).setCell (p := ⟨w.heap.size + 1, 0, none⟩) (by dsimp only; omega) (.int .i64 p)).setCell (p := ⟨w.heap.size + 1, 1, none⟩) (by dsimp only; omega) (.int .i64 q))
  by_cases h1 : a < 0
  · rw [if_pos h1]
    dsimp only
    go_enter Tryz.func85, Tryz.ntmps85
    go_wp2_with (fail)
    refine (iv_entire _).mono ?_
    rintro e w1 ⟨rfl, hB⟩
    have hy := (hB.block _ (Array.getElem?_eq_some_iff.1 HY.out).1).trans HY.out
    have y0 := heapN_cellj hy (k := 0) rfl
    have y1 := heapN_cellj hy (k := 1) rfl
    have z0 : w1.frozen? ⟨w.heap.size + 1, 0, none⟩ = false := by simp [World.frozen?, hy]
    have z1 : w1.frozen? ⟨w.heap.size + 1, 1, none⟩ = false := by simp [World.frozen?, hy]
    have HW := Lib.hid (hbl w1 hB)
    clear hB hbl
    go_wp2_with (fail)
    have hs := cellsT_setN (o := 1) (u := .int .i64 2147483648) (cellsT_setN (o := 0) (u := .int .i64 (-2147483648)) hy)
    have x0 := heapN_cellj hs (k := 0) (u := .int .i64 (-2147483648)) rfl
    have x1 := heapN_cellj hs (k := 1) (u := .int .i64 2147483648) rfl
    exact bodyPost_ret (v := .agg #[.int .i64 (-2147483648), .int .i64 2147483648]) (by simp [results, Tryz.results85, go_sem, x0, x1]) rfl ⟨rfl, HW.out _ _⟩
  · rw [if_neg h1]
    dsimp only
    have hne : ¬ Ent a b := fun h => by have := h.1; omega
    have KS := Lib.hid (fun w => iv_sqrt_pos a b w hne (by omega) (by omega) (by omega))
    obtain ⟨c, hc⟩ : ∃ c, mkLo (rt1 a) (rt2 b) = c := ⟨_, rfl⟩
    obtain ⟨d, hd⟩ : ∃ d, mkHi (rt1 a) (rt2 b) = d := ⟨_, rfl⟩
    rw [hc, hd] at KS ⊢
    clear hc hd
    go_enter Tryz.func85, Tryz.ntmps85
    go_wp2_with (fail)
    refine (KS.out _).mono ?_
    rintro e w1 ⟨rfl, hB⟩
    have hy := (hB.block _ (Array.getElem?_eq_some_iff.1 HY.out).1).trans HY.out
    have hs1 := hB.size
    rw [alloc_sz, alloc_sz] at hs1
    have hy2 := ((((Below.refl w1.heap.size w1).alloc (Nat.le_refl _) (.cells #[.int .i64 c, .int .i64 d] 26))).block (w.heap.size + 1) (by omega)).trans hy
    have y0 := heapN_cellj hy2 (k := 0) rfl
    have y1 := heapN_cellj hy2 (k := 1) rfl
    have z0 : (w1.alloc (.cells #[.int .i64 c, .int .i64 d] 26)).frozen? ⟨w.heap.size + 1, 0, none⟩ = false := by simp [World.frozen?, hy2]
    have z1 : (w1.alloc (.cells #[.int .i64 c, .int .i64 d] 26)).frozen? ⟨w.heap.size + 1, 1, none⟩ = false := by simp [World.frozen?, hy2]
    have HW := Lib.hid (hbl _ (hB.alloc hB.size (.cells #[.int .i64 c, .int .i64 d] 26)))
    clear hB hbl
    go_wp2_with (fail)
    have hs := cellsT_setN (o := 1) (u := .int .i64 d) (cellsT_setN (o := 0) (u := .int .i64 c) hy2)
    have x0 := heapN_cellj hs (k := 0) (u := .int .i64 c) rfl
    have x1 := heapN_cellj hs (k := 1) (u := .int .i64 d) rfl
    exact bodyPost_ret (v := .agg #[.int .i64 c, .int .i64 d]) (by simp [results, Tryz.results85, go_sem, x0, x1]) rfl ⟨rfl, HW.out _ _⟩

/-- Function values in a map, read as numbers. -/
def elF (v : Value) : Option (DataW Unit × List MemPlace) := match v with
  | .func (.func f) ⟨[]⟩ ⟨[]⟩ => some (dN f, [])
  | _ => some (.lit (.int .i64 (-1)), [])
theorem elF_inv {v : Value} {f : Nat} {p : List MemPlace} (h : elF v = some (dN f, p)) : v = .func (.func f) #[] #[] := by
  unfold elF at h
  split at h
  · simp [dN] at h
    obtain ⟨h1, _⟩ := h
    have h2 : _ = f := Int.ofNat.inj h1
    subst h2
    rfl
  · simp [dN] at h
def FpI (mb n : Nat) (M : Int → Option Nat) (W : World) : Prop := ∃ D, W.ownsMap Tryz.prog 3 elF mb n D ∧ MpK M D
section
variable {mb n : Nat} {M : Int → Option Nat} {W W' : World}
theorem FpI.get (h : FpI mb n M W) {i : Int} (hi : W64 i) {b : Nat} (hb : M i = some b) : (Instr.lookup 101 (.map (some mb)) (.int .i64 i) false).run Tryz.prog W = .ok (.func (.func b) #[] #[]) W := by
  obtain ⟨D, h1, h2⟩ := h
  obtain ⟨z, hz⟩ : ∃ z, ∀ w, (zeroValue 59).run Tryz.prog w = .ok z w := ⟨_, fun w => rfl⟩
  obtain ⟨zd, zp, hzd⟩ : ∃ zd zp, elF z = some (zd, zp) := by
    unfold elF
    split
    · exact ⟨_, _, rfl⟩
    · exact ⟨_, _, rfl⟩
  obtain ⟨v, ps, hrun, hv⟩ := h1.lookup lawZ Tryz.underlying101 (z := z) (hz W) (zd := zd) (zp := zp) hzd (keyZ hi)
  rw [(h2.2 i hi).2 b hb] at hv
  obtain rfl := elF_inv hv
  exact hrun
theorem FpI.put (h : FpI mb n M W) {i : Int} (hi : W64 i) (a : Nat) (hn : n < maxLen) : ∃ w8, (Instr.mapUpdate 101 (.map (some mb)) (.int .i64 i) (.func (.func a) #[] #[])).run Tryz.prog W = .ok () w8 ∧ FpI mb (n + 1) (updM M i a) w8 ∧ W.grownBy w8 (some mb) := by
  obtain ⟨D, h1, h2⟩ := h
  obtain ⟨w8, hrun, m8, g8⟩ := h1.update (val := .func (.func a) #[] #[]) lawZ Tryz.underlying101 hn (keyZ hi) (d := dN a) (ps := []) rfl
  exact ⟨w8, hrun, ⟨_, m8, mpK_put h2 i a⟩, g8⟩
theorem FpI.kept {row : Option Nat} (h : FpI mb n M W) (hg : W.grownBy W' row) (hne : some mb ≠ row) : FpI mb n M W' := by
  obtain ⟨D, h1, h2⟩ := h
  exact ⟨D, h1.kept hg hne, h2⟩
theorem FpI.lt (h : FpI mb n M W) : mb < W.heap.size := by
  obtain ⟨D, h1, _⟩ := h
  exact h1.lt
theorem FpI.new (W : World) : FpI W.heap.size 0 (fun _ => none) (W.alloc (.map #[] 0)) := ⟨_, World.ownsMap_made (H := Unit) W Tryz.prog 3 elF, mpK_start⟩
theorem FpI.grow (h : FpI mb n M W) (hB : Below W.heap.size W W') : FpI mb n M W' := h.kept (grown_belowN hB) (by simp)
end
/-- The operations on two operands. -/
def binM : Int → Option Nat := updM (updM (updM (updM (fun _ => none) 7 56) 8 114) 9 57) 10 115
set_option maxHeartbeats 4000000 in
theorem binops_ok (w : World) : Calls Tryz.prog 81 #[] w fun e w' => ∃ bm, e = .returned (.map (some bm)) ∧ w.heap.size ≤ bm ∧ FpI bm 4 binM w' ∧ Below w.heap.size w w' := by
  have hmm := @run_makeMap Tryz.prog
  obtain ⟨w1, r1, h1, g1⟩ := (FpI.new w).put (i := 7) (by unfold W64; omega) 56 (by decide)
  obtain ⟨w2, r2, h2, g2⟩ := h1.put (i := 8) (by unfold W64; omega) 114 (by decide)
  obtain ⟨w3, r3, h3, g3⟩ := h2.put (i := 9) (by unfold W64; omega) 57 (by decide)
  obtain ⟨w4, r4, h4, g4⟩ := h3.put (i := 10) (by unfold W64; omega) 115 (by decide)
  have hB : Below w.heap.size w w4 := by
    have b0 : Below w.heap.size w (w.alloc (.map #[] 0)) := (Below.refl _ _).alloc (Nat.le_refl _) _
    have hk : ∀ k, some w.heap.size = some k → w.heap.size ≤ k := fun k hk => by cases hk; exact Nat.le_refl _
    have b1 := b0.grown g1 b0.size hk
    have b2 := b1.grown g2 b1.size hk
    have b3 := b2.grown g3 b2.size hk
    exact b3.grown g4 b3.size hk
  have H4 := Lib.hid h4
  have HB := Lib.hid hB
  clear h1 h2 h3 h4 g1 g2 g3 g4 hB
  go_enter Tryz.func81, Tryz.ntmps81
  go_wp2_with (fail)
  go_ret
  exact ⟨_, rfl, Nat.le_refl _, H4.out, HB.out⟩


theorem heap_setE (W : World) {X Y : Nat} (h : Y ≠ X) (o : Nat) (v : Value) : (W.setCell ⟨X, o, none⟩ v).heap[Y]? = W.heap[Y]? := by
  show (W.heap.modify X _)[Y]? = _
  rw [Array.getElem?_modify, if_neg (Ne.symm h)]
/-- The boxes of an evaluation: the rest of the nodes, the box, the time, the closure, the operations. -/
structure EvS (W0 : World) (rb xb tb nb mb mm : Nat) (xv : Value) (t1 t2 : Int) (v : Value) (R : List Nd) (W : World) : Prop where
  far : W0.heap.size ≤ rb ∧ xb ≠ rb ∧ tb ≠ rb ∧ nb ≠ rb ∧ mb ≠ rb ∧ mm ≠ rb
  bel : Below W0.heap.size W0 W
  br : W.heap[rb]? = some (.cells #[v] 23 (0, 0))
  bx : W.heap[xb]? = some (.cells #[xv] 24 (0, 0))
  bt : W.heap[tb]? = some (.cells #[.int .i64 t1, .int .i64 t2] 26 (0, 0))
  bn : W.heap[nb]? = some (.cells #[.func (.func 82) #[] #[.pointer (some ⟨rb, 0, none⟩), .pointer (some ⟨xb, 0, none⟩), .pointer (some ⟨tb, 0, none⟩), .pointer (some ⟨nb, 0, none⟩), .pointer (some ⟨mb, 0, none⟩)]] 68 (0, 0))
  bm : W.heap[mb]? = some (.cells #[.map (some mm)] 101 (0, 0))
  mp : FpI mm 4 binM W
  nx : NxC W0 v R
section
variable {W0 W W' : World} {rb xb tb nb mb mm : Nat} {xv v v' : Value} {t1 t2 : Int} {R R' : List Nd}
theorem EvS.grow (h : EvS W0 rb xb tb nb mb mm xv t1 t2 v R W) (hB : Below W.heap.size W W') : EvS W0 rb xb tb nb mb mm xv t1 t2 v R W' := by
  have k : ∀ {b : Nat} {o : Obj}, W.heap[b]? = some o → W'.heap[b]? = some o := fun e => (hB.block _ (Array.getElem?_eq_some_iff.1 e).1).trans e
  exact ⟨h.far, h.bel.trans (hB.mono h.bel.size), k h.br, k h.bx, k h.bt, k h.bn, k h.bm, h.mp.grow hB, h.nx⟩
theorem EvS.put (h : EvS W0 rb xb tb nb mb mm xv t1 t2 v R W) (hn : NxC W0 v' R') : EvS W0 rb xb tb nb mb mm xv t1 t2 v' R' (W.setCell ⟨rb, 0, none⟩ v') := by
  obtain ⟨f1, f2, f3, f4, f5, f6⟩ := h.far
  exact ⟨h.far, h.bel.setCell (p := ⟨rb, 0, none⟩) f1 _, cellsT_setN (o := 0) (u := v') h.br, (heap_setE W f2 0 v').trans h.bx, (heap_setE W f3 0 v').trans h.bt, (heap_setE W f4 0 v').trans h.bn, (heap_setE W f5 0 v').trans h.bm, h.mp.kept (grownBy_setN _ ⟨rb, 0, none⟩ v') (fun e => f6 (Option.some.inj e)), hn⟩
theorem EvS.lt (h : EvS W0 rb xb tb nb mb mm xv t1 t2 v R W) : rb < W.heap.size := (Array.getElem?_eq_some_iff.1 h.br).1
theorem Oth.ofBelow {eb : Nat} (h : Below W.heap.size W W') : Oth eb W W' := ⟨h.os, h.tape, h.output, h.size, fun k hk _ => h.block k hk⟩
end
/-- The rest behind the first node. -/
theorem rest_cut {W0 : World} {x0 : Nd} {r0 : List Nd} {p : Option Addr} {c : Nat} (hv0 : Nx W0 (.slice p (x0 :: r0).length c) (x0 :: r0)) (hcap : (x0 :: r0).length ≤ c) : ∃ (q : Option Addr) (cc : Nat), NxC W0 (.slice q r0.length cc) r0 ∧ ∀ w, (Instr.sliceAt 23 (.slice p (r0.length + 1) c) (some (.int .i64 1)) none none).run Tryz.prog w = .ok (.slice q r0.length cc) w := by
  have hs : ∀ w, (sizeOf (Tryz.prog.elem 23)).run Tryz.prog w = .ok 4 w := fun w => by simp [go_sem]
  have key : ∀ w, (Instr.sliceAt 23 (.slice p (r0.length + 1) c) (some (.int .i64 1)) none none).run Tryz.prog w = .ok (.slice (if c = 1 then p else p.map (·.add (1 * 4))) r0.length (c - 1)) w := fun w => by
    rw [run_sliceAt_slice w 23 _ _ _ _ Tryz.underlying23, run_slice_l w 23 p (r0.length + 1) c Tryz.underlying23 .i64 1 (by omega) (by omega), hs w]
    rfl
  refine ⟨_, _, ?_, key⟩
  obtain ⟨b, o, rfl, hbs, rd⟩ := nd_rd (i := 0) hv0 rfl
  simp only [List.length_cons] at hv0 hcap
  by_cases hc1 : c = 1
  · rw [if_pos hc1]
    have hd := hv0.drop (k := 1) (c' := c - 1) (q := some ⟨b, o, none⟩) (by omega) (fun h => by omega)
    rw [List.drop_succ_cons, List.drop_zero] at hd
    exact ⟨hd, _, _, rfl, by omega, fun h => by cases h⟩
  · rw [if_neg hc1]
    have hd := hv0.drop (k := 1) (c' := c - 1) (q := some ⟨b, o + 1 * 4, none⟩) (by omega) (fun h => rfl)
    rw [List.drop_succ_cons, List.drop_zero] at hd
    exact ⟨hd, _, _, rfl, by omega, fun h => by cases h⟩


section
variable {W0 W W' : World} {rb xb tb nb mb mm X : Nat} {xv v v0 : Value} {t1 t2 : Int} {R R0 : List Nd}
theorem EvS.set (h0 : EvS W0 rb xb tb nb mb mm xv t1 t2 v0 R0 W) (h : EvS W0 rb xb tb nb mb mm xv t1 t2 v R W') (hX : W.heap.size ≤ X) (o : Nat) (u : Value) : EvS W0 rb xb tb nb mb mm xv t1 t2 v R (W'.setCell ⟨X, o, none⟩ u) := by
  have k : ∀ {b : Nat} {o1 : Obj}, W.heap[b]? = some o1 → b ≠ X := fun e => by have := (Array.getElem?_eq_some_iff.1 e).1; omega
  have hm := h0.mp.lt
  exact ⟨h.far, h.bel.setCell (p := ⟨X, o, none⟩) (Nat.le_trans h0.bel.size hX) _, (heap_setE W' (k h0.br) o u).trans h.br, (heap_setE W' (k h0.bx) o u).trans h.bx, (heap_setE W' (k h0.bt) o u).trans h.bt, (heap_setE W' (k h0.bn) o u).trans h.bn, (heap_setE W' (k h0.bm) o u).trans h.bm, h.mp.kept (grownBy_setN _ ⟨X, o, none⟩ u) (fun e => by have e2 : mm = X := Option.some.inj e; omega), h.nx⟩
theorem Oth.setO (h : Oth rb W W') (hX : W.heap.size ≤ X) (o : Nat) (u : Value) : Oth rb W (W'.setCell ⟨X, o, none⟩ u) :=
  ⟨h.os, h.tape, h.output, by have := h.size; simpa using this, fun k hk hn => (heap_setE W' (by omega) o u).trans (h.blk k hk hn)⟩
end
set_option maxHeartbeats 8000000 in
theorem ev_e0 (W0 : World) (rb xb tb nb mb mm : Nat) (xv : Value) (t1 t2 : Int) (X : List (Int × Int)) (N : Int) (hxv : Vx W0 xv X) (hN : (X.length : Int) = N) (hvx : ∀ p ∈ X, VI p.1 p.2) (hvt : VI t1 t2) (x : Nd) (he : EV N (.e0 x)) (R : List Nd) (v : Value) (W : World) (h : EvS W0 rb xb tb nb mb mm xv t1 t2 v (x :: R) W) :
    Calls Tryz.prog 82 #[.pointer (some ⟨rb, 0, none⟩), .pointer (some ⟨xb, 0, none⟩), .pointer (some ⟨tb, 0, none⟩), .pointer (some ⟨nb, 0, none⟩), .pointer (some ⟨mb, 0, none⟩)] W fun en w' => ∃ v', en = .returned (.agg #[.int .i64 (evT X (t1, t2) (.e0 x)).1, .int .i64 (evT X (t1, t2) (.e0 x)).2]) ∧ EvS W0 rb xb tb nb mb mm xv t1 t2 v' R w' ∧ Oth rb W w' := by
  obtain ⟨op, n, lo, hi⟩ := x
  obtain ⟨hnx, p, c, rfl, hcap, hpc⟩ := h.nx
  obtain ⟨q, cc, hV, hsl⟩ := rest_cut hnx hcap
  obtain ⟨b, o, rfl, hbs, rd⟩ := nd_rd (i := 0) hnx rfl
  have i1 : (0 : Int) < (R.length : Int) + 1 := by omega
  have hS1 : Below W.heap.size W (W.alloc (.cells #[.int .i64 0, .int .i64 0] 26)) := (Below.refl _ _).alloc (Nat.le_refl _) _
  have hS2 : Below (W.alloc (.cells #[.int .i64 0, .int .i64 0] 26)).heap.size (W.alloc (.cells #[.int .i64 0, .int .i64 0] 26)) ((W.alloc (.cells #[.int .i64 0, .int .i64 0] 26)).alloc (.cells #[.int .i64 op, .int .i64 n, .int .i64 lo, .int .i64 hi] 63)) := (Below.refl _ _).alloc (Nat.le_refl _) _
  have E1 := h.grow hS1
  have E2 := E1.grow hS2
  have hrl := h.lt
  have hsz : (W.setCell ⟨rb, 0, none⟩ (.slice q R.length cc)).heap.size = W.heap.size := by simp
  have hT1 : Below (W.setCell ⟨rb, 0, none⟩ (.slice q R.length cc)).heap.size (W.setCell ⟨rb, 0, none⟩ (.slice q R.length cc)) ((W.setCell ⟨rb, 0, none⟩ (.slice q R.length cc)).alloc (.cells #[.int .i64 0, .int .i64 0] 26)) := (Below.refl _ _).alloc (Nat.le_refl _) _
  have hT2 : Below ((W.setCell ⟨rb, 0, none⟩ (.slice q R.length cc)).alloc (.cells #[.int .i64 0, .int .i64 0] 26)).heap.size ((W.setCell ⟨rb, 0, none⟩ (.slice q R.length cc)).alloc (.cells #[.int .i64 0, .int .i64 0] 26)) (((W.setCell ⟨rb, 0, none⟩ (.slice q R.length cc)).alloc (.cells #[.int .i64 0, .int .i64 0] 26)).alloc (.cells #[.int .i64 op, .int .i64 n, .int .i64 lo, .int .i64 hi] 63)) := (Below.refl _ _).alloc (Nat.le_refl _) _
  have E3 := ((h.put hV).grow hT1).grow hT2
  have r1 := heapN_cellj E1.br (k := 0) rfl
  have r2 := heapN_cellj E2.br (k := 0) rfl
  have z2 : ((W.alloc (.cells #[.int .i64 0, .int .i64 0] 26)).alloc (.cells #[.int .i64 op, .int .i64 n, .int .i64 lo, .int .i64 hi] 63)).frozen? ⟨rb, 0, none⟩ = false := by simp [World.frozen?, E2.br]
  obtain ⟨f0, f1, f2, f3⟩ := rd ⟨_, E1.bel⟩
  rw [Nat.zero_mul, Nat.add_zero] at f0 f1 f2 f3
  dsimp only at f0 f1 f2 f3
  have hnd : (((W.setCell ⟨rb, 0, none⟩ (.slice q R.length cc)).alloc (.cells #[.int .i64 0, .int .i64 0] 26)).alloc (.cells #[.int .i64 op, .int .i64 n, .int .i64 lo, .int .i64 hi] 63)).heap[W.heap.size + 1]? = some (.cells #[.int .i64 op, .int .i64 n, .int .i64 lo, .int .i64 hi] 63 (0, 0)) := by
    have := World.alloc_heap_new ((W.setCell ⟨rb, 0, none⟩ (.slice q R.length cc)).alloc (.cells #[.int .i64 0, .int .i64 0] 26)) (.cells #[.int .i64 op, .int .i64 n, .int .i64 lo, .int .i64 hi] 63)
    rwa [alloc_sz, hsz] at this
  have hrs : (((W.setCell ⟨rb, 0, none⟩ (.slice q R.length cc)).alloc (.cells #[.int .i64 0, .int .i64 0] 26)).alloc (.cells #[.int .i64 op, .int .i64 n, .int .i64 lo, .int .i64 hi] 63)).heap[W.heap.size]? = some (.cells #[.int .i64 0, .int .i64 0] 26 (0, 0)) := by
    have h1 := World.alloc_heap_new (W.setCell ⟨rb, 0, none⟩ (.slice q R.length cc)) (.cells #[.int .i64 0, .int .i64 0] 26)
    rw [hsz] at h1
    exact (hT2.block W.heap.size (by rw [alloc_sz, hsz]; omega)).trans h1
  have o3 : Oth rb W (((W.setCell ⟨rb, 0, none⟩ (.slice q R.length cc)).alloc (.cells #[.int .i64 0, .int .i64 0] 26)).alloc (.cells #[.int .i64 op, .int .i64 n, .int .i64 lo, .int .i64 hi] 63)) := (Oth.set rb W (.slice q R.length cc)).trans (Oth.ofBelow (hT1.trans (hT2.mono hT1.size)))
  have H3g := Lib.hid (fun (u1 u2 : Value) => show EvS W0 rb xb tb nb mb mm xv t1 t2 (.slice q R.length cc) R (((W.setCell ⟨rb, 0, none⟩ (.slice q R.length cc)).alloc (.cells #[u1, u2] 26)).alloc (.cells #[.int .i64 op, .int .i64 n, .int .i64 lo, .int .i64 hi] 63)) from ((h.put hV).grow ((Below.refl _ _).alloc (Nat.le_refl _) _)).grow ((Below.refl _ _).alloc (Nat.le_refl _) _))
  have O3g := Lib.hid (fun (u1 u2 : Value) => show Oth rb W (((W.setCell ⟨rb, 0, none⟩ (.slice q R.length cc)).alloc (.cells #[u1, u2] 26)).alloc (.cells #[.int .i64 op, .int .i64 n, .int .i64 lo, .int .i64 hi] 63)) from (Oth.set rb W (.slice q R.length cc)).trans ((Oth.ofBelow ((Below.refl _ _).alloc (Nat.le_refl _) _)).trans (Oth.ofBelow ((Below.refl _ _).alloc (Nat.le_refl _) _))))
  have H3 := Lib.hid E3
  have HN3 := Lib.hid hnd
  have HR3 := Lib.hid hrs
  have O3 := Lib.hid o3
  clear hS1 hS2 E1 E2 E3 hnd hrs o3 rd hpc hV hnx hT1 hT2 hsz
  simp only [List.length_cons] at r1 r2
  have n0 := heapN_cellj HN3.out (k := 0) rfl
  have n1 := heapN_cellj HN3.out (k := 1) rfl
  have n2 := heapN_cellj HN3.out (k := 2) rfl
  have n3 := heapN_cellj HN3.out (k := 3) rfl
  have y0 := heapN_cellj HR3.out (k := 0) rfl
  have y1 := heapN_cellj HR3.out (k := 1) rfl
  have z0 : (((W.setCell ⟨rb, 0, none⟩ (.slice q R.length cc)).alloc (.cells #[.int .i64 0, .int .i64 0] 26)).alloc (.cells #[.int .i64 op, .int .i64 n, .int .i64 lo, .int .i64 hi] 63)).frozen? ⟨W.heap.size, 0, none⟩ = false := by simp [World.frozen?, show (((W.setCell ⟨rb, 0, none⟩ (.slice q R.length cc)).alloc (.cells #[.int .i64 0, .int .i64 0] 26)).alloc (.cells #[.int .i64 op, .int .i64 n, .int .i64 lo, .int .i64 hi] 63)).heap[W.heap.size]? = some (.cells #[.int .i64 0, .int .i64 0] 26 (0, 0)) from HR3.out]
  have z1 : (((W.setCell ⟨rb, 0, none⟩ (.slice q R.length cc)).alloc (.cells #[.int .i64 0, .int .i64 0] 26)).alloc (.cells #[.int .i64 op, .int .i64 n, .int .i64 lo, .int .i64 hi] 63)).frozen? ⟨W.heap.size, 1, none⟩ = false := by simp [World.frozen?, show (((W.setCell ⟨rb, 0, none⟩ (.slice q R.length cc)).alloc (.cells #[.int .i64 0, .int .i64 0] 26)).alloc (.cells #[.int .i64 op, .int .i64 n, .int .i64 lo, .int .i64 hi] 63)).heap[W.heap.size]? = some (.cells #[.int .i64 0, .int .i64 0] 26 (0, 0)) from HR3.out]
  have HH := Lib.hid h
  have hev0 := h.bel.size
  have hop := ar0_op he.1 he.2
  have hvn := he.2
  dsimp only at hop hvn
  rcases hop with rfl | rfl | rfl
  · have hev : evT X (t1, t2) (.e0 ⟨1, n, lo, hi⟩) = (lo, hi) := by simp [evT]
    rw [hev]
    clear hev hvn he h
    go_enter Tryz.func82, Tryz.ntmps82
    go_wp2_with (fail)
    have hs := cellsT_setN (o := 1) (u := .int .i64 hi) (cellsT_setN (o := 0) (u := .int .i64 lo) HR3.out)
    have x0 := heapN_cellj hs (k := 0) (u := .int .i64 lo) rfl
    have x1 := heapN_cellj hs (k := 1) (u := .int .i64 hi) rfl
    exact bodyPost_ret (v := .agg #[.int .i64 lo, .int .i64 hi]) (by simp [results, Tryz.results82, go_sem, x0, x1]) rfl ⟨_, rfl, H3g.out _ _, O3g.out _ _⟩
  · have hvn2 : 0 ≤ n ∧ n < N := by
      unfold vnB at hvn
      simp at hvn
      exact hvn.2
    obtain ⟨k, rfl⟩ : ∃ k : Nat, n = k := ⟨n.toNat, by omega⟩
    obtain ⟨⟨a1, a2⟩, hx⟩ : ∃ y, X[k]? = some y := ⟨_, List.getElem?_eq_getElem (by omega)⟩
    have hev : evT X (t1, t2) (.e0 ⟨2, k, lo, hi⟩) = (a1, a2) := by
      simp [evT, List.getD_eq_getElem?_getD, hx]
    rw [hev]
    obtain ⟨px, cx, rfl⟩ := hxv.cut
    obtain ⟨bl, ol, rfl, hbl, rdl⟩ := vx_rd hxv hx
    obtain ⟨g0, g1⟩ := rdl ⟨_, H3.out.bel⟩
    dsimp only at g0 g1
    have q0 := heapN_cellj H3.out.bx (k := 0) rfl
    have i2 : (k : Int) < X.length := by omega
    clear hev hvn hvn2 he h hx rdl hxv
    go_enter Tryz.func82, Tryz.ntmps82
    go_wp2_with (fail)
    have hs := cellsT_setN (o := 1) (u := .int .i64 a2) (cellsT_setN (o := 0) (u := .int .i64 a1) HR3.out)
    have x0 := heapN_cellj hs (k := 0) (u := .int .i64 a1) rfl
    have x1 := heapN_cellj hs (k := 1) (u := .int .i64 a2) rfl
    exact bodyPost_ret (v := .agg #[.int .i64 a1, .int .i64 a2]) (by simp [results, Tryz.results82, go_sem, x0, x1]) rfl ⟨_, rfl, H3g.out _ _, O3g.out _ _⟩
  · have hev : evT X (t1, t2) (.e0 ⟨3, n, lo, hi⟩) = (t1, t2) := by simp [evT]
    rw [hev]
    have q0 := heapN_cellj H3.out.bt (k := 0) rfl
    have q1 := heapN_cellj H3.out.bt (k := 1) rfl
    clear hev hvn he h
    go_enter Tryz.func82, Tryz.ntmps82
    go_wp2_with (fail)
    have hs := cellsT_setN (o := 1) (u := .int .i64 t2) (cellsT_setN (o := 0) (u := .int .i64 t1) HR3.out)
    have x0 := heapN_cellj hs (k := 0) (u := .int .i64 t1) rfl
    have x1 := heapN_cellj hs (k := 1) (u := .int .i64 t2) rfl
    exact bodyPost_ret (v := .agg #[.int .i64 t1, .int .i64 t2]) (by simp [results, Tryz.results82, go_sem, x0, x1]) rfl ⟨_, rfl, H3g.out _ _, O3g.out _ _⟩
end Go.Proofs.YtbppfohcicepcaaGreat
