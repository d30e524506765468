/-
  Jm
-/
import Derived.Test.YtbppfohcicepcaaGreatKbm
import Derived.Test.YtbppfohcicepcaaGreatKbz
import Derived.Test.YtbppfohcicepcaaGreatKbza
namespace Go.Proofs.YtbppfohcicepcaaGreat
open Go.ChangeShapes Go.WideShapes Go.ChangeAt Go.RowKit
set_option linter.unusedVariables false
set_option linter.unusedSimpArgs false
set_option maxRecDepth 100000
attribute [local irreducible] Calls
open Go.Maps
instance evDec (N : Int) : ∀ e : Ex, Decidable (EV N e)
  | .e0 x => inferInstanceAs (Decidable (_ ∧ _))
  | .e1 x a => have := evDec N a; inferInstanceAs (Decidable ((_ ∧ _) ∧ EV N a))
  | .e2 x a b => have := evDec N a; have := evDec N b; inferInstanceAs (Decidable ((_ ∧ _) ∧ EV N a ∧ EV N b))
theorem un_q (op : Int) (v : Value) (a : Ex) (w : World) (hv : NxC w v (pre a)) (hl : (pre a).length ≤ 1000) : Calls Tryz.prog 35 #[.int .i64 op, v] w fun e w' => ∃ z, e = .returned z ∧ NsQ w' z (pre (.e1 (ndo op) a)) ∧ Below w.heap.size w w' := by
  refine (unary7_ok op v (pre a) w hv hl).mono ?_
  rintro e w' ⟨z, rfl, hr, hB⟩
  refine ⟨_, rfl, nsq_own (B := w.heap.size) ?_ (by simp only [pre, List.length_cons]; unfold maxLen; omega), hB⟩
  have e1 : (pre (.e1 (ndo op) a)).length = 1 + (pre a).length := by simp only [pre, List.length_cons]; omega
  rw [e1]
  exact hr
theorem bin_q (op : Int) (v u : Value) (a b : Ex) (w : World) (hv : NxC w v (pre a)) (hu : NxC w u (pre b)) (hl : (pre a).length ≤ 1000) (hm : (pre b).length ≤ 1000) : Calls Tryz.prog 30 #[.int .i64 op, v, u] w fun e w' => ∃ z, e = .returned z ∧ NsQ w' z (pre (.e2 (ndo op) a b)) ∧ Below w.heap.size w w' := by
  refine (binary7_ok op v u (pre a) (pre b) w hv hu hl hm).mono ?_
  rintro e w' ⟨z, rfl, hr, hB⟩
  refine ⟨_, rfl, nsq_own (B := w.heap.size) ?_ (by simp only [pre, List.length_cons, List.length_append]; unfold maxLen; omega), hB⟩
  have e1 : (pre (.e2 (ndo op) a b)).length = 1 + (pre a).length + (pre b).length := by simp only [pre, List.length_cons, List.length_append]; omega
  rw [e1]
  exact hr
theorem num_q (k : Int) (w : World) (h1 : -32767 ≤ k) (h2 : k ≤ 32767) : Calls Tryz.prog 29 #[.int .i64 k] w fun e w' => ∃ z, e = .returned z ∧ NsQ w' z (pre (pt (k * 65536))) ∧ Below w.heap.size w w' := by
  refine (number10_ok k w h1 h2).mono ?_
  rintro e w' ⟨z, rfl, hr, hB⟩
  exact ⟨_, rfl, nsq_own hr (by simp [pt, pre, maxLen]), hB⟩
theorem diff_q (N : Int) (hN : N ≤ 1000) (i : Int) (hi : W64 i) (v : Value) (a : Ex) (w : World) (hv : NxC w v (pre a)) (he : EV N a) (hl : (pre a).length ≤ 200) : Calls Tryz.prog 17 #[v, .int .i64 i] w fun e w' => ∃ z, e = .returned z ∧ NsQ w' z (pre (dD ⟨2, i, 0, 0⟩ a)) ∧ Below w.heap.size w w' := by
  refine (diff_ok N hN i hi v a w hv he hl).mono ?_
  rintro e w' ⟨z, rfl, hr, hB⟩
  exact ⟨_, rfl, nsq_own hr (by have := dD_len2 ⟨2, i, 0, 0⟩ a hl; unfold maxLen; omega), hB⟩
theorem tder_q (N : Int) (hN : N ≤ 1000) (v : Value) (a : Ex) (w : World) (hv : NxC w v (pre a)) (he : EV N a) (hl : (pre a).length ≤ 200) : Calls Tryz.prog 19 #[v] w fun e w' => ∃ z, e = .returned z ∧ NsQ w' z (pre (dD ⟨3, 0, 0, 0⟩ a)) ∧ Below w.heap.size w w' := by
  refine (tder_ok N hN v a w hv he hl).mono ?_
  rintro e w' ⟨z, rfl, hr, hB⟩
  exact ⟨_, rfl, nsq_own hr (by have := dD_len2 ⟨3, 0, 0, 0⟩ a hl; unfold maxLen; omega), hB⟩
theorem simp_q (N : Int) (v : Value) (a : Ex) (w : World) (hv : NxC w v (pre a)) (he : EV N a) (hl : (pre a).length ≤ 200) : Calls Tryz.prog 15 #[v] w fun e w' => ∃ z, e = .returned z ∧ NsQ w' z (pre (sT a)) ∧ Below w.heap.size w w' := by
  refine (simplify_ok N v a w hv he (by omega)).mono ?_
  rintro e w' ⟨z, rfl, hr, hB⟩
  exact ⟨_, rfl, nsq_own hr (by have := sT_len a; unfold maxLen; omega), hB⟩
theorem same_q (v u : Value) (l m : List Nd) (w : World) (hv : NxC w v l) (hu : NxC w u m) (h : l = m) : Calls Tryz.prog 14 #[v, u] w fun e w' => e = .returned (.bool true) ∧ Below w.heap.size w w' := by
  have := r7same v u l m w hv.1 hu.1
  rwa [decide_eq_true h] at this
def kV (a b : Int) : Lit := .string (keyBytes [.int .i64 a, .int .i64 b])
theorem keyV {a b : Int} (ha : W64 a) (hb : W64 b) : keyOf Tryz.prog 26 (.agg #[.int .i64 a, .int .i64 b]) = some (kV a b) := by
  have w0 := wf64i ha
  have w1 := wf64i hb
  have hkt : Tryz.prog.keyType 26 = true := by kernel_rfl
  have hce : Tryz.prog.cellsOf 26 = 2 := by kernel_rfl
  have hc2 : Tryz.prog.cellsOf 2 = 1 := by kernel_rfl
  have hts : ∃ m, Tryz.prog.types.size = m + 2 := ⟨Tryz.prog.types.size - 2, by have : 1 < Tryz.prog.types.size := of_decide_eq_true (by kernel_rfl); omega⟩
  obtain ⟨m, hm⟩ := hts
  unfold keyOf
  simp only [Tryz.underlying26]
  rw [if_pos (by simp [hkt, Value.formed, Tryz.underlying26, hce]), hm]
  unfold Program.keyLits
  simp only [Tryz.underlying26, Value.cells]
  rw [if_pos ⟨by rw [hce]; rfl, by kernel_rfl⟩]
  simp [List.mapM_cons, hc2, hce, Program.keyLits, Tryz.underlying2, w0, w1, kV]
theorem iv_same (a b : Int) (ha : W64 a) (hb : W64 b) (w : World) : (binOp BinOp.eql 26 (.agg #[.int .i64 a, .int .i64 b]) (.agg #[.int .i64 a, .int .i64 b])).run Tryz.prog w = .ok (.bool true) w := by
  obtain ⟨r, hr, hiff⟩ := run_equal_deep (P := Tryz.prog) w (m := 2) (by omega) (k := 26) (by kernel_rfl) (by kernel_rfl) (keyV ha hb) (keyV ha hb)
  have e : r = true := hiff.2 rfl
  subst e
  simp [binOp, go_sem, hr]
theorem lx_two {α : Type} {P : World → Value → α → Prop} (hP : Grows P) {w : World} {u1 u2 : Value} {x1 x2 : α} {t : TypeId} (h1 : P w u1 x1) (h2 : P w u2 x2) : Lx P (w.alloc (.cells #[u1, u2] t)) (.slice (some ⟨w.heap.size, 0, none⟩) 2 2) [x1, x2] := by
  have hA : Below w.heap.size w (w.alloc (.cells #[u1, u2] t)) := (Below.refl _ _).alloc (Nat.le_refl _) _
  refine ⟨by simp [maxLen], _, 2, rfl, fun k x hx => ?_⟩
  match k, hx with
  | 0, hx => cases hx; exact ⟨_, 0, u1, rfl, by rw [alloc_sz]; omega, (new_2 w u1 u2 t).1, hP _ _ _ _ h1 hA⟩
  | 1, hx => cases hx; exact ⟨_, 0, u2, rfl, by rw [alloc_sz]; omega, (new_2 w u1 u2 t).2, hP _ _ _ _ h2 hA⟩
  | k + 2, hx => simp at hx
theorem bx_two {w : World} {X : Nat} {a b c d : Int} {t : TypeId} (h : w.heap[X]? = some (.cells #[.int .i64 a, .int .i64 b, .int .i64 c, .int .i64 d] t (0, 0))) : Bx w (.slice (some ⟨X, 0, none⟩) 2 2) [(a, b), (c, d)] := by
  refine ⟨by simp [maxLen], _, 2, rfl, fun k x hx => ?_⟩
  have hl := (Array.getElem?_eq_some_iff.1 h).1
  match k, hx with
  | 0, hx => cases hx; exact ⟨_, 0, rfl, hl, heapN_cellj h (k := 0) rfl, heapN_cellj h (k := 1) rfl⟩
  | 1, hx => cases hx; exact ⟨_, 0, rfl, hl, heapN_cellj h (k := 2) rfl, heapN_cellj h (k := 3) rfl⟩
  | k + 2, hx => simp at hx
theorem vx_bx' {w : World} {v : Value} {l : List (Int × Int)} (h : Vx w v l) : Bx w v l := by
  obtain ⟨h0, p, c, e, hk⟩ := h
  refine ⟨h0, p, c, e, fun k x hx => ?_⟩
  obtain ⟨b, o, e1, h1, h2⟩ := hk k x hx
  exact ⟨b, o, e1, h1, h2 0 _ rfl, h2 1 _ rfl⟩
theorem bx_vx' {w : World} {v : Value} {l : List (Int × Int)} (h : Bx w v l) : Vx w v l := by
  obtain ⟨h0, p, c, e, hk⟩ := h
  refine ⟨h0, p, c, e, fun k x hx => ?_⟩
  obtain ⟨b, o, e1, h1, h2, h3⟩ := hk k x hx
  refine ⟨b, o, e1, h1, fun j u hj => ?_⟩
  have hj2 : j < 2 := by have := (List.getElem?_eq_some_iff.1 hj).1; simpa [encB] using this
  match j, hj2, hj with
  | 0, _, hj => cases hj; exact h2
  | 1, _, hj => cases hj; exact h3
/-- The examples' expressions. -/
def xT : Ex := .e0 ⟨2, 0, 0, 0⟩
def vT : Ex := .e0 ⟨2, 1, 0, 0⟩
def ts10 : List Ex := [vT, .e1 (ndo 4) xT]
def qT : Ex := .e2 (ndo 10) (pt ((-1) * 65536)) (.e1 (ndo 5) xT)
def eT : Ex := .e2 (ndo 7) (.e1 (ndo 5) xT) (.e1 (ndo 5) vT)
def X10 : List (Int × Int) := [(65536, 65536), (-65536, 131072)]
def Y10 : List (Int × Int) := [(65536, 65536), (65536, 65536)]
def M10 : List (List (Int × Int)) := [[(0, 0), (65536, 65536)], [(-65536, -65536), (0, 0)]]
theorem nx_one {w : World} {X : Nat} {x : Nd} (h : w.heap[X]? = some (.cells #[.int .i64 x.op, .int .i64 x.n, .int .i64 x.lo, .int .i64 x.hi] 63 (0, 0))) : NxC w (.slice (some ⟨X, 0, none⟩) 1 1) (pre (.e0 x)) := nxc_own (l := [x]) (own_node (B := 0) x h (Nat.zero_le _)) (by simp [maxLen])
theorem same4_q (v u : Value) (M : List (List (Int × Int))) (w : World) (hv : Mx w v M) (hu : Mx w u M) : Calls Tryz.prog 21 #[v, u] w fun e w' => e = .returned (.bool true) ∧ Below w.heap.size w w' := by
  have := r4sameT v u M M w hv hu
  rwa [decide_eq_true rfl] at this
theorem lie_q (X : List (Int × Int)) (ge : Ex) (r1 r2 : Int) (pn : Option Addr) (nn cn : Nat) (vf vg : Value) {xv : Value} (w : World) (hf : Lx NxO w vf (ts10.map pre)) (hg : NxC w vg (pre ge)) (hxv : Vx w xv X) (hX : X.length = 2) (hvx : ∀ p ∈ X, VI p.1 p.2) (hge : EV 2 ge) (hgs : (pre ge).length ≤ 200) (hr : lieR X (ts10.map (evT X (65536, 65536))) (65536, 65536) ge 2 = (r1, r2)) :
    Calls Tryz.prog 24 #[.agg #[.slice pn nn cn, vf], vg, xv, .agg #[.int .i64 65536, .int .i64 65536]] w fun en w' => en = .returned (.agg #[.int .i64 r1, .int .i64 r2]) ∧ Below w.heap.size w w' := by
  have h := lie_ok 2 pn nn cn vf vg xv 65536 65536 X ts10 ge w hf hg hxv (by rw [hX]; rfl) (by omega) hvx (by decide) (by decide) (by decide) (by decide) hge hgs
  rw [show ts10.length = 2 from rfl, hr] at h
  exact h
set_option maxHeartbeats 64000000 in
theorem sanity10 (w : World) : Calls Tryz.prog 8 #[] w fun e w' => e = .returned (.bool true) ∧ Below w.heap.size w w' := by
  go_enter Tryz.func8, Tryz.ntmps8
  go_wp2_with (fail)
  refine (variable10_ok 0 _).mono ?_
  rintro e w1 ⟨z1, rfl, hr1, hB1⟩
  have ho1 := nxo_own hr1 (by simp [maxLen])
  obtain ⟨p1, c1, rfl⟩ := own_slice hr1
  have HO1 := Lib.hid ho1
  clear hr1 ho1
  go_wp2_with (fail)
  refine (variable10_ok 1 _).mono ?_
  rintro e w2 ⟨z2, rfl, hr2, hB2⟩
  have ho2 := nxo_own hr2 (by simp [maxLen])
  obtain ⟨p2, c2, rfl⟩ := own_slice hr2
  have HO2 := Lib.hid ho2
  have HB2 := Lib.hid (below_then hB1 hB2)
  have HP1 := Lib.hid (HO1.out.grow hB2)
  clear hr2 ho2 HO1 hB1 hB2
  go_wp2_with (fail)
  refine (number10_ok 2 _ (by omega) (by omega)).mono ?_
  rintro e w3 ⟨z3, rfl, hr3, hB3⟩
  have ho3 := nxc_own (l := pre (pt (2 * 65536))) hr3 (by simp [maxLen, pt, pre])
  obtain ⟨p3, c3, rfl⟩ := own_slice hr3
  have HX := Lib.hid (HP1.out.grow hB3)
  have HV := Lib.hid (HO2.out.grow hB3)
  have H2 := Lib.hid ho3
  have HB3 := Lib.hid (below_then HB2.out hB3)
  clear hr3 ho3 HP1 HO2 HB2 hB3
  go_wp2_with (fail)
  have hS : Below w3.heap.size w3 (w3.alloc (.cells #[.string { data := #[120] }, .string { data := #[118] }] 9)) := (Below.refl _ _).alloc (Nat.le_refl _) _
  have hss : (w3.alloc (.cells #[.string { data := #[120] }, .string { data := #[118] }] 9)).heap.size = w3.heap.size + 1 := alloc_sz _ _
  have hsa := HX.out.grow hS
  have hsv := HV.out.grow hS
  have hs2 := grows_nxc _ _ _ _ H2.out hS
  have hsb := below_then HB3.out hS
  obtain ⟨WS, hWS⟩ : ∃ W, w3.alloc (.cells #[.string { data := #[120] }, .string { data := #[118] }] 9) = W := ⟨_, rfl⟩
  rw [hWS] at hS hss hsa hsv hs2 hsb ⊢
  have HX := Lib.hid hsa
  have HV := Lib.hid hsv
  have H2 := Lib.hid hs2
  have HB3 := Lib.hid hsb
  clear hS hsa hsv hs2 hsb hWS
  refine (unary7_ok 4 _ _ WS HX.out.1 (by decide)).mono ?_
  rintro e w4 ⟨z4, rfl, hr4, hB4⟩
  have ho4 : NxO w4 z4 (pre (.e1 (ndo 4) xT)) := nxo_own hr4 (by decide)
  obtain ⟨p4, c4, rfl⟩ := own_slice hr4
  have hx4 := HX.out.grow hB4
  have hv4 := HV.out.grow hB4
  have h24 := grows_nxc _ _ _ _ H2.out hB4
  have hb4 := below_then HB3.out hB4
  have hlx : Lx NxO (w4.alloc (.cells #[.slice p2 1 c2, .slice p4 2 c4] 23)) (.slice (some ⟨w4.heap.size, 0, none⟩) 2 2) (ts10.map pre) := lx_two grows_nxo hv4 ho4
  have hw4 : WS.heap.size ≤ w4.heap.size := hB4.size
  have hA : Below w4.heap.size w4 ((w4.alloc (.cells #[.slice p2 1 c2, .slice p4 2 c4] 23)).alloc (.cells #[.slice (some ⟨w3.heap.size, 0, none⟩) 2 2, .slice (some ⟨w4.heap.size, 0, none⟩) 2 2] 33)) := allocs_below [.cells #[.slice p2 1 c2, .slice p4 2 c4] 23, .cells #[.slice (some ⟨w3.heap.size, 0, none⟩) 2 2, .slice (some ⟨w4.heap.size, 0, none⟩) 2 2] 33] w4
  have hsy := allocs_at [.cells #[.slice p2 1 c2, .slice p4 2 c4] 23, .cells #[.slice (some ⟨w3.heap.size, 0, none⟩) 2 2, .slice (some ⟨w4.heap.size, 0, none⟩) 2 2] 33] w4 1 _ rfl
  have hlx5 := Lx.grow grows_nxo hlx ((Below.refl _ _).alloc (Nat.le_refl _) (.cells #[.slice (some ⟨w3.heap.size, 0, none⟩) 2 2, .slice (some ⟨w4.heap.size, 0, none⟩) 2 2] 33))
  change Blk ((w4.alloc (.cells #[.slice p2 1 c2, .slice p4 2 c4] 23)).alloc (.cells #[.slice (some ⟨w3.heap.size, 0, none⟩) 2 2, .slice (some ⟨w4.heap.size, 0, none⟩) 2 2] 33)) (w4.heap.size + 1) _ at hsy
  have hx5 := hx4.grow hA
  have hv5 := hv4.grow hA
  have h25 := grows_nxc _ _ _ _ h24 hA
  have hb5 := below_then hb4 hA
  have hsz5 : ((w4.alloc (.cells #[.slice p2 1 c2, .slice p4 2 c4] 23)).alloc (.cells #[.slice (some ⟨w3.heap.size, 0, none⟩) 2 2, .slice (some ⟨w4.heap.size, 0, none⟩) 2 2] 33)).heap.size = w4.heap.size + 1 + 1 := by rw [alloc_sz, alloc_sz]
  obtain ⟨w5, hw5⟩ : ∃ W, ((w4.alloc (.cells #[.slice p2 1 c2, .slice p4 2 c4] 23)).alloc (.cells #[.slice (some ⟨w3.heap.size, 0, none⟩) 2 2, .slice (some ⟨w4.heap.size, 0, none⟩) 2 2] 33)) = W := ⟨_, rfl⟩
  rw [hw5] at hlx5 hsy hx5 hv5 h25 hb5 hsz5
  have HW5 := Lib.hid hw5
  have HX := Lib.hid hx5
  have HV := Lib.hid hv5
  have H2 := Lib.hid h25
  have HB5 := Lib.hid hb5
  have HLX := Lib.hid hlx5
  have HSY := Lib.hid hsy
  have HSZ := Lib.hid hsz5
  clear hr4 ho4 hx4 hv4 h24 hb4 hlx hA hsy hlx5 hx5 hv5 h25 hb5 hw5 hB4 hsz5 HB3 hw4 hss
  go_wp2_with (fail)
  rw [HW5.out]
  refine (point_at 65536 w5 (by decide) (by decide)).mono ?_
  rintro e w6 ⟨rfl, hB6⟩
  have y0 : ((w6.alloc (.cells #[.int .i64 65536, .int .i64 65536] 26)).alloc (.cells #[.int .i64 (-65536), .int .i64 131072] 26)).cell? ⟨w4.heap.size + 1, 0, none⟩ = some (.slice (some ⟨w3.heap.size, 0, none⟩) 2 2) := heapN_cellj (HSY.out.grow (below_then hB6 (allocs_below [.cells #[.int .i64 65536, .int .i64 65536] 26, .cells #[.int .i64 (-65536), .int .i64 131072] 26] w6))) (k := 0) rfl
  have y1 : ((w6.alloc (.cells #[.int .i64 65536, .int .i64 65536] 26)).alloc (.cells #[.int .i64 (-65536), .int .i64 131072] 26)).cell? ⟨w4.heap.size + 1, 1, none⟩ = some (.slice (some ⟨w4.heap.size, 0, none⟩) 2 2) := heapN_cellj (HSY.out.grow (below_then hB6 (allocs_below [.cells #[.int .i64 65536, .int .i64 65536] 26, .cells #[.int .i64 (-65536), .int .i64 131072] 26] w6))) (k := 1) rfl
  have hA : Below w6.heap.size w6 (((w6.alloc (.cells #[.int .i64 65536, .int .i64 65536] 26)).alloc (.cells #[.int .i64 (-65536), .int .i64 131072] 26)).alloc (.cells #[.int .i64 65536, .int .i64 65536, .int .i64 (-65536), .int .i64 131072] 26)) := allocs_below [.cells #[.int .i64 65536, .int .i64 65536] 26, .cells #[.int .i64 (-65536), .int .i64 131072] 26, .cells #[.int .i64 65536, .int .i64 65536, .int .i64 (-65536), .int .i64 131072] 26] w6
  have hb8 := below_then hB6 hA
  have h5 : Blk (((w6.alloc (.cells #[.int .i64 65536, .int .i64 65536] 26)).alloc (.cells #[.int .i64 (-65536), .int .i64 131072] 26)).alloc (.cells #[.int .i64 65536, .int .i64 65536, .int .i64 (-65536), .int .i64 131072] 26)) w6.heap.size (.cells #[.int .i64 65536, .int .i64 65536] 26) := allocs_at [.cells #[.int .i64 65536, .int .i64 65536] 26, .cells #[.int .i64 (-65536), .int .i64 131072] 26, .cells #[.int .i64 65536, .int .i64 65536, .int .i64 (-65536), .int .i64 131072] 26] w6 0 _ rfl
  have h6 : Blk (((w6.alloc (.cells #[.int .i64 65536, .int .i64 65536] 26)).alloc (.cells #[.int .i64 (-65536), .int .i64 131072] 26)).alloc (.cells #[.int .i64 65536, .int .i64 65536, .int .i64 (-65536), .int .i64 131072] 26)) (w6.heap.size + 1) (.cells #[.int .i64 (-65536), .int .i64 131072] 26) := allocs_at [.cells #[.int .i64 65536, .int .i64 65536] 26, .cells #[.int .i64 (-65536), .int .i64 131072] 26, .cells #[.int .i64 65536, .int .i64 65536, .int .i64 (-65536), .int .i64 131072] 26] w6 1 _ rfl
  have h7 : Blk (((w6.alloc (.cells #[.int .i64 65536, .int .i64 65536] 26)).alloc (.cells #[.int .i64 (-65536), .int .i64 131072] 26)).alloc (.cells #[.int .i64 65536, .int .i64 65536, .int .i64 (-65536), .int .i64 131072] 26)) (w6.heap.size + 1 + 1) (.cells #[.int .i64 65536, .int .i64 65536, .int .i64 (-65536), .int .i64 131072] 26) := allocs_at [.cells #[.int .i64 65536, .int .i64 65536] 26, .cells #[.int .i64 (-65536), .int .i64 131072] 26, .cells #[.int .i64 65536, .int .i64 65536, .int .i64 (-65536), .int .i64 131072] 26] w6 2 _ rfl
  have hx8 := HX.out.grow hb8
  have hv8 := HV.out.grow hb8
  have h28 := grows_nxc _ _ _ _ H2.out hb8
  have hlx8 := Lx.grow grows_nxo HLX.out hb8
  have hsy8 := HSY.out.grow hb8
  have hbb := below_then HB5.out hb8
  have KM := Lib.hid (matrix_ok 2 (some ⟨w3.heap.size, 0, none⟩) 2 2 (.slice (some ⟨w4.heap.size, 0, none⟩) 2 2) (.slice (some ⟨w6.heap.size + 1 + 1, 0, none⟩) 2 2) 65536 65536 X10 ts10 (((w6.alloc (.cells #[.int .i64 65536, .int .i64 65536] 26)).alloc (.cells #[.int .i64 (-65536), .int .i64 131072] 26)).alloc (.cells #[.int .i64 65536, .int .i64 65536, .int .i64 (-65536), .int .i64 131072] 26)) hlx8 (bx_vx' (bx_two h7)) rfl (by omega) (by decide) (by decide) (by decide) (by decide) (by decide))
  have HX := Lib.hid hx8
  have HV := Lib.hid hv8
  have H2 := Lib.hid h28
  have HLX := Lib.hid hlx8
  have HSY := Lib.hid hsy8
  have H5 := Lib.hid h5
  have H6 := Lib.hid h6
  have HB8 := Lib.hid hbb
  clear hA hb8 h5 h6 h7 hx8 hv8 h28 hlx8 hsy8 hbb hB6 HB5
  go_wp2_with (fail)
  refine KM.out.mono ?_
  rintro e w9 ⟨zm, us, rfl, hom, hB9⟩
  obtain ⟨pm, cm, rfl⟩ := own_slice hom.out
  have hmm : Mx w9 (.slice pm 2 cm) (ts10.map (fun e => jrow X10 (65536, 65536) e 2)) := by
    have h := hom.lx encB_len (by decide) (by decide)
    obtain ⟨h0, p, c, e1, hk⟩ := h
    refine ⟨h0, p, c, e1, fun k x hx => ?_⟩
    obtain ⟨b, o, u, e2, h1, h2, h3⟩ := hk k x hx
    exact ⟨b, o, u, e2, h1, h2, vx_bx' h3⟩
  rw [show ts10.map (fun e => jrow X10 (65536, 65536) e 2) = M10 from by kernel_rfl] at hmm
  have HM := Lib.hid hmm
  have HX := Lib.hid (HX.out.grow hB9)
  have HV := Lib.hid (HV.out.grow hB9)
  have H2 := Lib.hid (grows_nxc _ _ _ _ H2.out hB9)
  have HLX := Lib.hid (Lx.grow grows_nxo HLX.out hB9)
  have HSY := Lib.hid (HSY.out.grow hB9)
  have H5 := Lib.hid (H5.out.grow hB9)
  have H6 := Lib.hid (H6.out.grow hB9)
  have HB9 := Lib.hid (below_then HB8.out hB9)
  clear hom hmm hB9 HB8 KM y0 y1
  go_wp2_with (fail)
  refine (num_q (-1) w9 (by omega) (by omega)).mono ?_
  rintro e w10 ⟨z10, rfl, ⟨p10, c10, rfl, hq10⟩, hB10⟩
  have HN1 := Lib.hid hq10
  clear hq10
  have HM := Lib.hid (Lx.grow grows_bx HM.out hB10)
  have HX := Lib.hid (HX.out.grow hB10)
  have HV := Lib.hid (HV.out.grow hB10)
  have H2 := Lib.hid (grows_nxc _ _ _ _ H2.out hB10)
  have HLX := Lib.hid (Lx.grow grows_nxo HLX.out hB10)
  have HSY := Lib.hid (HSY.out.grow hB10)
  have H5 := Lib.hid (H5.out.grow hB10)
  have H6 := Lib.hid (H6.out.grow hB10)
  have HB10 := Lib.hid (below_then HB9.out hB10)
  clear hB10
  go_wp2_with (fail)
  refine (un_q 5 _ xT w10 HX.out.1 (by decide)).mono ?_
  rintro e w11 ⟨z11, rfl, ⟨p11, c11, rfl, hq11⟩, hB11⟩
  have HSX := Lib.hid hq11
  clear hq11
  have HM := Lib.hid (Lx.grow grows_bx HM.out hB11)
  have HX := Lib.hid (HX.out.grow hB11)
  have HV := Lib.hid (HV.out.grow hB11)
  have H2 := Lib.hid (grows_nxc _ _ _ _ H2.out hB11)
  have HLX := Lib.hid (Lx.grow grows_nxo HLX.out hB11)
  have HSY := Lib.hid (HSY.out.grow hB11)
  have H5 := Lib.hid (H5.out.grow hB11)
  have H6 := Lib.hid (H6.out.grow hB11)
  have HB11 := Lib.hid (below_then HB10.out hB11)
  have HN1 := Lib.hid (grows_nxc _ _ _ _ HN1.out hB11)
  clear hB11
  go_wp2_with (fail)
  refine (bin_q 10 _ _ (pt ((-1) * 65536)) (.e1 (ndo 5) xT) w11 HN1.out HSX.out (by decide) (by decide)).mono ?_
  rintro e w12 ⟨z12, rfl, ⟨p12, c12, rfl, hq12⟩, hB12⟩
  have HQT := Lib.hid hq12
  clear hq12
  have HM := Lib.hid (Lx.grow grows_bx HM.out hB12)
  have HX := Lib.hid (HX.out.grow hB12)
  have HV := Lib.hid (HV.out.grow hB12)
  have H2 := Lib.hid (grows_nxc _ _ _ _ H2.out hB12)
  have HLX := Lib.hid (Lx.grow grows_nxo HLX.out hB12)
  have HSY := Lib.hid (HSY.out.grow hB12)
  have H5 := Lib.hid (H5.out.grow hB12)
  have H6 := Lib.hid (H6.out.grow hB12)
  have HB12 := Lib.hid (below_then HB11.out hB12)
  have HN1 := Lib.hid (grows_nxc _ _ _ _ HN1.out hB12)
  have HSX := Lib.hid (grows_nxc _ _ _ _ HSX.out hB12)
  clear hB12
  clear HN1 HSX
  go_wp2_with (fail)
  refine (un_q 5 _ xT w12 HX.out.1 (by decide)).mono ?_
  rintro e w13 ⟨z13, rfl, ⟨p13, c13, rfl, hq13⟩, hB13⟩
  have HSX := Lib.hid hq13
  clear hq13
  have HM := Lib.hid (Lx.grow grows_bx HM.out hB13)
  have HX := Lib.hid (HX.out.grow hB13)
  have HV := Lib.hid (HV.out.grow hB13)
  have H2 := Lib.hid (grows_nxc _ _ _ _ H2.out hB13)
  have HLX := Lib.hid (Lx.grow grows_nxo HLX.out hB13)
  have HSY := Lib.hid (HSY.out.grow hB13)
  have H5 := Lib.hid (H5.out.grow hB13)
  have H6 := Lib.hid (H6.out.grow hB13)
  have HB13 := Lib.hid (below_then HB12.out hB13)
  have HQT := Lib.hid (grows_nxc _ _ _ _ HQT.out hB13)
  clear hB13
  go_wp2_with (fail)
  refine (un_q 5 _ vT w13 HV.out.1 (by decide)).mono ?_
  rintro e w14 ⟨z14, rfl, ⟨p14, c14, rfl, hq14⟩, hB14⟩
  have HSV := Lib.hid hq14
  clear hq14
  have HM := Lib.hid (Lx.grow grows_bx HM.out hB14)
  have HX := Lib.hid (HX.out.grow hB14)
  have HV := Lib.hid (HV.out.grow hB14)
  have H2 := Lib.hid (grows_nxc _ _ _ _ H2.out hB14)
  have HLX := Lib.hid (Lx.grow grows_nxo HLX.out hB14)
  have HSY := Lib.hid (HSY.out.grow hB14)
  have H5 := Lib.hid (H5.out.grow hB14)
  have H6 := Lib.hid (H6.out.grow hB14)
  have HB14 := Lib.hid (below_then HB13.out hB14)
  have HQT := Lib.hid (grows_nxc _ _ _ _ HQT.out hB14)
  have HSX := Lib.hid (grows_nxc _ _ _ _ HSX.out hB14)
  clear hB14
  go_wp2_with (fail)
  refine (bin_q 7 _ _ (.e1 (ndo 5) xT) (.e1 (ndo 5) vT) w14 HSX.out HSV.out (by decide) (by decide)).mono ?_
  rintro e w15 ⟨z15, rfl, ⟨p15, c15, rfl, hq15⟩, hB15⟩
  have HET := Lib.hid hq15
  clear hq15
  have HM := Lib.hid (Lx.grow grows_bx HM.out hB15)
  have HX := Lib.hid (HX.out.grow hB15)
  have HV := Lib.hid (HV.out.grow hB15)
  have H2 := Lib.hid (grows_nxc _ _ _ _ H2.out hB15)
  have HLX := Lib.hid (Lx.grow grows_nxo HLX.out hB15)
  have HSY := Lib.hid (HSY.out.grow hB15)
  have H5 := Lib.hid (H5.out.grow hB15)
  have H6 := Lib.hid (H6.out.grow hB15)
  have HB15 := Lib.hid (below_then HB14.out hB15)
  have HQT := Lib.hid (grows_nxc _ _ _ _ HQT.out hB15)
  have HSX := Lib.hid (grows_nxc _ _ _ _ HSX.out hB15)
  have HSV := Lib.hid (grows_nxc _ _ _ _ HSV.out hB15)
  clear hB15
  clear HSX HSV
  have a0 := fun g : Grown w15 => heapN_cellj (H5.out.grow g.h) (k := 0) (u := .int .i64 65536) rfl
  have a1 := fun g : Grown w15 => heapN_cellj (H5.out.grow g.h) (k := 1) (u := .int .i64 65536) rfl
  have b0 := fun g : Grown w15 => heapN_cellj (H6.out.grow g.h) (k := 0) (u := .int .i64 (-65536)) rfl
  have b1 := fun g : Grown w15 => heapN_cellj (H6.out.grow g.h) (k := 1) (u := .int .i64 131072) rfl
  have y0 := fun g : Grown w15 => heapN_cellj (HSY.out.grow g.h) (k := 0) (u := .slice (some ⟨w3.heap.size, 0, none⟩) 2 2) rfl
  have y1 := fun g : Grown w15 => heapN_cellj (HSY.out.grow g.h) (k := 1) (u := .slice (some ⟨w4.heap.size, 0, none⟩) 2 2) rfl
  go_wp2_with (fail)
  refine region_pred (lk [(36, fun z_ _ => z_ = .slice p1 1 c1), (37, fun z_ _ => z_ = .slice p1 1 c1), (38, fun z_ w_ => NsQ w_ z_ (pre (.e2 (ndo 9) (xT) (xT)))), (39, fun z_ w_ => NsQ w_ z_ (pre (dD ⟨2, 0, 0, 0⟩ (.e2 (ndo 9) (xT) (xT))))), (40, fun z_ _ => z_ = .slice p1 1 c1), (41, fun z_ _ => z_ = .slice p1 1 c1), (42, fun z_ w_ => NsQ w_ z_ (pre (.e2 (ndo 7) (xT) (xT)))), (43, fun z_ _ => z_ = .bool true), (44, fun z_ _ => z_ = .bool true), (45, fun z_ _ => z_ = .slice p1 1 c1), (46, fun z_ w_ => NsQ w_ z_ (pre (.e1 (ndo 5) (xT)))), (47, fun z_ w_ => NsQ w_ z_ (pre (dD ⟨2, 0, 0, 0⟩ (.e1 (ndo 5) (xT))))), (48, fun z_ _ => z_ = .slice p3 1 c3), (49, fun z_ _ => z_ = .slice p1 1 c1), (50, fun z_ w_ => NsQ w_ z_ (pre (.e2 (ndo 9) (pt (2 * 65536)) (xT)))), (51, fun z_ _ => z_ = .bool true), (52, fun z_ _ => z_ = .bool true), (53, fun z_ _ => z_ = .bool true), (54, fun z_ w_ => NsQ w_ z_ (pre (pt (1 * 65536)))), (55, fun z_ _ => z_ = .slice p1 1 c1), (56, fun z_ w_ => NsQ w_ z_ (pre (.e2 (ndo 10) (pt (1 * 65536)) (xT)))), (57, fun z_ w_ => NsQ w_ z_ (pre (dD ⟨2, 0, 0, 0⟩ (.e2 (ndo 10) (pt (1 * 65536)) (xT))))), (58, fun z_ _ => z_ = .slice p12 (pre (.e2 (ndo 10) (pt ((-1) * 65536)) (.e1 (ndo 5) xT))).length c12), (59, fun z_ _ => z_ = .bool true), (60, fun z_ _ => z_ = .bool true), (61, fun z_ _ => z_ = .bool true), (62, fun z_ _ => z_ = .slice p2 1 c2), (63, fun z_ w_ => NsQ w_ z_ (pre (pt (3 * 65536)))), (64, fun z_ w_ => NsQ w_ z_ (pre (.e2 (ndo 7) (vT) (pt (3 * 65536))))), (65, fun z_ w_ => NsQ w_ z_ (pre (dD ⟨2, 0, 0, 0⟩ (.e2 (ndo 7) (vT) (pt (3 * 65536)))))), (66, fun z_ w_ => NsQ w_ z_ (pre (pt (0 * 65536)))), (67, fun z_ _ => z_ = .bool true), (68, fun z_ _ => z_ = .bool true), (69, fun z_ _ => z_ = .bool true), (70, fun z_ _ => z_ = .slice p1 1 c1), (71, fun z_ w_ => NsQ w_ z_ (pre (.e1 (ndo 6) (xT)))), (72, fun z_ w_ => NsQ w_ z_ (pre (dD ⟨2, 0, 0, 0⟩ (.e1 (ndo 6) (xT))))), (73, fun z_ w_ => NsQ w_ z_ (pre (pt (1 * 65536)))), (74, fun z_ _ => z_ = .slice p3 1 c3), (75, fun z_ _ => z_ = .slice p1 1 c1), (76, fun z_ w_ => NsQ w_ z_ (pre (.e1 (ndo 6) (xT)))), (77, fun z_ w_ => NsQ w_ z_ (pre (.e2 (ndo 9) (pt (2 * 65536)) (.e1 (ndo 6) (xT))))), (78, fun z_ w_ => NsQ w_ z_ (pre (.e2 (ndo 10) (pt (1 * 65536)) (.e2 (ndo 9) (pt (2 * 65536)) (.e1 (ndo 6) (xT)))))), (79, fun z_ _ => z_ = .bool true), (80, fun z_ _ => z_ = .bool true), (81, fun z_ _ => z_ = .bool true), (82, fun z_ _ => z_ = .agg #[.int .i64 3, .int .i64 0, .int .i64 0, .int .i64 0]), (83, fun z_ w' => ∃ X_, z_ = .slice (some ⟨X_, 0, none⟩) 1 1 ∧ w15.heap.size ≤ X_ ∧ w'.heap[X_]? = some (.cells #[.int .i64 3, .int .i64 0, .int .i64 0, .int .i64 0] 63 (0, 0))), (84, fun z_ w_ => NsQ w_ z_ (pre (dD ⟨3, 0, 0, 0⟩ (.e0 ⟨3, 0, 0, 0⟩)))), (85, fun z_ w_ => NsQ w_ z_ (pre (pt (1 * 65536)))), (86, fun z_ _ => z_ = .bool true), (87, fun z_ _ => z_ = .bool true), (88, fun z_ _ => z_ = .bool true), (89, fun z_ w_ => NsQ w_ z_ (pre (pt (0 * 65536)))), (90, fun z_ _ => z_ = .slice p1 1 c1), (91, fun z_ w_ => NsQ w_ z_ (pre (.e1 (ndo 4) (xT)))), (92, fun z_ w_ => NsQ w_ z_ (pre (.e2 (ndo 8) (pt (0 * 65536)) (.e1 (ndo 4) (xT))))), (93, fun z_ w_ => NsQ w_ z_ (pre (sT (.e2 (ndo 8) (pt (0 * 65536)) (.e1 (ndo 4) (xT)))))), (94, fun z_ _ => z_ = .slice p1 1 c1), (95, fun z_ _ => z_ = .bool true), (96, fun z_ _ => z_ = .bool true), (97, fun z_ _ => z_ = .bool true), (98, fun z_ _ => z_ = .slice p3 1 c3), (99, fun z_ _ => z_ = .slice p3 1 c3), (100, fun z_ w_ => NsQ w_ z_ (pre (pt (1 * 65536)))), (101, fun z_ w_ => NsQ w_ z_ (pre (.e2 (ndo 7) (pt (2 * 65536)) (pt (1 * 65536))))), (102, fun z_ w_ => NsQ w_ z_ (pre (.e2 (ndo 9) (pt (2 * 65536)) (.e2 (ndo 7) (pt (2 * 65536)) (pt (1 * 65536)))))), (103, fun z_ w_ => NsQ w_ z_ (pre (sT (.e2 (ndo 9) (pt (2 * 65536)) (.e2 (ndo 7) (pt (2 * 65536)) (pt (1 * 65536))))))), (104, fun z_ w_ => NsQ w_ z_ (pre (pt (6 * 65536)))), (105, fun z_ _ => z_ = .bool true), (106, fun z_ _ => z_ = .bool true), (107, fun z_ _ => z_ = .bool true), (108, fun z_ _ => z_ = .slice pm 2 cm), (109, fun z_ _ => z_ = .agg #[.int .i64 0, .int .i64 0]), (110, fun z_ _ => z_ = .agg #[.int .i64 65536, .int .i64 65536]), (111, fun z_ w' => ∃ X_, z_ = .slice (some ⟨X_, 0, none⟩) 2 2 ∧ w15.heap.size ≤ X_ ∧ w'.heap[X_]? = some (.cells #[.int .i64 0, .int .i64 0, .int .i64 65536, .int .i64 65536] 26 (0, 0))), (112, fun z_ _ => z_ = .agg #[.int .i64 (-65536), .int .i64 (-65536)]), (113, fun z_ _ => z_ = .agg #[.int .i64 0, .int .i64 0]), (114, fun z_ w' => ∃ X_, z_ = .slice (some ⟨X_, 0, none⟩) 2 2 ∧ w15.heap.size ≤ X_ ∧ w'.heap[X_]? = some (.cells #[.int .i64 (-65536), .int .i64 (-65536), .int .i64 0, .int .i64 0] 26 (0, 0))), (115, fun z_ w_ => ∃ X_, z_ = .slice (some ⟨X_, 0, none⟩) 2 2 ∧ Mx w_ (.slice (some ⟨X_, 0, none⟩) 2 2) M10), (116, fun z_ _ => z_ = .bool true), (117, fun z_ _ => z_ = .bool true), (118, fun z_ _ => z_ = .bool true), (119, fun z_ _ => z_ = .agg #[.slice (some ⟨w3.heap.size, 0, none⟩) 2 2, .slice (some ⟨w4.heap.size, 0, none⟩) 2 2]), (120, fun z_ _ => z_ = .slice p15 (pre (.e2 (ndo 7) (.e1 (ndo 5) xT) (.e1 (ndo 5) vT))).length c15), (121, fun z_ _ => z_ = .agg #[.int .i64 65536, .int .i64 65536]), (122, fun z_ _ => z_ = .agg #[.int .i64 65536, .int .i64 65536]), (123, fun z_ w' => ∃ X_, z_ = .slice (some ⟨X_, 0, none⟩) 2 2 ∧ w15.heap.size ≤ X_ ∧ w'.heap[X_]? = some (.cells #[.int .i64 65536, .int .i64 65536, .int .i64 65536, .int .i64 65536] 26 (0, 0))), (124, fun z_ _ => z_ = .agg #[.int .i64 65536, .int .i64 65536]), (125, fun z_ _ => z_ = .agg #[.int .i64 0, .int .i64 0]), (126, fun z_ _ => z_ = .agg #[.int .i64 0, .int .i64 0]), (127, fun z_ _ => z_ = .bool true), (128, fun z_ _ => z_ = .bool true), (129, fun z_ _ => z_ = .bool true), (130, fun z_ _ => z_ = .agg #[.slice (some ⟨w3.heap.size, 0, none⟩) 2 2, .slice (some ⟨w4.heap.size, 0, none⟩) 2 2]), (131, fun z_ _ => z_ = .slice p1 1 c1), (132, fun z_ _ => z_ = .agg #[.int .i64 65536, .int .i64 65536]), (133, fun z_ _ => z_ = .agg #[.int .i64 (-65536), .int .i64 131072]), (134, fun z_ w' => ∃ X_, z_ = .slice (some ⟨X_, 0, none⟩) 2 2 ∧ w15.heap.size ≤ X_ ∧ w'.heap[X_]? = some (.cells #[.int .i64 65536, .int .i64 65536, .int .i64 (-65536), .int .i64 131072] 26 (0, 0))), (135, fun z_ _ => z_ = .agg #[.int .i64 65536, .int .i64 65536]), (136, fun z_ _ => z_ = .agg #[.int .i64 (-65536), .int .i64 131072]), (137, fun z_ _ => z_ = .agg #[.int .i64 (-65536), .int .i64 131072]), (138, fun z_ _ => z_ = .bool true), (139, fun z_ _ => z_ = .bool true), (0, fun z_ _ => z_ = .bool true)]) (by kernel_rfl) (by kernel_rfl) (lk_steady _ ⟨steady_eq _, steady_eq _, steady_nsq _, steady_nsq _, steady_eq _, steady_eq _, steady_nsq _, steady_eq _, steady_eq _, steady_eq _, steady_nsq _, steady_nsq _, steady_eq _, steady_eq _, steady_nsq _, steady_eq _, steady_eq _, steady_eq _, steady_nsq _, steady_eq _, steady_nsq _, steady_nsq _, steady_eq _, steady_eq _, steady_eq _, steady_eq _, steady_eq _, steady_nsq _, steady_nsq _, steady_nsq _, steady_nsq _, steady_eq _, steady_eq _, steady_eq _, steady_eq _, steady_nsq _, steady_nsq _, steady_nsq _, steady_eq _, steady_eq _, steady_nsq _, steady_nsq _, steady_nsq _, steady_eq _, steady_eq _, steady_eq _, steady_eq _, fun u w1 w2 hb ⟨X, e, h1, h2⟩ => ⟨X, e, h1, (hb.block X (Array.getElem?_eq_some_iff.1 h2).1).trans h2⟩, steady_nsq _, steady_nsq _, steady_eq _, steady_eq _, steady_eq _, steady_nsq _, steady_eq _, steady_nsq _, steady_nsq _, steady_nsq _, steady_eq _, steady_eq _, steady_eq _, steady_eq _, steady_eq _, steady_eq _, steady_nsq _, steady_nsq _, steady_nsq _, steady_nsq _, steady_nsq _, steady_eq _, steady_eq _, steady_eq _, steady_eq _, steady_eq _, steady_eq _, fun u w1 w2 hb ⟨X, e, h1, h2⟩ => ⟨X, e, h1, (hb.block X (Array.getElem?_eq_some_iff.1 h2).1).trans h2⟩, steady_eq _, steady_eq _, fun u w1 w2 hb ⟨X, e, h1, h2⟩ => ⟨X, e, h1, (hb.block X (Array.getElem?_eq_some_iff.1 h2).1).trans h2⟩, fun _ _ _ hb ⟨X, e, h⟩ => ⟨X, e, Lx.grow grows_bx h hb⟩, steady_eq _, steady_eq _, steady_eq _, steady_eq _, steady_eq _, steady_eq _, steady_eq _, fun u w1 w2 hb ⟨X, e, h1, h2⟩ => ⟨X, e, h1, (hb.block X (Array.getElem?_eq_some_iff.1 h2).1).trans h2⟩, steady_eq _, steady_eq _, steady_eq _, steady_eq _, steady_eq _, steady_eq _, steady_eq _, steady_eq _, steady_eq _, steady_eq _, fun u w1 w2 hb ⟨X, e, h1, h2⟩ => ⟨X, e, h1, (hb.block X (Array.getElem?_eq_some_iff.1 h2).1).trans h2⟩, steady_eq _, steady_eq _, steady_eq _, steady_eq _, steady_eq _, steady_eq _, trivial⟩) ?_ ?_
  · refine ⟨?_, ?_, ?_, ?_, ?_, ?_, ?_, ?_, ?_, ?_, ?_, ?_, ?_, ?_, ?_, ?_, ?_, ?_, ?_, ?_, ?_, ?_, ?_, ?_, ?_, ?_, ?_, ?_, ?_, ?_, ?_, ?_, ?_, ?_, ?_, ?_, ?_, ?_, ?_, ?_, ?_, ?_, ?_, ?_, ?_, ?_, ?_, ?_, ?_, ?_, ?_, ?_, ?_, ?_, ?_, ?_, ?_, ?_, ?_, ?_, ?_, ?_, ?_, ?_, ?_, ?_, ?_, ?_, ?_, ?_, ?_, ?_, ?_, ?_, ?_, ?_, ?_, ?_, ?_, ?_, ?_, ?_, ?_, ?_, ?_, ?_, ?_, ?_, ?_, ?_, ?_, ?_, ?_, ?_, ?_, ?_, ?_, ?_, ?_, ?_, ?_, ?_, ?_, ?_, ?_, trivial⟩
    · refine ob_plain [1] rfl rfl fun aa g h => ?_
      have yy0 := seen_out (v := .slice p1 1 c1) rfl rfl h.1
      have ee0 := getD_of yy0
      exact tupon_value (v := .slice p1 1 c1) (by simp [go_sem, ee0, yy0]) (Below.refl _ _) rfl
    · refine ob_plain [1] rfl rfl fun aa g h => ?_
      have yy0 := seen_out (v := .slice p1 1 c1) rfl rfl h.1
      have ee0 := getD_of yy0
      exact tupon_value (v := .slice p1 1 c1) (by simp [go_sem, ee0, yy0]) (Below.refl _ _) rfl
    · refine ob_plain [36, 37] rfl rfl fun aa g h => ?_
      obtain ⟨_, yy0, rfl⟩ := seen_in rfl h.1
      have ee0 := getD_of yy0
      obtain ⟨_, yy1, rfl⟩ := seen_in rfl h.2.1
      have ee1 := getD_of yy1
      refine tupon_enter (f := 30) (args := #[.int .i64 9, .slice p1 1 c1, .slice p1 1 c1]) (by simp [go_sem, ee0, yy0, ee1, yy1]) rfl ?_
      exact (bin_q 9 _ _ (xT) (xT) g.w ((HX.out.grow g.h).1) ((HX.out.grow g.h).1) (by decide) (by decide)).mono fun e w' ⟨z, he, hz, hB⟩ => ⟨_, he, hB, hz⟩
    · refine ob_plain [38] rfl rfl fun aa g h => ?_
      obtain ⟨_, yy0, ⟨q38, d38, rfl, hn38⟩⟩ := seen_in rfl h.1
      have ee0 := getD_of yy0
      refine tupon_enter (f := 17) (args := #[.slice q38 (pre (.e2 (ndo 9) (xT) (xT))).length d38, .int .i64 0]) (by simp [go_sem, ee0, yy0]) rfl ?_
      exact (diff_q 2 (by omega) 0 (by unfold W64; omega) _ (.e2 (ndo 9) (xT) (xT)) g.w (hn38) (by decide) (by decide)).mono fun e w' ⟨z, he, hz, hB⟩ => ⟨_, he, hB, hz⟩
    · refine ob_plain [1] rfl rfl fun aa g h => ?_
      have yy0 := seen_out (v := .slice p1 1 c1) rfl rfl h.1
      have ee0 := getD_of yy0
      exact tupon_value (v := .slice p1 1 c1) (by simp [go_sem, ee0, yy0]) (Below.refl _ _) rfl
    · refine ob_plain [1] rfl rfl fun aa g h => ?_
      have yy0 := seen_out (v := .slice p1 1 c1) rfl rfl h.1
      have ee0 := getD_of yy0
      exact tupon_value (v := .slice p1 1 c1) (by simp [go_sem, ee0, yy0]) (Below.refl _ _) rfl
    · refine ob_plain [40, 41] rfl rfl fun aa g h => ?_
      obtain ⟨_, yy0, rfl⟩ := seen_in rfl h.1
      have ee0 := getD_of yy0
      obtain ⟨_, yy1, rfl⟩ := seen_in rfl h.2.1
      have ee1 := getD_of yy1
      refine tupon_enter (f := 30) (args := #[.int .i64 7, .slice p1 1 c1, .slice p1 1 c1]) (by simp [go_sem, ee0, yy0, ee1, yy1]) rfl ?_
      exact (bin_q 7 _ _ (xT) (xT) g.w ((HX.out.grow g.h).1) ((HX.out.grow g.h).1) (by decide) (by decide)).mono fun e w' ⟨z, he, hz, hB⟩ => ⟨_, he, hB, hz⟩
    · refine ob_plain [39, 42] rfl rfl fun aa g h => ?_
      obtain ⟨_, yy0, ⟨q39, d39, rfl, hn39⟩⟩ := seen_in rfl h.1
      have ee0 := getD_of yy0
      obtain ⟨_, yy1, ⟨q42, d42, rfl, hn42⟩⟩ := seen_in rfl h.2.1
      have ee1 := getD_of yy1
      refine tupon_enter (f := 14) (args := #[.slice q39 (pre (dD ⟨2, 0, 0, 0⟩ (.e2 (ndo 9) (xT) (xT)))).length d39, .slice q42 (pre (.e2 (ndo 7) (xT) (xT))).length d42]) (by simp [go_sem, ee0, yy0, ee1, yy1]) rfl ?_
      exact (same_q _ _ (pre (dD ⟨2, 0, 0, 0⟩ (.e2 (ndo 9) (xT) (xT)))) (pre (.e2 (ndo 7) (xT) (xT))) g.w (hn39) (hn42) (by kernel_rfl)).mono fun e w' ⟨he, hB⟩ => ⟨_, he, hB, rfl⟩
    · refine ob_plain [43] rfl rfl fun aa g h => ?_
      obtain ⟨_, yy0, rfl⟩ := seen_in rfl h.1
      have ee0 := getD_of yy0
      exact tupon_value (v := .bool true) (by simp [go_sem, ee0, yy0]) (Below.refl _ _) rfl
    · refine ob_gtrue [1] _ true 44 rfl rfl rfl rfl (fun v w h => h) fun aa g h => ?_
      have yy0 := seen_out (v := .slice p1 1 c1) rfl rfl h.1
      have ee0 := getD_of yy0
      exact tupon_value (v := .slice p1 1 c1) (by simp [go_sem, ee0, yy0]) (Below.refl _ _) rfl
    · refine ob_gtrue [45] _ true 44 rfl rfl rfl rfl (fun v w h => h) fun aa g h => ?_
      obtain ⟨_, yy0, rfl⟩ := seen_in rfl h.1
      have ee0 := getD_of yy0
      refine tupon_enter (f := 35) (args := #[.int .i64 5, .slice p1 1 c1]) (by simp [go_sem, ee0, yy0]) rfl ?_
      exact (un_q 5 _ (xT) g.w ((HX.out.grow g.h).1) (by decide)).mono fun e w' ⟨z, he, hz, hB⟩ => ⟨_, he, hB, hz⟩
    · refine ob_gtrue [46] _ true 44 rfl rfl rfl rfl (fun v w h => h) fun aa g h => ?_
      obtain ⟨_, yy0, ⟨q46, d46, rfl, hn46⟩⟩ := seen_in rfl h.1
      have ee0 := getD_of yy0
      refine tupon_enter (f := 17) (args := #[.slice q46 (pre (.e1 (ndo 5) (xT))).length d46, .int .i64 0]) (by simp [go_sem, ee0, yy0]) rfl ?_
      exact (diff_q 2 (by omega) 0 (by unfold W64; omega) _ (.e1 (ndo 5) (xT)) g.w (hn46) (by decide) (by decide)).mono fun e w' ⟨z, he, hz, hB⟩ => ⟨_, he, hB, hz⟩
    · refine ob_gtrue [3] _ true 44 rfl rfl rfl rfl (fun v w h => h) fun aa g h => ?_
      have yy0 := seen_out (v := .slice p3 1 c3) rfl rfl h.1
      have ee0 := getD_of yy0
      exact tupon_value (v := .slice p3 1 c3) (by simp [go_sem, ee0, yy0]) (Below.refl _ _) rfl
    · refine ob_gtrue [1] _ true 44 rfl rfl rfl rfl (fun v w h => h) fun aa g h => ?_
      have yy0 := seen_out (v := .slice p1 1 c1) rfl rfl h.1
      have ee0 := getD_of yy0
      exact tupon_value (v := .slice p1 1 c1) (by simp [go_sem, ee0, yy0]) (Below.refl _ _) rfl
    · refine ob_gtrue [48, 49] _ true 44 rfl rfl rfl rfl (fun v w h => h) fun aa g h => ?_
      obtain ⟨_, yy0, rfl⟩ := seen_in rfl h.1
      have ee0 := getD_of yy0
      obtain ⟨_, yy1, rfl⟩ := seen_in rfl h.2.1
      have ee1 := getD_of yy1
      refine tupon_enter (f := 30) (args := #[.int .i64 9, .slice p3 1 c3, .slice p1 1 c1]) (by simp [go_sem, ee0, yy0, ee1, yy1]) rfl ?_
      exact (bin_q 9 _ _ (pt (2 * 65536)) (xT) g.w (grows_nxc _ _ _ _ H2.out g.h) ((HX.out.grow g.h).1) (by decide) (by decide)).mono fun e w' ⟨z, he, hz, hB⟩ => ⟨_, he, hB, hz⟩
    · refine ob_gtrue [47, 50] _ true 44 rfl rfl rfl rfl (fun v w h => h) fun aa g h => ?_
      obtain ⟨_, yy0, ⟨q47, d47, rfl, hn47⟩⟩ := seen_in rfl h.1
      have ee0 := getD_of yy0
      obtain ⟨_, yy1, ⟨q50, d50, rfl, hn50⟩⟩ := seen_in rfl h.2.1
      have ee1 := getD_of yy1
      refine tupon_enter (f := 14) (args := #[.slice q47 (pre (dD ⟨2, 0, 0, 0⟩ (.e1 (ndo 5) (xT)))).length d47, .slice q50 (pre (.e2 (ndo 9) (pt (2 * 65536)) (xT))).length d50]) (by simp [go_sem, ee0, yy0, ee1, yy1]) rfl ?_
      exact (same_q _ _ (pre (dD ⟨2, 0, 0, 0⟩ (.e1 (ndo 5) (xT)))) (pre (.e2 (ndo 9) (pt (2 * 65536)) (xT))) g.w (hn47) (hn50) (by kernel_rfl)).mono fun e w' ⟨he, hB⟩ => ⟨_, he, hB, rfl⟩
    · refine ob_plain [44, 51] rfl rfl fun aa g h => ?_
      obtain ⟨_, yy0, rfl⟩ := seen_in rfl h.1
      have ee0 := getD_of yy0
      obtain ⟨_, yy1, rfl⟩ := seen_in rfl h.2.1
      have ee1 := getD_of yy1
      exact tupon_value (v := .bool true) (by simp [go_sem, ee0, yy0, ee1, yy1]) (Below.refl _ _) rfl
    · refine ob_plain [52] rfl rfl fun aa g h => ?_
      obtain ⟨_, yy0, rfl⟩ := seen_in rfl h.1
      have ee0 := getD_of yy0
      exact tupon_value (v := .bool true) (by simp [go_sem, ee0, yy0]) (Below.refl _ _) rfl
    · refine ob_gtrue [] _ true 53 rfl rfl rfl rfl (fun v w h => h) fun aa g h => ?_
      refine tupon_enter (f := 29) (args := #[.int .i64 1]) (by simp [go_sem]) rfl ?_
      exact (num_q 1 g.w (by omega) (by omega)).mono fun e w' ⟨z, he, hz, hB⟩ => ⟨_, he, hB, hz⟩
    · refine ob_gtrue [1] _ true 53 rfl rfl rfl rfl (fun v w h => h) fun aa g h => ?_
      have yy0 := seen_out (v := .slice p1 1 c1) rfl rfl h.1
      have ee0 := getD_of yy0
      exact tupon_value (v := .slice p1 1 c1) (by simp [go_sem, ee0, yy0]) (Below.refl _ _) rfl
    · refine ob_gtrue [54, 55] _ true 53 rfl rfl rfl rfl (fun v w h => h) fun aa g h => ?_
      obtain ⟨_, yy0, ⟨q54, d54, rfl, hn54⟩⟩ := seen_in rfl h.1
      have ee0 := getD_of yy0
      obtain ⟨_, yy1, rfl⟩ := seen_in rfl h.2.1
      have ee1 := getD_of yy1
      refine tupon_enter (f := 30) (args := #[.int .i64 10, .slice q54 (pre (pt (1 * 65536))).length d54, .slice p1 1 c1]) (by simp [go_sem, ee0, yy0, ee1, yy1]) rfl ?_
      exact (bin_q 10 _ _ (pt (1 * 65536)) (xT) g.w (hn54) ((HX.out.grow g.h).1) (by decide) (by decide)).mono fun e w' ⟨z, he, hz, hB⟩ => ⟨_, he, hB, hz⟩
    · refine ob_gtrue [56] _ true 53 rfl rfl rfl rfl (fun v w h => h) fun aa g h => ?_
      obtain ⟨_, yy0, ⟨q56, d56, rfl, hn56⟩⟩ := seen_in rfl h.1
      have ee0 := getD_of yy0
      refine tupon_enter (f := 17) (args := #[.slice q56 (pre (.e2 (ndo 10) (pt (1 * 65536)) (xT))).length d56, .int .i64 0]) (by simp [go_sem, ee0, yy0]) rfl ?_
      exact (diff_q 2 (by omega) 0 (by unfold W64; omega) _ (.e2 (ndo 10) (pt (1 * 65536)) (xT)) g.w (hn56) (by decide) (by decide)).mono fun e w' ⟨z, he, hz, hB⟩ => ⟨_, he, hB, hz⟩
    · refine ob_gtrue [8] _ true 53 rfl rfl rfl rfl (fun v w h => h) fun aa g h => ?_
      have yy0 := seen_out (v := .slice p12 (pre (.e2 (ndo 10) (pt ((-1) * 65536)) (.e1 (ndo 5) xT))).length c12) rfl rfl h.1
      have ee0 := getD_of yy0
      exact tupon_value (v := .slice p12 (pre (.e2 (ndo 10) (pt ((-1) * 65536)) (.e1 (ndo 5) xT))).length c12) (by simp [go_sem, ee0, yy0]) (Below.refl _ _) rfl
    · refine ob_gtrue [57, 58] _ true 53 rfl rfl rfl rfl (fun v w h => h) fun aa g h => ?_
      obtain ⟨_, yy0, ⟨q57, d57, rfl, hn57⟩⟩ := seen_in rfl h.1
      have ee0 := getD_of yy0
      obtain ⟨_, yy1, rfl⟩ := seen_in rfl h.2.1
      have ee1 := getD_of yy1
      refine tupon_enter (f := 14) (args := #[.slice q57 (pre (dD ⟨2, 0, 0, 0⟩ (.e2 (ndo 10) (pt (1 * 65536)) (xT)))).length d57, .slice p12 (pre (.e2 (ndo 10) (pt ((-1) * 65536)) (.e1 (ndo 5) xT))).length c12]) (by simp [go_sem, ee0, yy0, ee1, yy1]) rfl ?_
      exact (same_q _ _ (pre (dD ⟨2, 0, 0, 0⟩ (.e2 (ndo 10) (pt (1 * 65536)) (xT)))) (pre (qT)) g.w (hn57) (grows_nxc _ _ _ _ HQT.out g.h) (by kernel_rfl)).mono fun e w' ⟨he, hB⟩ => ⟨_, he, hB, rfl⟩
    · refine ob_plain [53, 59] rfl rfl fun aa g h => ?_
      obtain ⟨_, yy0, rfl⟩ := seen_in rfl h.1
      have ee0 := getD_of yy0
      obtain ⟨_, yy1, rfl⟩ := seen_in rfl h.2.1
      have ee1 := getD_of yy1
      exact tupon_value (v := .bool true) (by simp [go_sem, ee0, yy0, ee1, yy1]) (Below.refl _ _) rfl
    · refine ob_plain [60] rfl rfl fun aa g h => ?_
      obtain ⟨_, yy0, rfl⟩ := seen_in rfl h.1
      have ee0 := getD_of yy0
      exact tupon_value (v := .bool true) (by simp [go_sem, ee0, yy0]) (Below.refl _ _) rfl
    · refine ob_gtrue [2] _ true 61 rfl rfl rfl rfl (fun v w h => h) fun aa g h => ?_
      have yy0 := seen_out (v := .slice p2 1 c2) rfl rfl h.1
      have ee0 := getD_of yy0
      exact tupon_value (v := .slice p2 1 c2) (by simp [go_sem, ee0, yy0]) (Below.refl _ _) rfl
    · refine ob_gtrue [] _ true 61 rfl rfl rfl rfl (fun v w h => h) fun aa g h => ?_
      refine tupon_enter (f := 29) (args := #[.int .i64 3]) (by simp [go_sem]) rfl ?_
      exact (num_q 3 g.w (by omega) (by omega)).mono fun e w' ⟨z, he, hz, hB⟩ => ⟨_, he, hB, hz⟩
    · refine ob_gtrue [62, 63] _ true 61 rfl rfl rfl rfl (fun v w h => h) fun aa g h => ?_
      obtain ⟨_, yy0, rfl⟩ := seen_in rfl h.1
      have ee0 := getD_of yy0
      obtain ⟨_, yy1, ⟨q63, d63, rfl, hn63⟩⟩ := seen_in rfl h.2.1
      have ee1 := getD_of yy1
      refine tupon_enter (f := 30) (args := #[.int .i64 7, .slice p2 1 c2, .slice q63 (pre (pt (3 * 65536))).length d63]) (by simp [go_sem, ee0, yy0, ee1, yy1]) rfl ?_
      exact (bin_q 7 _ _ (vT) (pt (3 * 65536)) g.w ((HV.out.grow g.h).1) (hn63) (by decide) (by decide)).mono fun e w' ⟨z, he, hz, hB⟩ => ⟨_, he, hB, hz⟩
    · refine ob_gtrue [64] _ true 61 rfl rfl rfl rfl (fun v w h => h) fun aa g h => ?_
      obtain ⟨_, yy0, ⟨q64, d64, rfl, hn64⟩⟩ := seen_in rfl h.1
      have ee0 := getD_of yy0
      refine tupon_enter (f := 17) (args := #[.slice q64 (pre (.e2 (ndo 7) (vT) (pt (3 * 65536)))).length d64, .int .i64 0]) (by simp [go_sem, ee0, yy0]) rfl ?_
      exact (diff_q 2 (by omega) 0 (by unfold W64; omega) _ (.e2 (ndo 7) (vT) (pt (3 * 65536))) g.w (hn64) (by decide) (by decide)).mono fun e w' ⟨z, he, hz, hB⟩ => ⟨_, he, hB, hz⟩
    · refine ob_gtrue [] _ true 61 rfl rfl rfl rfl (fun v w h => h) fun aa g h => ?_
      refine tupon_enter (f := 29) (args := #[.int .i64 0]) (by simp [go_sem]) rfl ?_
      exact (num_q 0 g.w (by omega) (by omega)).mono fun e w' ⟨z, he, hz, hB⟩ => ⟨_, he, hB, hz⟩
    · refine ob_gtrue [65, 66] _ true 61 rfl rfl rfl rfl (fun v w h => h) fun aa g h => ?_
      obtain ⟨_, yy0, ⟨q65, d65, rfl, hn65⟩⟩ := seen_in rfl h.1
      have ee0 := getD_of yy0
      obtain ⟨_, yy1, ⟨q66, d66, rfl, hn66⟩⟩ := seen_in rfl h.2.1
      have ee1 := getD_of yy1
      refine tupon_enter (f := 14) (args := #[.slice q65 (pre (dD ⟨2, 0, 0, 0⟩ (.e2 (ndo 7) (vT) (pt (3 * 65536))))).length d65, .slice q66 (pre (pt (0 * 65536))).length d66]) (by simp [go_sem, ee0, yy0, ee1, yy1]) rfl ?_
      exact (same_q _ _ (pre (dD ⟨2, 0, 0, 0⟩ (.e2 (ndo 7) (vT) (pt (3 * 65536))))) (pre (pt (0 * 65536))) g.w (hn65) (hn66) (by kernel_rfl)).mono fun e w' ⟨he, hB⟩ => ⟨_, he, hB, rfl⟩
    · refine ob_plain [61, 67] rfl rfl fun aa g h => ?_
      obtain ⟨_, yy0, rfl⟩ := seen_in rfl h.1
      have ee0 := getD_of yy0
      obtain ⟨_, yy1, rfl⟩ := seen_in rfl h.2.1
      have ee1 := getD_of yy1
      exact tupon_value (v := .bool true) (by simp [go_sem, ee0, yy0, ee1, yy1]) (Below.refl _ _) rfl
    · refine ob_plain [68] rfl rfl fun aa g h => ?_
      obtain ⟨_, yy0, rfl⟩ := seen_in rfl h.1
      have ee0 := getD_of yy0
      exact tupon_value (v := .bool true) (by simp [go_sem, ee0, yy0]) (Below.refl _ _) rfl
    · refine ob_gtrue [1] _ true 69 rfl rfl rfl rfl (fun v w h => h) fun aa g h => ?_
      have yy0 := seen_out (v := .slice p1 1 c1) rfl rfl h.1
      have ee0 := getD_of yy0
      exact tupon_value (v := .slice p1 1 c1) (by simp [go_sem, ee0, yy0]) (Below.refl _ _) rfl
    · refine ob_gtrue [70] _ true 69 rfl rfl rfl rfl (fun v w h => h) fun aa g h => ?_
      obtain ⟨_, yy0, rfl⟩ := seen_in rfl h.1
      have ee0 := getD_of yy0
      refine tupon_enter (f := 35) (args := #[.int .i64 6, .slice p1 1 c1]) (by simp [go_sem, ee0, yy0]) rfl ?_
      exact (un_q 6 _ (xT) g.w ((HX.out.grow g.h).1) (by decide)).mono fun e w' ⟨z, he, hz, hB⟩ => ⟨_, he, hB, hz⟩
    · refine ob_gtrue [71] _ true 69 rfl rfl rfl rfl (fun v w h => h) fun aa g h => ?_
      obtain ⟨_, yy0, ⟨q71, d71, rfl, hn71⟩⟩ := seen_in rfl h.1
      have ee0 := getD_of yy0
      refine tupon_enter (f := 17) (args := #[.slice q71 (pre (.e1 (ndo 6) (xT))).length d71, .int .i64 0]) (by simp [go_sem, ee0, yy0]) rfl ?_
      exact (diff_q 2 (by omega) 0 (by unfold W64; omega) _ (.e1 (ndo 6) (xT)) g.w (hn71) (by decide) (by decide)).mono fun e w' ⟨z, he, hz, hB⟩ => ⟨_, he, hB, hz⟩
    · refine ob_gtrue [] _ true 69 rfl rfl rfl rfl (fun v w h => h) fun aa g h => ?_
      refine tupon_enter (f := 29) (args := #[.int .i64 1]) (by simp [go_sem]) rfl ?_
      exact (num_q 1 g.w (by omega) (by omega)).mono fun e w' ⟨z, he, hz, hB⟩ => ⟨_, he, hB, hz⟩
    · refine ob_gtrue [3] _ true 69 rfl rfl rfl rfl (fun v w h => h) fun aa g h => ?_
      have yy0 := seen_out (v := .slice p3 1 c3) rfl rfl h.1
      have ee0 := getD_of yy0
      exact tupon_value (v := .slice p3 1 c3) (by simp [go_sem, ee0, yy0]) (Below.refl _ _) rfl
    · refine ob_gtrue [1] _ true 69 rfl rfl rfl rfl (fun v w h => h) fun aa g h => ?_
      have yy0 := seen_out (v := .slice p1 1 c1) rfl rfl h.1
      have ee0 := getD_of yy0
      exact tupon_value (v := .slice p1 1 c1) (by simp [go_sem, ee0, yy0]) (Below.refl _ _) rfl
    · refine ob_gtrue [75] _ true 69 rfl rfl rfl rfl (fun v w h => h) fun aa g h => ?_
      obtain ⟨_, yy0, rfl⟩ := seen_in rfl h.1
      have ee0 := getD_of yy0
      refine tupon_enter (f := 35) (args := #[.int .i64 6, .slice p1 1 c1]) (by simp [go_sem, ee0, yy0]) rfl ?_
      exact (un_q 6 _ (xT) g.w ((HX.out.grow g.h).1) (by decide)).mono fun e w' ⟨z, he, hz, hB⟩ => ⟨_, he, hB, hz⟩
    · refine ob_gtrue [74, 76] _ true 69 rfl rfl rfl rfl (fun v w h => h) fun aa g h => ?_
      obtain ⟨_, yy0, rfl⟩ := seen_in rfl h.1
      have ee0 := getD_of yy0
      obtain ⟨_, yy1, ⟨q76, d76, rfl, hn76⟩⟩ := seen_in rfl h.2.1
      have ee1 := getD_of yy1
      refine tupon_enter (f := 30) (args := #[.int .i64 9, .slice p3 1 c3, .slice q76 (pre (.e1 (ndo 6) (xT))).length d76]) (by simp [go_sem, ee0, yy0, ee1, yy1]) rfl ?_
      exact (bin_q 9 _ _ (pt (2 * 65536)) (.e1 (ndo 6) (xT)) g.w (grows_nxc _ _ _ _ H2.out g.h) (hn76) (by decide) (by decide)).mono fun e w' ⟨z, he, hz, hB⟩ => ⟨_, he, hB, hz⟩
    · refine ob_gtrue [73, 77] _ true 69 rfl rfl rfl rfl (fun v w h => h) fun aa g h => ?_
      obtain ⟨_, yy0, ⟨q73, d73, rfl, hn73⟩⟩ := seen_in rfl h.1
      have ee0 := getD_of yy0
      obtain ⟨_, yy1, ⟨q77, d77, rfl, hn77⟩⟩ := seen_in rfl h.2.1
      have ee1 := getD_of yy1
      refine tupon_enter (f := 30) (args := #[.int .i64 10, .slice q73 (pre (pt (1 * 65536))).length d73, .slice q77 (pre (.e2 (ndo 9) (pt (2 * 65536)) (.e1 (ndo 6) (xT)))).length d77]) (by simp [go_sem, ee0, yy0, ee1, yy1]) rfl ?_
      exact (bin_q 10 _ _ (pt (1 * 65536)) (.e2 (ndo 9) (pt (2 * 65536)) (.e1 (ndo 6) (xT))) g.w (hn73) (hn77) (by decide) (by decide)).mono fun e w' ⟨z, he, hz, hB⟩ => ⟨_, he, hB, hz⟩
    · refine ob_gtrue [72, 78] _ true 69 rfl rfl rfl rfl (fun v w h => h) fun aa g h => ?_
      obtain ⟨_, yy0, ⟨q72, d72, rfl, hn72⟩⟩ := seen_in rfl h.1
      have ee0 := getD_of yy0
      obtain ⟨_, yy1, ⟨q78, d78, rfl, hn78⟩⟩ := seen_in rfl h.2.1
      have ee1 := getD_of yy1
      refine tupon_enter (f := 14) (args := #[.slice q72 (pre (dD ⟨2, 0, 0, 0⟩ (.e1 (ndo 6) (xT)))).length d72, .slice q78 (pre (.e2 (ndo 10) (pt (1 * 65536)) (.e2 (ndo 9) (pt (2 * 65536)) (.e1 (ndo 6) (xT))))).length d78]) (by simp [go_sem, ee0, yy0, ee1, yy1]) rfl ?_
      exact (same_q _ _ (pre (dD ⟨2, 0, 0, 0⟩ (.e1 (ndo 6) (xT)))) (pre (.e2 (ndo 10) (pt (1 * 65536)) (.e2 (ndo 9) (pt (2 * 65536)) (.e1 (ndo 6) (xT))))) g.w (hn72) (hn78) (by kernel_rfl)).mono fun e w' ⟨he, hB⟩ => ⟨_, he, hB, rfl⟩
    · refine ob_plain [69, 79] rfl rfl fun aa g h => ?_
      obtain ⟨_, yy0, rfl⟩ := seen_in rfl h.1
      have ee0 := getD_of yy0
      obtain ⟨_, yy1, rfl⟩ := seen_in rfl h.2.1
      have ee1 := getD_of yy1
      exact tupon_value (v := .bool true) (by simp [go_sem, ee0, yy0, ee1, yy1]) (Below.refl _ _) rfl
    · refine ob_plain [80] rfl rfl fun aa g h => ?_
      obtain ⟨_, yy0, rfl⟩ := seen_in rfl h.1
      have ee0 := getD_of yy0
      exact tupon_value (v := .bool true) (by simp [go_sem, ee0, yy0]) (Below.refl _ _) rfl
    · refine ob_gtrue [] _ true 81 rfl rfl rfl rfl (fun v w h => h) fun aa g h => ?_
      exact tupon_value (v := .agg #[.int .i64 3, .int .i64 0, .int .i64 0, .int .i64 0]) (by simp [go_sem]) (Below.refl _ _) rfl
    · refine ob_gtrue [82] _ true 81 rfl rfl rfl rfl (fun v w h => h) fun aa g h => ?_
      obtain ⟨_, yy0, rfl⟩ := seen_in rfl h.1
      have ee0 := getD_of yy0
      exact tupon_value (v := .slice (some ⟨g.w.heap.size, 0, none⟩) 1 1) (w1 := g.w.alloc (.cells #[.int .i64 3, .int .i64 0, .int .i64 0, .int .i64 0] 63)) (by simp [go_sem, ee0, yy0]) ((Below.refl _ _).alloc (Nat.le_refl _) _) ⟨_, rfl, g.h.size, World.alloc_heap_new _ _⟩
    · refine ob_gtrue [83] _ true 81 rfl rfl rfl rfl (fun v w h => h) fun aa g h => ?_
      obtain ⟨_, yy0, ⟨X83, rfl, hX83, hI83⟩⟩ := seen_in rfl h.1
      have ee0 := getD_of yy0
      refine tupon_enter (f := 19) (args := #[.slice (some ⟨X83, 0, none⟩) 1 1]) (by simp [go_sem, ee0, yy0]) rfl ?_
      exact (tder_q 2 (by omega) _ (.e0 ⟨3, 0, 0, 0⟩) g.w (nx_one hI83) (by decide) (by decide)).mono fun e w' ⟨z, he, hz, hB⟩ => ⟨_, he, hB, hz⟩
    · refine ob_gtrue [] _ true 81 rfl rfl rfl rfl (fun v w h => h) fun aa g h => ?_
      refine tupon_enter (f := 29) (args := #[.int .i64 1]) (by simp [go_sem]) rfl ?_
      exact (num_q 1 g.w (by omega) (by omega)).mono fun e w' ⟨z, he, hz, hB⟩ => ⟨_, he, hB, hz⟩
    · refine ob_gtrue [84, 85] _ true 81 rfl rfl rfl rfl (fun v w h => h) fun aa g h => ?_
      obtain ⟨_, yy0, ⟨q84, d84, rfl, hn84⟩⟩ := seen_in rfl h.1
      have ee0 := getD_of yy0
      obtain ⟨_, yy1, ⟨q85, d85, rfl, hn85⟩⟩ := seen_in rfl h.2.1
      have ee1 := getD_of yy1
      refine tupon_enter (f := 14) (args := #[.slice q84 (pre (dD ⟨3, 0, 0, 0⟩ (.e0 ⟨3, 0, 0, 0⟩))).length d84, .slice q85 (pre (pt (1 * 65536))).length d85]) (by simp [go_sem, ee0, yy0, ee1, yy1]) rfl ?_
      exact (same_q _ _ (pre (dD ⟨3, 0, 0, 0⟩ (.e0 ⟨3, 0, 0, 0⟩))) (pre (pt (1 * 65536))) g.w (hn84) (hn85) (by kernel_rfl)).mono fun e w' ⟨he, hB⟩ => ⟨_, he, hB, rfl⟩
    · refine ob_plain [81, 86] rfl rfl fun aa g h => ?_
      obtain ⟨_, yy0, rfl⟩ := seen_in rfl h.1
      have ee0 := getD_of yy0
      obtain ⟨_, yy1, rfl⟩ := seen_in rfl h.2.1
      have ee1 := getD_of yy1
      exact tupon_value (v := .bool true) (by simp [go_sem, ee0, yy0, ee1, yy1]) (Below.refl _ _) rfl
    · refine ob_plain [87] rfl rfl fun aa g h => ?_
      obtain ⟨_, yy0, rfl⟩ := seen_in rfl h.1
      have ee0 := getD_of yy0
      exact tupon_value (v := .bool true) (by simp [go_sem, ee0, yy0]) (Below.refl _ _) rfl
    · refine ob_gtrue [] _ true 88 rfl rfl rfl rfl (fun v w h => h) fun aa g h => ?_
      refine tupon_enter (f := 29) (args := #[.int .i64 0]) (by simp [go_sem]) rfl ?_
      exact (num_q 0 g.w (by omega) (by omega)).mono fun e w' ⟨z, he, hz, hB⟩ => ⟨_, he, hB, hz⟩
    · refine ob_gtrue [1] _ true 88 rfl rfl rfl rfl (fun v w h => h) fun aa g h => ?_
      have yy0 := seen_out (v := .slice p1 1 c1) rfl rfl h.1
      have ee0 := getD_of yy0
      exact tupon_value (v := .slice p1 1 c1) (by simp [go_sem, ee0, yy0]) (Below.refl _ _) rfl
    · refine ob_gtrue [90] _ true 88 rfl rfl rfl rfl (fun v w h => h) fun aa g h => ?_
      obtain ⟨_, yy0, rfl⟩ := seen_in rfl h.1
      have ee0 := getD_of yy0
      refine tupon_enter (f := 35) (args := #[.int .i64 4, .slice p1 1 c1]) (by simp [go_sem, ee0, yy0]) rfl ?_
      exact (un_q 4 _ (xT) g.w ((HX.out.grow g.h).1) (by decide)).mono fun e w' ⟨z, he, hz, hB⟩ => ⟨_, he, hB, hz⟩
    · refine ob_gtrue [89, 91] _ true 88 rfl rfl rfl rfl (fun v w h => h) fun aa g h => ?_
      obtain ⟨_, yy0, ⟨q89, d89, rfl, hn89⟩⟩ := seen_in rfl h.1
      have ee0 := getD_of yy0
      obtain ⟨_, yy1, ⟨q91, d91, rfl, hn91⟩⟩ := seen_in rfl h.2.1
      have ee1 := getD_of yy1
      refine tupon_enter (f := 30) (args := #[.int .i64 8, .slice q89 (pre (pt (0 * 65536))).length d89, .slice q91 (pre (.e1 (ndo 4) (xT))).length d91]) (by simp [go_sem, ee0, yy0, ee1, yy1]) rfl ?_
      exact (bin_q 8 _ _ (pt (0 * 65536)) (.e1 (ndo 4) (xT)) g.w (hn89) (hn91) (by decide) (by decide)).mono fun e w' ⟨z, he, hz, hB⟩ => ⟨_, he, hB, hz⟩
    · refine ob_gtrue [92] _ true 88 rfl rfl rfl rfl (fun v w h => h) fun aa g h => ?_
      obtain ⟨_, yy0, ⟨q92, d92, rfl, hn92⟩⟩ := seen_in rfl h.1
      have ee0 := getD_of yy0
      refine tupon_enter (f := 15) (args := #[.slice q92 (pre (.e2 (ndo 8) (pt (0 * 65536)) (.e1 (ndo 4) (xT)))).length d92]) (by simp [go_sem, ee0, yy0]) rfl ?_
      exact (simp_q 2 _ (.e2 (ndo 8) (pt (0 * 65536)) (.e1 (ndo 4) (xT))) g.w (hn92) (by decide) (by decide)).mono fun e w' ⟨z, he, hz, hB⟩ => ⟨_, he, hB, hz⟩
    · refine ob_gtrue [1] _ true 88 rfl rfl rfl rfl (fun v w h => h) fun aa g h => ?_
      have yy0 := seen_out (v := .slice p1 1 c1) rfl rfl h.1
      have ee0 := getD_of yy0
      exact tupon_value (v := .slice p1 1 c1) (by simp [go_sem, ee0, yy0]) (Below.refl _ _) rfl
    · refine ob_gtrue [93, 94] _ true 88 rfl rfl rfl rfl (fun v w h => h) fun aa g h => ?_
      obtain ⟨_, yy0, ⟨q93, d93, rfl, hn93⟩⟩ := seen_in rfl h.1
      have ee0 := getD_of yy0
      obtain ⟨_, yy1, rfl⟩ := seen_in rfl h.2.1
      have ee1 := getD_of yy1
      refine tupon_enter (f := 14) (args := #[.slice q93 (pre (sT (.e2 (ndo 8) (pt (0 * 65536)) (.e1 (ndo 4) (xT))))).length d93, .slice p1 1 c1]) (by simp [go_sem, ee0, yy0, ee1, yy1]) rfl ?_
      exact (same_q _ _ (pre (sT (.e2 (ndo 8) (pt (0 * 65536)) (.e1 (ndo 4) (xT))))) (pre (xT)) g.w (hn93) ((HX.out.grow g.h).1) (by kernel_rfl)).mono fun e w' ⟨he, hB⟩ => ⟨_, he, hB, rfl⟩
    · refine ob_plain [88, 95] rfl rfl fun aa g h => ?_
      obtain ⟨_, yy0, rfl⟩ := seen_in rfl h.1
      have ee0 := getD_of yy0
      obtain ⟨_, yy1, rfl⟩ := seen_in rfl h.2.1
      have ee1 := getD_of yy1
      exact tupon_value (v := .bool true) (by simp [go_sem, ee0, yy0, ee1, yy1]) (Below.refl _ _) rfl
    · refine ob_plain [96] rfl rfl fun aa g h => ?_
      obtain ⟨_, yy0, rfl⟩ := seen_in rfl h.1
      have ee0 := getD_of yy0
      exact tupon_value (v := .bool true) (by simp [go_sem, ee0, yy0]) (Below.refl _ _) rfl
    · refine ob_gtrue [3] _ true 97 rfl rfl rfl rfl (fun v w h => h) fun aa g h => ?_
      have yy0 := seen_out (v := .slice p3 1 c3) rfl rfl h.1
      have ee0 := getD_of yy0
      exact tupon_value (v := .slice p3 1 c3) (by simp [go_sem, ee0, yy0]) (Below.refl _ _) rfl
    · refine ob_gtrue [3] _ true 97 rfl rfl rfl rfl (fun v w h => h) fun aa g h => ?_
      have yy0 := seen_out (v := .slice p3 1 c3) rfl rfl h.1
      have ee0 := getD_of yy0
      exact tupon_value (v := .slice p3 1 c3) (by simp [go_sem, ee0, yy0]) (Below.refl _ _) rfl
    · refine ob_gtrue [] _ true 97 rfl rfl rfl rfl (fun v w h => h) fun aa g h => ?_
      refine tupon_enter (f := 29) (args := #[.int .i64 1]) (by simp [go_sem]) rfl ?_
      exact (num_q 1 g.w (by omega) (by omega)).mono fun e w' ⟨z, he, hz, hB⟩ => ⟨_, he, hB, hz⟩
    · refine ob_gtrue [99, 100] _ true 97 rfl rfl rfl rfl (fun v w h => h) fun aa g h => ?_
      obtain ⟨_, yy0, rfl⟩ := seen_in rfl h.1
      have ee0 := getD_of yy0
      obtain ⟨_, yy1, ⟨q100, d100, rfl, hn100⟩⟩ := seen_in rfl h.2.1
      have ee1 := getD_of yy1
      refine tupon_enter (f := 30) (args := #[.int .i64 7, .slice p3 1 c3, .slice q100 (pre (pt (1 * 65536))).length d100]) (by simp [go_sem, ee0, yy0, ee1, yy1]) rfl ?_
      exact (bin_q 7 _ _ (pt (2 * 65536)) (pt (1 * 65536)) g.w (grows_nxc _ _ _ _ H2.out g.h) (hn100) (by decide) (by decide)).mono fun e w' ⟨z, he, hz, hB⟩ => ⟨_, he, hB, hz⟩
    · refine ob_gtrue [98, 101] _ true 97 rfl rfl rfl rfl (fun v w h => h) fun aa g h => ?_
      obtain ⟨_, yy0, rfl⟩ := seen_in rfl h.1
      have ee0 := getD_of yy0
      obtain ⟨_, yy1, ⟨q101, d101, rfl, hn101⟩⟩ := seen_in rfl h.2.1
      have ee1 := getD_of yy1
      refine tupon_enter (f := 30) (args := #[.int .i64 9, .slice p3 1 c3, .slice q101 (pre (.e2 (ndo 7) (pt (2 * 65536)) (pt (1 * 65536)))).length d101]) (by simp [go_sem, ee0, yy0, ee1, yy1]) rfl ?_
      exact (bin_q 9 _ _ (pt (2 * 65536)) (.e2 (ndo 7) (pt (2 * 65536)) (pt (1 * 65536))) g.w (grows_nxc _ _ _ _ H2.out g.h) (hn101) (by decide) (by decide)).mono fun e w' ⟨z, he, hz, hB⟩ => ⟨_, he, hB, hz⟩
    · refine ob_gtrue [102] _ true 97 rfl rfl rfl rfl (fun v w h => h) fun aa g h => ?_
      obtain ⟨_, yy0, ⟨q102, d102, rfl, hn102⟩⟩ := seen_in rfl h.1
      have ee0 := getD_of yy0
      refine tupon_enter (f := 15) (args := #[.slice q102 (pre (.e2 (ndo 9) (pt (2 * 65536)) (.e2 (ndo 7) (pt (2 * 65536)) (pt (1 * 65536))))).length d102]) (by simp [go_sem, ee0, yy0]) rfl ?_
      exact (simp_q 2 _ (.e2 (ndo 9) (pt (2 * 65536)) (.e2 (ndo 7) (pt (2 * 65536)) (pt (1 * 65536)))) g.w (hn102) (by decide) (by decide)).mono fun e w' ⟨z, he, hz, hB⟩ => ⟨_, he, hB, hz⟩
    · refine ob_gtrue [] _ true 97 rfl rfl rfl rfl (fun v w h => h) fun aa g h => ?_
      refine tupon_enter (f := 29) (args := #[.int .i64 6]) (by simp [go_sem]) rfl ?_
      exact (num_q 6 g.w (by omega) (by omega)).mono fun e w' ⟨z, he, hz, hB⟩ => ⟨_, he, hB, hz⟩
    · refine ob_gtrue [103, 104] _ true 97 rfl rfl rfl rfl (fun v w h => h) fun aa g h => ?_
      obtain ⟨_, yy0, ⟨q103, d103, rfl, hn103⟩⟩ := seen_in rfl h.1
      have ee0 := getD_of yy0
      obtain ⟨_, yy1, ⟨q104, d104, rfl, hn104⟩⟩ := seen_in rfl h.2.1
      have ee1 := getD_of yy1
      refine tupon_enter (f := 14) (args := #[.slice q103 (pre (sT (.e2 (ndo 9) (pt (2 * 65536)) (.e2 (ndo 7) (pt (2 * 65536)) (pt (1 * 65536)))))).length d103, .slice q104 (pre (pt (6 * 65536))).length d104]) (by simp [go_sem, ee0, yy0, ee1, yy1]) rfl ?_
      exact (same_q _ _ (pre (sT (.e2 (ndo 9) (pt (2 * 65536)) (.e2 (ndo 7) (pt (2 * 65536)) (pt (1 * 65536)))))) (pre (pt (6 * 65536))) g.w (hn103) (hn104) (by kernel_rfl)).mono fun e w' ⟨he, hB⟩ => ⟨_, he, hB, rfl⟩
    · refine ob_plain [97, 105] rfl rfl fun aa g h => ?_
      obtain ⟨_, yy0, rfl⟩ := seen_in rfl h.1
      have ee0 := getD_of yy0
      obtain ⟨_, yy1, rfl⟩ := seen_in rfl h.2.1
      have ee1 := getD_of yy1
      exact tupon_value (v := .bool true) (by simp [go_sem, ee0, yy0, ee1, yy1]) (Below.refl _ _) rfl
    · refine ob_plain [106] rfl rfl fun aa g h => ?_
      obtain ⟨_, yy0, rfl⟩ := seen_in rfl h.1
      have ee0 := getD_of yy0
      exact tupon_value (v := .bool true) (by simp [go_sem, ee0, yy0]) (Below.refl _ _) rfl
    · refine ob_gtrue [7] _ true 107 rfl rfl rfl rfl (fun v w h => h) fun aa g h => ?_
      have yy0 := seen_out (v := .slice pm 2 cm) rfl rfl h.1
      have ee0 := getD_of yy0
      exact tupon_value (v := .slice pm 2 cm) (by simp [go_sem, ee0, yy0]) (Below.refl _ _) rfl
    · refine ob_gtrue [] _ true 107 rfl rfl rfl rfl (fun v w h => h) fun aa g h => ?_
      exact tupon_value (v := .agg #[.int .i64 0, .int .i64 0]) (by simp [go_sem]) (Below.refl _ _) rfl
    · refine ob_gtrue [5] _ true 107 rfl rfl rfl rfl (fun v w h => h) fun aa g h => ?_
      have yy0 := seen_out (v := .pointer (some ⟨w6.heap.size, 0, none⟩)) rfl rfl h.1
      have ee0 := getD_of yy0
      exact tupon_value (v := .agg #[.int .i64 65536, .int .i64 65536]) (by simp [go_sem, ee0, yy0, a0 g, a1 g]) (Below.refl _ _) rfl
    · refine ob_gtrue [109, 110] _ true 107 rfl rfl rfl rfl (fun v w h => h) fun aa g h => ?_
      obtain ⟨_, yy0, rfl⟩ := seen_in rfl h.1
      have ee0 := getD_of yy0
      obtain ⟨_, yy1, rfl⟩ := seen_in rfl h.2.1
      have ee1 := getD_of yy1
      exact tupon_value (v := .slice (some ⟨g.w.heap.size, 0, none⟩) 2 2) (w1 := g.w.alloc (.cells #[.int .i64 0, .int .i64 0, .int .i64 65536, .int .i64 65536] 26)) (by simp [go_sem, ee0, yy0, ee1, yy1]) ((Below.refl _ _).alloc (Nat.le_refl _) _) ⟨_, rfl, g.h.size, World.alloc_heap_new _ _⟩
    · refine ob_gtrue [] _ true 107 rfl rfl rfl rfl (fun v w h => h) fun aa g h => ?_
      refine tupon_enter (f := 33) (args := #[.int .i64 (-65536)]) (by simp [go_sem]) rfl ?_
      exact (point_at (-65536) g.w (by decide) (by decide)).mono fun e w' ⟨he, hB⟩ => ⟨_, he, hB, rfl⟩
    · refine ob_gtrue [] _ true 107 rfl rfl rfl rfl (fun v w h => h) fun aa g h => ?_
      exact tupon_value (v := .agg #[.int .i64 0, .int .i64 0]) (by simp [go_sem]) (Below.refl _ _) rfl
    · refine ob_gtrue [112, 113] _ true 107 rfl rfl rfl rfl (fun v w h => h) fun aa g h => ?_
      obtain ⟨_, yy0, rfl⟩ := seen_in rfl h.1
      have ee0 := getD_of yy0
      obtain ⟨_, yy1, rfl⟩ := seen_in rfl h.2.1
      have ee1 := getD_of yy1
      exact tupon_value (v := .slice (some ⟨g.w.heap.size, 0, none⟩) 2 2) (w1 := g.w.alloc (.cells #[.int .i64 (-65536), .int .i64 (-65536), .int .i64 0, .int .i64 0] 26)) (by simp [go_sem, ee0, yy0, ee1, yy1]) ((Below.refl _ _).alloc (Nat.le_refl _) _) ⟨_, rfl, g.h.size, World.alloc_heap_new _ _⟩
    · refine ob_gtrue [111, 114] _ true 107 rfl rfl rfl rfl (fun v w h => h) fun aa g h => ?_
      obtain ⟨_, yy0, ⟨X111, rfl, hX111, hI111⟩⟩ := seen_in rfl h.1
      have ee0 := getD_of yy0
      obtain ⟨_, yy1, ⟨X114, rfl, hX114, hI114⟩⟩ := seen_in rfl h.2.1
      have ee1 := getD_of yy1
      exact tupon_value (v := .slice (some ⟨g.w.heap.size, 0, none⟩) 2 2) (w1 := g.w.alloc (.cells #[.slice (some ⟨X111, 0, none⟩) 2 2, .slice (some ⟨X114, 0, none⟩) 2 2] 24)) (by simp [go_sem, ee0, yy0, ee1, yy1]) ((Below.refl _ _).alloc (Nat.le_refl _) _) ⟨_, rfl, lx_two grows_bx (bx_two hI111) (bx_two hI114)⟩
    · refine ob_gtrue [108, 115] _ true 107 rfl rfl rfl rfl (fun v w h => h) fun aa g h => ?_
      obtain ⟨_, yy0, rfl⟩ := seen_in rfl h.1
      have ee0 := getD_of yy0
      obtain ⟨_, yy1, ⟨X115, rfl, hm115⟩⟩ := seen_in rfl h.2.1
      have ee1 := getD_of yy1
      refine tupon_enter (f := 21) (args := #[.slice pm 2 cm, .slice (some ⟨X115, 0, none⟩) 2 2]) (by simp [go_sem, ee0, yy0, ee1, yy1]) rfl ?_
      exact (same4_q _ _ M10 g.w (Lx.grow grows_bx HM.out g.h) hm115).mono fun e w' ⟨he, hB⟩ => ⟨_, he, hB, rfl⟩
    · refine ob_plain [107, 116] rfl rfl fun aa g h => ?_
      obtain ⟨_, yy0, rfl⟩ := seen_in rfl h.1
      have ee0 := getD_of yy0
      obtain ⟨_, yy1, rfl⟩ := seen_in rfl h.2.1
      have ee1 := getD_of yy1
      exact tupon_value (v := .bool true) (by simp [go_sem, ee0, yy0, ee1, yy1]) (Below.refl _ _) rfl
    · refine ob_plain [117] rfl rfl fun aa g h => ?_
      obtain ⟨_, yy0, rfl⟩ := seen_in rfl h.1
      have ee0 := getD_of yy0
      exact tupon_value (v := .bool true) (by simp [go_sem, ee0, yy0]) (Below.refl _ _) rfl
    · refine ob_gtrue [4] _ true 118 rfl rfl rfl rfl (fun v w h => h) fun aa g h => ?_
      have yy0 := seen_out (v := .pointer (some ⟨w4.heap.size + 1, 0, none⟩)) rfl rfl h.1
      have ee0 := getD_of yy0
      exact tupon_value (v := .agg #[.slice (some ⟨w3.heap.size, 0, none⟩) 2 2, .slice (some ⟨w4.heap.size, 0, none⟩) 2 2]) (by simp [go_sem, ee0, yy0, y0 g, y1 g]) (Below.refl _ _) rfl
    · refine ob_gtrue [9] _ true 118 rfl rfl rfl rfl (fun v w h => h) fun aa g h => ?_
      have yy0 := seen_out (v := .slice p15 (pre (.e2 (ndo 7) (.e1 (ndo 5) xT) (.e1 (ndo 5) vT))).length c15) rfl rfl h.1
      have ee0 := getD_of yy0
      exact tupon_value (v := .slice p15 (pre (.e2 (ndo 7) (.e1 (ndo 5) xT) (.e1 (ndo 5) vT))).length c15) (by simp [go_sem, ee0, yy0]) (Below.refl _ _) rfl
    · refine ob_gtrue [5] _ true 118 rfl rfl rfl rfl (fun v w h => h) fun aa g h => ?_
      have yy0 := seen_out (v := .pointer (some ⟨w6.heap.size, 0, none⟩)) rfl rfl h.1
      have ee0 := getD_of yy0
      exact tupon_value (v := .agg #[.int .i64 65536, .int .i64 65536]) (by simp [go_sem, ee0, yy0, a0 g, a1 g]) (Below.refl _ _) rfl
    · refine ob_gtrue [5] _ true 118 rfl rfl rfl rfl (fun v w h => h) fun aa g h => ?_
      have yy0 := seen_out (v := .pointer (some ⟨w6.heap.size, 0, none⟩)) rfl rfl h.1
      have ee0 := getD_of yy0
      exact tupon_value (v := .agg #[.int .i64 65536, .int .i64 65536]) (by simp [go_sem, ee0, yy0, a0 g, a1 g]) (Below.refl _ _) rfl
    · refine ob_gtrue [121, 122] _ true 118 rfl rfl rfl rfl (fun v w h => h) fun aa g h => ?_
      obtain ⟨_, yy0, rfl⟩ := seen_in rfl h.1
      have ee0 := getD_of yy0
      obtain ⟨_, yy1, rfl⟩ := seen_in rfl h.2.1
      have ee1 := getD_of yy1
      exact tupon_value (v := .slice (some ⟨g.w.heap.size, 0, none⟩) 2 2) (w1 := g.w.alloc (.cells #[.int .i64 65536, .int .i64 65536, .int .i64 65536, .int .i64 65536] 26)) (by simp [go_sem, ee0, yy0, ee1, yy1]) ((Below.refl _ _).alloc (Nat.le_refl _) _) ⟨_, rfl, g.h.size, World.alloc_heap_new _ _⟩
    · refine ob_gtrue [5] _ true 118 rfl rfl rfl rfl (fun v w h => h) fun aa g h => ?_
      have yy0 := seen_out (v := .pointer (some ⟨w6.heap.size, 0, none⟩)) rfl rfl h.1
      have ee0 := getD_of yy0
      exact tupon_value (v := .agg #[.int .i64 65536, .int .i64 65536]) (by simp [go_sem, ee0, yy0, a0 g, a1 g]) (Below.refl _ _) rfl
    · refine ob_gtrue [119, 120, 123, 124] _ true 118 rfl rfl rfl rfl (fun v w h => h) fun aa g h => ?_
      obtain ⟨_, yy0, rfl⟩ := seen_in rfl h.1
      have ee0 := getD_of yy0
      obtain ⟨_, yy1, rfl⟩ := seen_in rfl h.2.1
      have ee1 := getD_of yy1
      obtain ⟨_, yy2, ⟨X123, rfl, hX123, hI123⟩⟩ := seen_in rfl h.2.2.1
      have ee2 := getD_of yy2
      obtain ⟨_, yy3, rfl⟩ := seen_in rfl h.2.2.2.1
      have ee3 := getD_of yy3
      refine tupon_enter (f := 24) (args := #[.agg #[.slice (some ⟨w3.heap.size, 0, none⟩) 2 2, .slice (some ⟨w4.heap.size, 0, none⟩) 2 2], .slice p15 (pre (.e2 (ndo 7) (.e1 (ndo 5) xT) (.e1 (ndo 5) vT))).length c15, .slice (some ⟨X123, 0, none⟩) 2 2, .agg #[.int .i64 65536, .int .i64 65536]]) (by simp [go_sem, ee0, yy0, ee1, yy1, ee2, yy2, ee3, yy3]) rfl ?_
      exact (lie_q Y10 (eT) 0 0 _ _ _ _ _ g.w (Lx.grow grows_nxo HLX.out g.h) (grows_nxc _ _ _ _ HET.out g.h) (bx_vx' (bx_two hI123)) rfl (by decide) (by decide) (by decide) (by kernel_rfl)).mono fun e w' ⟨he, hB⟩ => ⟨_, he, hB, rfl⟩
    · refine ob_gtrue [] _ true 118 rfl rfl rfl rfl (fun v w h => h) fun aa g h => ?_
      refine tupon_enter (f := 33) (args := #[.int .i64 0]) (by simp [go_sem]) rfl ?_
      exact (point_at 0 g.w (by decide) (by decide)).mono fun e w' ⟨he, hB⟩ => ⟨_, he, hB, rfl⟩
    · refine ob_gtrue [125, 126] _ true 118 rfl rfl rfl rfl (fun v w h => h) fun aa g h => ?_
      obtain ⟨_, yy0, rfl⟩ := seen_in rfl h.1
      have ee0 := getD_of yy0
      obtain ⟨_, yy1, rfl⟩ := seen_in rfl h.2.1
      have ee1 := getD_of yy1
      exact tupon_value (v := .bool true) (by simp [go_sem, ee0, yy0, ee1, yy1, iv_same 0 0 (by unfold W64; omega) (by unfold W64; omega)]) (Below.refl _ _) rfl
    · refine ob_plain [118, 127] rfl rfl fun aa g h => ?_
      obtain ⟨_, yy0, rfl⟩ := seen_in rfl h.1
      have ee0 := getD_of yy0
      obtain ⟨_, yy1, rfl⟩ := seen_in rfl h.2.1
      have ee1 := getD_of yy1
      exact tupon_value (v := .bool true) (by simp [go_sem, ee0, yy0, ee1, yy1]) (Below.refl _ _) rfl
    · refine ob_plain [128] rfl rfl fun aa g h => ?_
      obtain ⟨_, yy0, rfl⟩ := seen_in rfl h.1
      have ee0 := getD_of yy0
      exact tupon_value (v := .bool true) (by simp [go_sem, ee0, yy0]) (Below.refl _ _) rfl
    · refine ob_gtrue [4] _ true 129 rfl rfl rfl rfl (fun v w h => h) fun aa g h => ?_
      have yy0 := seen_out (v := .pointer (some ⟨w4.heap.size + 1, 0, none⟩)) rfl rfl h.1
      have ee0 := getD_of yy0
      exact tupon_value (v := .agg #[.slice (some ⟨w3.heap.size, 0, none⟩) 2 2, .slice (some ⟨w4.heap.size, 0, none⟩) 2 2]) (by simp [go_sem, ee0, yy0, y0 g, y1 g]) (Below.refl _ _) rfl
    · refine ob_gtrue [1] _ true 129 rfl rfl rfl rfl (fun v w h => h) fun aa g h => ?_
      have yy0 := seen_out (v := .slice p1 1 c1) rfl rfl h.1
      have ee0 := getD_of yy0
      exact tupon_value (v := .slice p1 1 c1) (by simp [go_sem, ee0, yy0]) (Below.refl _ _) rfl
    · refine ob_gtrue [5] _ true 129 rfl rfl rfl rfl (fun v w h => h) fun aa g h => ?_
      have yy0 := seen_out (v := .pointer (some ⟨w6.heap.size, 0, none⟩)) rfl rfl h.1
      have ee0 := getD_of yy0
      exact tupon_value (v := .agg #[.int .i64 65536, .int .i64 65536]) (by simp [go_sem, ee0, yy0, a0 g, a1 g]) (Below.refl _ _) rfl
    · refine ob_gtrue [6] _ true 129 rfl rfl rfl rfl (fun v w h => h) fun aa g h => ?_
      have yy0 := seen_out (v := .pointer (some ⟨w6.heap.size + 1, 0, none⟩)) rfl rfl h.1
      have ee0 := getD_of yy0
      exact tupon_value (v := .agg #[.int .i64 (-65536), .int .i64 131072]) (by simp [go_sem, ee0, yy0, b0 g, b1 g]) (Below.refl _ _) rfl
    · refine ob_gtrue [132, 133] _ true 129 rfl rfl rfl rfl (fun v w h => h) fun aa g h => ?_
      obtain ⟨_, yy0, rfl⟩ := seen_in rfl h.1
      have ee0 := getD_of yy0
      obtain ⟨_, yy1, rfl⟩ := seen_in rfl h.2.1
      have ee1 := getD_of yy1
      exact tupon_value (v := .slice (some ⟨g.w.heap.size, 0, none⟩) 2 2) (w1 := g.w.alloc (.cells #[.int .i64 65536, .int .i64 65536, .int .i64 (-65536), .int .i64 131072] 26)) (by simp [go_sem, ee0, yy0, ee1, yy1]) ((Below.refl _ _).alloc (Nat.le_refl _) _) ⟨_, rfl, g.h.size, World.alloc_heap_new _ _⟩
    · refine ob_gtrue [5] _ true 129 rfl rfl rfl rfl (fun v w h => h) fun aa g h => ?_
      have yy0 := seen_out (v := .pointer (some ⟨w6.heap.size, 0, none⟩)) rfl rfl h.1
      have ee0 := getD_of yy0
      exact tupon_value (v := .agg #[.int .i64 65536, .int .i64 65536]) (by simp [go_sem, ee0, yy0, a0 g, a1 g]) (Below.refl _ _) rfl
    · refine ob_gtrue [130, 131, 134, 135] _ true 129 rfl rfl rfl rfl (fun v w h => h) fun aa g h => ?_
      obtain ⟨_, yy0, rfl⟩ := seen_in rfl h.1
      have ee0 := getD_of yy0
      obtain ⟨_, yy1, rfl⟩ := seen_in rfl h.2.1
      have ee1 := getD_of yy1
      obtain ⟨_, yy2, ⟨X134, rfl, hX134, hI134⟩⟩ := seen_in rfl h.2.2.1
      have ee2 := getD_of yy2
      obtain ⟨_, yy3, rfl⟩ := seen_in rfl h.2.2.2.1
      have ee3 := getD_of yy3
      refine tupon_enter (f := 24) (args := #[.agg #[.slice (some ⟨w3.heap.size, 0, none⟩) 2 2, .slice (some ⟨w4.heap.size, 0, none⟩) 2 2], .slice p1 1 c1, .slice (some ⟨X134, 0, none⟩) 2 2, .agg #[.int .i64 65536, .int .i64 65536]]) (by simp [go_sem, ee0, yy0, ee1, yy1, ee2, yy2, ee3, yy3]) rfl ?_
      exact (lie_q X10 (xT) (-65536) 131072 _ _ _ _ _ g.w (Lx.grow grows_nxo HLX.out g.h) ((HX.out.grow g.h).1) (bx_vx' (bx_two hI134)) rfl (by decide) (by decide) (by decide) (by kernel_rfl)).mono fun e w' ⟨he, hB⟩ => ⟨_, he, hB, rfl⟩
    · refine ob_gtrue [6] _ true 129 rfl rfl rfl rfl (fun v w h => h) fun aa g h => ?_
      have yy0 := seen_out (v := .pointer (some ⟨w6.heap.size + 1, 0, none⟩)) rfl rfl h.1
      have ee0 := getD_of yy0
      exact tupon_value (v := .agg #[.int .i64 (-65536), .int .i64 131072]) (by simp [go_sem, ee0, yy0, b0 g, b1 g]) (Below.refl _ _) rfl
    · refine ob_gtrue [136, 137] _ true 129 rfl rfl rfl rfl (fun v w h => h) fun aa g h => ?_
      obtain ⟨_, yy0, rfl⟩ := seen_in rfl h.1
      have ee0 := getD_of yy0
      obtain ⟨_, yy1, rfl⟩ := seen_in rfl h.2.1
      have ee1 := getD_of yy1
      exact tupon_value (v := .bool true) (by simp [go_sem, ee0, yy0, ee1, yy1, iv_same (-65536) 131072 (by unfold W64; omega) (by unfold W64; omega)]) (Below.refl _ _) rfl
    · refine ob_plain [129, 138] rfl rfl fun aa g h => ?_
      obtain ⟨_, yy0, rfl⟩ := seen_in rfl h.1
      have ee0 := getD_of yy0
      obtain ⟨_, yy1, rfl⟩ := seen_in rfl h.2.1
      have ee1 := getD_of yy1
      exact tupon_value (v := .bool true) (by simp [go_sem, ee0, yy0, ee1, yy1]) (Below.refl _ _) rfl
    · refine ob_plain [139] rfl rfl fun aa g h => ?_
      obtain ⟨_, yy0, rfl⟩ := seen_in rfl h.1
      have ee0 := getD_of yy0
      exact tupon_value (v := .bool true) (by simp [go_sem, ee0, yy0]) (Below.refl _ _) rfl
  rintro w16 hB _ rfl _ rfl _ ⟨q38, d38, rfl, hn38⟩ _ ⟨q39, d39, rfl, hn39⟩ _ rfl _ rfl _ ⟨q42, d42, rfl, hn42⟩ _ rfl _ rfl _ rfl _ ⟨q46, d46, rfl, hn46⟩ _ ⟨q47, d47, rfl, hn47⟩ _ rfl _ rfl _ ⟨q50, d50, rfl, hn50⟩ _ rfl _ rfl _ rfl _ ⟨q54, d54, rfl, hn54⟩ _ rfl _ ⟨q56, d56, rfl, hn56⟩ _ ⟨q57, d57, rfl, hn57⟩ _ rfl _ rfl _ rfl _ rfl _ rfl _ ⟨q63, d63, rfl, hn63⟩ _ ⟨q64, d64, rfl, hn64⟩ _ ⟨q65, d65, rfl, hn65⟩ _ ⟨q66, d66, rfl, hn66⟩ _ rfl _ rfl _ rfl _ rfl _ ⟨q71, d71, rfl, hn71⟩ _ ⟨q72, d72, rfl, hn72⟩ _ ⟨q73, d73, rfl, hn73⟩ _ rfl _ rfl _ ⟨q76, d76, rfl, hn76⟩ _ ⟨q77, d77, rfl, hn77⟩ _ ⟨q78, d78, rfl, hn78⟩ _ rfl _ rfl _ rfl _ rfl _ ⟨X83, rfl, hX83, hI83⟩ _ ⟨q84, d84, rfl, hn84⟩ _ ⟨q85, d85, rfl, hn85⟩ _ rfl _ rfl _ rfl _ ⟨q89, d89, rfl, hn89⟩ _ rfl _ ⟨q91, d91, rfl, hn91⟩ _ ⟨q92, d92, rfl, hn92⟩ _ ⟨q93, d93, rfl, hn93⟩ _ rfl _ rfl _ rfl _ rfl _ rfl _ rfl _ ⟨q100, d100, rfl, hn100⟩ _ ⟨q101, d101, rfl, hn101⟩ _ ⟨q102, d102, rfl, hn102⟩ _ ⟨q103, d103, rfl, hn103⟩ _ ⟨q104, d104, rfl, hn104⟩ _ rfl _ rfl _ rfl _ rfl _ rfl _ rfl _ ⟨X111, rfl, hX111, hI111⟩ _ rfl _ rfl _ ⟨X114, rfl, hX114, hI114⟩ _ ⟨X115, rfl, hm115⟩ _ rfl _ rfl _ rfl _ rfl _ rfl _ rfl _ rfl _ ⟨X123, rfl, hX123, hI123⟩ _ rfl _ rfl _ rfl _ rfl _ rfl _ rfl _ rfl _ rfl _ rfl _ rfl _ ⟨X134, rfl, hX134, hI134⟩ _ rfl _ rfl _ rfl _ rfl _ rfl _ rfl
  simp only [Act.put, List.setIfInBounds_toArray, List.set_cons_succ, List.set_cons_zero, List.filterMap_nil, finP]
  have HBZ := Lib.hid (below_then HB15.out hB)
  clear hB
  go_wp2_with (fail)
  go_ret
  exact ⟨rfl, HBZ.out⟩
end Go.Proofs.YtbppfohcicepcaaGreat
