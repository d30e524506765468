/-
  ode.Eval and ode.Derivatives.
-/
import Derived.Test.YtajddejeglhbhaaOg
import Derived.Test.YtajddejeglhbhaaTko
namespace Go.Proofs.Ytajddejeglhbhaa
open Go.ChangeShapes Go.WideShapes Go.ChangeAt Go.RowKit Go.Maps
set_option linter.unusedVariables false
set_option linter.unusedSimpArgs false
set_option maxRecDepth 100000
attribute [local irreducible] Calls
set_option maxHeartbeats 8000000 in
theorem evalE_ok (v xv : Value) (t1 t2 : Int) (X : List (Int × Int)) (N : Int) (e : Ex) (w : World) (hv : NxC w v (pre e)) (hxv : Vx w xv X) (hN : (X.length : Int) = N) (hvx : ∀ p ∈ X, VI p.1 p.2) (hvt : VI t1 t2) (he : EV N e) (hsm : (pre e).length ≤ 1000000) (r1 r2 : Int) (hr : evT X (t1, t2) e = (r1, r2)) :
    Calls Try.prog 45 #[v, xv, .agg #[.int .i64 t1, .int .i64 t2]] w fun en w' => en = .returned (.agg #[.int .i64 r1, .int .i64 r2]) ∧ Below w.heap.size w w' := by
  subst hN
  obtain ⟨hnx, p, c, rfl, hcap, hpc⟩ := id hv
  obtain ⟨px, cx, rfl⟩ := hxv.cut
  have hE : Below w.heap.size w (((w.alloc (.cells #[.slice px X.length cx] 26)).alloc (.cells #[.int .i64 t1, .int .i64 t2] 28)).alloc (.cells #[.int .i64 0, .int .i64 0] 28)) := allocs_below [.cells #[.slice px X.length cx] 26, .cells #[.int .i64 t1, .int .i64 t2] 28, .cells #[.int .i64 0, .int .i64 0] 28] w
  have a0 : (((w.alloc (.cells #[.slice px X.length cx] 26)).alloc (.cells #[.int .i64 t1, .int .i64 t2] 28)).alloc (.cells #[.int .i64 0, .int .i64 0] 28)).heap[w.heap.size]? = some (.cells #[.slice px X.length cx] 26 (0, 0)) := allocs_at [.cells #[.slice px X.length cx] 26, .cells #[.int .i64 t1, .int .i64 t2] 28, .cells #[.int .i64 0, .int .i64 0] 28] w 0 _ rfl
  have a1 : (((w.alloc (.cells #[.slice px X.length cx] 26)).alloc (.cells #[.int .i64 t1, .int .i64 t2] 28)).alloc (.cells #[.int .i64 0, .int .i64 0] 28)).heap[w.heap.size + 1]? = some (.cells #[.int .i64 t1, .int .i64 t2] 28 (0, 0)) := allocs_at [.cells #[.slice px X.length cx] 26, .cells #[.int .i64 t1, .int .i64 t2] 28, .cells #[.int .i64 0, .int .i64 0] 28] w 1 _ rfl
  have a2 : (((w.alloc (.cells #[.slice px X.length cx] 26)).alloc (.cells #[.int .i64 t1, .int .i64 t2] 28)).alloc (.cells #[.int .i64 0, .int .i64 0] 28)).heap[w.heap.size + 2]? = some (.cells #[.int .i64 0, .int .i64 0] 28 (0, 0)) := allocs_at [.cells #[.slice px X.length cx] 26, .cells #[.int .i64 t1, .int .i64 t2] 28, .cells #[.int .i64 0, .int .i64 0] 28] w 2 _ rfl
  have hsz3 : (((w.alloc (.cells #[.slice px X.length cx] 26)).alloc (.cells #[.int .i64 t1, .int .i64 t2] 28)).alloc (.cells #[.int .i64 0, .int .i64 0] 28)).heap.size = w.heap.size + 3 := by rw [alloc_sz, alloc_sz, alloc_sz]
  have KC := Lib.hid (complete_ok (.slice p (pre e).length c) (pre e) X.length (((w.alloc (.cells #[.slice px X.length cx] 26)).alloc (.cells #[.int .i64 t1, .int .i64 t2] 28)).alloc (.cells #[.int .i64 0, .int .i64 0] 28)) (hnx.grow hE) hsm)
  have hve : veGo (X.length : Int) (pre e) 1 = true := ve_one he
  rw [hve] at KC
  have x0 := heapN_cellj a0 (k := 0) rfl
  have HE := Lib.hid hE
  have A0 := Lib.hid a0
  have A1 := Lib.hid a1
  have A2 := Lib.hid a2
  have HV := Lib.hid hv
  clear a0 a1 a2 hE hve hv hnx
  go_enter Try.func45, Try.ntmps45
  go_wp2_with (fail)
  refine KC.out.mono ?_
  rintro en w4 ⟨rfl, hB4⟩
  go_wp2_with (fail)
  refine (binops_ok _).mono ?_
  rintro en w5 ⟨bm, rfl, hbm, hfp, hB5⟩
  have hB := hB4.trans (hB5.mono hB4.size)
  have hs5 := hB.size
  rw [hsz3] at hs5
  have hb5 := hfp.lt
  have hbm2 := hB4.size
  rw [hsz3] at hbm2
  have b0 := allocs_at [.cells #[.map (some bm)] 99, .cells #[.slice p (pre e).length c] 54, .cells #[.func (.func 72) #[] #[.pointer (some ⟨w5.heap.size + 1, 0, none⟩), .pointer (some ⟨w.heap.size, 0, none⟩), .pointer (some ⟨w.heap.size + 1, 0, none⟩), .pointer (some ⟨w5.heap.size + 2, 0, none⟩), .pointer (some ⟨w5.heap.size, 0, none⟩)]] 68] w5 0 _ rfl
  have b1 := allocs_at [.cells #[.map (some bm)] 99, .cells #[.slice p (pre e).length c] 54, .cells #[.func (.func 72) #[] #[.pointer (some ⟨w5.heap.size + 1, 0, none⟩), .pointer (some ⟨w.heap.size, 0, none⟩), .pointer (some ⟨w.heap.size + 1, 0, none⟩), .pointer (some ⟨w5.heap.size + 2, 0, none⟩), .pointer (some ⟨w5.heap.size, 0, none⟩)]] 68] w5 1 _ rfl
  have b2 := allocs_at [.cells #[.map (some bm)] 99, .cells #[.slice p (pre e).length c] 54, .cells #[.func (.func 72) #[] #[.pointer (some ⟨w5.heap.size + 1, 0, none⟩), .pointer (some ⟨w.heap.size, 0, none⟩), .pointer (some ⟨w.heap.size + 1, 0, none⟩), .pointer (some ⟨w5.heap.size + 2, 0, none⟩), .pointer (some ⟨w5.heap.size, 0, none⟩)]] 68] w5 2 _ rfl
  have hS : Below w5.heap.size w5 (((w5.alloc (.cells #[.map (some bm)] 99)).alloc (.cells #[.slice p (pre e).length c] 54)).alloc (.cells #[.func (.func 72) #[] #[.pointer (some ⟨w5.heap.size + 1, 0, none⟩), .pointer (some ⟨w.heap.size, 0, none⟩), .pointer (some ⟨w.heap.size + 1, 0, none⟩), .pointer (some ⟨w5.heap.size + 2, 0, none⟩), .pointer (some ⟨w5.heap.size, 0, none⟩)]] 68)) := allocs_below [.cells #[.map (some bm)] 99, .cells #[.slice p (pre e).length c] 54, .cells #[.func (.func 72) #[] #[.pointer (some ⟨w5.heap.size + 1, 0, none⟩), .pointer (some ⟨w.heap.size, 0, none⟩), .pointer (some ⟨w.heap.size + 1, 0, none⟩), .pointer (some ⟨w5.heap.size + 2, 0, none⟩), .pointer (some ⟨w5.heap.size, 0, none⟩)]] 68] w5
  have hA := hB.trans (hS.mono hB.size)
  have k : ∀ {b : Nat} {o : Obj}, (((w.alloc (.cells #[.slice px X.length cx] 26)).alloc (.cells #[.int .i64 t1, .int .i64 t2] 28)).alloc (.cells #[.int .i64 0, .int .i64 0] 28)).heap[b]? = some o → (((w5.alloc (.cells #[.map (some bm)] 99)).alloc (.cells #[.slice p (pre e).length c] 54)).alloc (.cells #[.func (.func 72) #[] #[.pointer (some ⟨w5.heap.size + 1, 0, none⟩), .pointer (some ⟨w.heap.size, 0, none⟩), .pointer (some ⟨w.heap.size + 1, 0, none⟩), .pointer (some ⟨w5.heap.size + 2, 0, none⟩), .pointer (some ⟨w5.heap.size, 0, none⟩)]] 68)).heap[b]? = some o := fun e => (hA.block _ (Array.getElem?_eq_some_iff.1 e).1).trans e
  have hev : EvS w (w5.heap.size + 1) w.heap.size (w.heap.size + 1) (w5.heap.size + 2) w5.heap.size bm (.slice px X.length cx) t1 t2 (.slice p (pre e).length c) (pre e ++ []) (((w5.alloc (.cells #[.map (some bm)] 99)).alloc (.cells #[.slice p (pre e).length c] 54)).alloc (.cells #[.func (.func 72) #[] #[.pointer (some ⟨w5.heap.size + 1, 0, none⟩), .pointer (some ⟨w.heap.size, 0, none⟩), .pointer (some ⟨w.heap.size + 1, 0, none⟩), .pointer (some ⟨w5.heap.size + 2, 0, none⟩), .pointer (some ⟨w5.heap.size, 0, none⟩)]] 68)) := by
    rw [List.append_nil]
    exact ⟨⟨by omega, by omega, by omega, by omega, by omega, by omega⟩, below_then HE.out hA, b1, k A0.out, k A1.out, b2, b0, hfp.grow hS, HV.out⟩
  have hr6 := k A2.out
  have KE := Lib.hid (ev_ok w _ _ _ _ _ _ _ t1 t2 X X.length hxv rfl hvx hvt e he [] _ _ hev)
  rw [hr] at KE
  have HR6 := Lib.hid hr6
  have HB6 := Lib.hid (below_then HE.out hA)
  have hrb : w.heap.size ≤ w5.heap.size + 1 := by omega
  have hs6 : w.heap.size ≤ (((w5.alloc (.cells #[.map (some bm)] 99)).alloc (.cells #[.slice p (pre e).length c] 54)).alloc (.cells #[.func (.func 72) #[] #[.pointer (some ⟨w5.heap.size + 1, 0, none⟩), .pointer (some ⟨w.heap.size, 0, none⟩), .pointer (some ⟨w.heap.size + 1, 0, none⟩), .pointer (some ⟨w5.heap.size + 2, 0, none⟩), .pointer (some ⟨w5.heap.size, 0, none⟩)]] 68)).heap.size := HB6.out.size
  have hne : w.heap.size + 2 ≠ w5.heap.size + 1 := by omega
  clear hB hs5 hb5 hbm2 b0 b1 b2 hS hA k hev hr6 hB4 hB5 hfp hbm KC A0 A1 A2 hr
  go_wp2_with (fail)
  refine KE.out.mono ?_
  rintro en w7 ⟨v7, rfl, h7, o7⟩
  have hr7 := (o7.blk _ (Array.getElem?_eq_some_iff.1 HR6.out).1 hne).trans HR6.out
  have HB7 := Lib.hid (HB6.out.trans (o7.below hrb hs6))
  have y0 := heapN_cellj hr7 (k := 0) rfl
  have y1 := heapN_cellj hr7 (k := 1) rfl
  have z0 : w7.frozen? ⟨w.heap.size + 2, 0, none⟩ = false := by simp [World.frozen?, hr7]
  have z1 : w7.frozen? ⟨w.heap.size + 2, 1, none⟩ = false := by simp [World.frozen?, hr7]
  clear h7 o7 KE x0
  go_wp2_with (fail)
  have hs := cellsT_setN (o := 1) (u := .int .i64 r2) (cellsT_setN (o := 0) (u := .int .i64 r1) hr7)
  have x0 := heapN_cellj hs (k := 0) (u := .int .i64 r1) rfl
  have x1 := heapN_cellj hs (k := 1) (u := .int .i64 r2) rfl
  exact bodyPost_ret (v := .agg #[.int .i64 r1, .int .i64 r2]) (by simp [results, Try.results45, go_sem, x0, x1]) rfl ⟨rfl, (HB7.out.setCell (p := ⟨w.heap.size + 2, 0, none⟩) (by show w.heap.size ≤ w.heap.size + 2; omega) _).setCell (p := ⟨w.heap.size + 2, 1, none⟩) (by show w.heap.size ≤ w.heap.size + 2; omega) _⟩
set_option maxHeartbeats 8000000 in
theorem deriv_ok (pn : Option Addr) (nn cn : Nat) (vf xv : Value) (t1 t2 : Int) (X : List (Int × Int)) (N : Int) (ts : List Ex) (w : World) (hf : Lx NxO w vf (ts.map pre)) (hxv : Vx w xv X) (hN : (X.length : Int) = N) (hvx : ∀ p ∈ X, VI p.1 p.2) (hvt : VI t1 t2) (he : ∀ e ∈ ts, EV N e) (hsm : ∀ e ∈ ts, (pre e).length ≤ 200) (h6 : ts.length ≤ 6) (R : List (Int × Int)) (hR : ts.map (evT X (t1, t2)) = R) :
    Calls Try.prog 18 #[.agg #[.slice pn nn cn, vf], xv, .agg #[.int .i64 t1, .int .i64 t2]] w fun en w' => ∃ u, en = .returned u ∧ Vx w' u R ∧ Below w.heap.size w w' := by
  subst hR
  obtain ⟨L, hL⟩ : ∃ L, ts.map (evT X (t1, t2)) = L := ⟨_, rfl⟩
  have hLl : L.length = ts.length := by rw [← hL, List.length_map]
  have HLL := Lib.hid hLl
  have HLK := Lib.hid (show ∀ (k : Nat) (e : Ex), ts[k]? = some e → L[k]? = some (evT X (t1, t2) e) from fun k e h => by rw [← hL, List.getElem?_map, h]; rfl)
  rw [hL]
  clear hL hLl
  obtain ⟨i0, hi, hz0, hz1, hz2⟩ := info_parts info_ivB
  obtain ⟨pf, cf, rfl⟩ := hf.cut
  rw [List.length_map] at hf ⊢
  have hE : Below w.heap.size w ((w.alloc (.cells #[.slice pn nn cn, .slice pf ts.length cf] 38)).alloc (.cells #[.int .i64 t1, .int .i64 t2] 28)) := allocs_below [.cells #[.slice pn nn cn, .slice pf ts.length cf] 38, .cells #[.int .i64 t1, .int .i64 t2] 28] w
  have a0 : ((w.alloc (.cells #[.slice pn nn cn, .slice pf ts.length cf] 38)).alloc (.cells #[.int .i64 t1, .int .i64 t2] 28)).heap[w.heap.size]? = some (.cells #[.slice pn nn cn, .slice pf ts.length cf] 38 (0, 0)) := allocs_at [.cells #[.slice pn nn cn, .slice pf ts.length cf] 38, .cells #[.int .i64 t1, .int .i64 t2] 28] w 0 _ rfl
  have a1 : ((w.alloc (.cells #[.slice pn nn cn, .slice pf ts.length cf] 38)).alloc (.cells #[.int .i64 t1, .int .i64 t2] 28)).heap[w.heap.size + 1]? = some (.cells #[.int .i64 t1, .int .i64 t2] 28 (0, 0)) := allocs_at [.cells #[.slice pn nn cn, .slice pf ts.length cf] 38, .cells #[.int .i64 t1, .int .i64 t2] 28] w 1 _ rfl
  have HE := Lib.hid hE
  have A1 := Lib.hid a1
  have HF := Lib.hid hf
  have HX := Lib.hid hxv
  have HEV := Lib.hid he
  have HSM := Lib.hid hsm
  have x1 := heapN_cellj a0 (k := 1) rfl
  clear hE a0 a1 hf hxv he hsm
  go_enter Try.func18, Try.ntmps18
  go_wp2_with (fail)
  generalize hWc : World.alloc (World.alloc w _) _ = W2 at *
  clear hWc
  have H0 := Lib.hid (World.ownsRow_nil W2 W2.heap.size 28 2)
  go_loopw [7, 13] (fun v i wr => ∃ k : Nat, i = .int .i64 k ∧ k ≤ ts.length ∧ wr.ownsRow W2.heap.size 28 2 v k (cr encB (L.take k)) ∧ Below W2.heap.size W2 wr) (fun v i _ => ts.length - (intOf i).toNat)
  case atStart => exact ⟨0, rfl, Nat.zero_le _, H0.out, Below.refl _ _⟩
  case round =>
    clear H0 x1
    obtain ⟨k, rfl, hk, hrow, hB⟩ := hrel
    have ht := (hB.block _ (Array.getElem?_eq_some_iff.1 A1.out).1).trans A1.out
    obtain ⟨pv, cv, rfl⟩ := own_slice hrow
    have HR := Lib.hid hrow
    have HBr := Lib.hid hB
    have hsr := hB.size
    by_cases hlt : k < ts.length
    · have i2 : (k : Int) < ts.length := by omega
      obtain ⟨e, hx⟩ : ∃ e, ts[k]? = some e := ⟨_, List.getElem?_eq_getElem hlt⟩
      obtain ⟨⟨r1, r2⟩, hr⟩ : ∃ r, evT X (t1, t2) e = r := ⟨_, rfl⟩
      have hsn : cr encB (L.take (k + 1)) = cr encB (L.take k) ++ encB (r1, r2) := by
        rw [List.take_add_one, HLK.out k e hx, hr]
        exact cr_snoc _ _
      have hrx : (ts.map pre)[k]? = some (pre e) := by rw [List.getElem?_map, hx]; rfl
      obtain ⟨bf, of, u, rfl, hbf, rdf⟩ := HF.out.rd grows_nxo hrx
      obtain ⟨hbg, f0, hnx⟩ := rdf ⟨wr, below_then HE.out hB⟩
      dsimp only at f0 hnx
      obtain ⟨pu, cu, rfl, _⟩ := hnx.1.2
      have hem := List.mem_of_getElem? hx
      have KE := Lib.hid (evalE_ok _ xv t1 t2 X N e wr hnx.1 (HX.out.grow (below_then HE.out hB)) hN hvx hvt (HEV.out e hem) (by have := HSM.out e hem; omega) r1 r2 hr)
      have HSN := Lib.hid hsn
      have g0 := heapN_cellj ht (k := 0) rfl
      have g1 := heapN_cellj ht (k := 1) rfl
      clear hsn hr hrow hB ht hx hrx rdf hnx hem hbg
      go_wp2_with (fail)
      refine KE.out.mono ?_
      rintro en w5 ⟨rfl, hB5⟩
      have hrow5 := own_keptN HR.out hB5
      have hB6 := HBr.out.trans (hB5.mono hsr)
      have hs5 := hB6.size
      have HR5 := Lib.hid hrow5
      have HB6 := Lib.hid hB6
      clear hB5 hrow5 hB6 KE g0 g1 f0
      go_wp2_with (at_builtin; refine wpList_append_own _ rfl (.tmp 17) (.tmp 22) 26 rfl W2.heap.size 28 i0 (.agg #[.int .i64 0, .int .i64 0]) 2 16 Try.underlying26 hi hz0 hz1 hz2 rfl (by decide) (.slice pv k cv) k _ rfl (HR5.out.alloc _) ⟨w5.heap.size, 0, none⟩ 1 1 (encB (r1, r2)) rfl rfl (new_b _ (r1, r2)) (one_b _) (by unfold maxLen; omega) (by omega) (by rw [alloc_sz]; omega) ?_)
      intro v' w8 hown' hgrow _
      have hB8 : Below W2.heap.size W2 w8 := Below.grown (HB6.out.alloc hs5 _) hgrow (by rw [alloc_sz]; omega) (fun i hi => (HR5.out.lt i hi).1)
      obtain ⟨p8, c8, rfl⟩ := own_slice hown'
      have HR8 := Lib.hid hown'
      have HB8 := Lib.hid hB8
      clear hown' hgrow hB8
      go_wp2_with (fail)
      go_roundw
      case rel =>
        refine ⟨k + 1, by go_num, by omega, ?_, HB8.out⟩
        rw [HSN.out]
        exact HR8.out
      case measure => simp [intOf]; omega
    · obtain rfl : ts.length = k := by omega
      have i2 : ¬ (ts.length : Int) < ts.length := by omega
      have hvx' : Vx wr (.slice pv ts.length cv) L := by
        have h := HR.out
        have hl : L.length = ts.length := HLL.out
        rw [← hl, List.take_length, hl] at h
        rw [← hl] at h
        have := Rx.own encB_len h (by rw [hl]; unfold maxLen; omega)
        rw [hl] at this
        exact this
      have HV := Lib.hid hvx'
      clear hvx' hrow hB
      go_wp2_with (fail)
      go_ret
      exact ⟨_, rfl, HV.out, below_then HE.out HBr.out⟩
end Go.Proofs.Ytajddejeglhbhaa
