/-
  Og Ti Tjo Tko Oj
-/
import Derived.Test.YtbppfohcicepcaaGreatKbn
import Derived.Test.YtbppfohcicepcaaGreatKbx
import Derived.Deep.RegionHeld3
import Derived.Maps.AppendAt
import Derived.Deep.RegionLaw
namespace Go.Proofs.YtbppfohcicepcaaGreat
open Go.ChangeShapes Go.WideShapes Go.ChangeAt Go.RowKit Go.Maps
set_option linter.unusedVariables false
set_option linter.unusedSimpArgs false
set_option maxRecDepth 100000
attribute [local irreducible] Calls
set_option maxHeartbeats 32000000 in
theorem ev_two (W0 : World) (rb xb tb nb mb mm : Nat) (xv : Value) (t1 t2 : Int) (X : List (Int × Int)) (N : Int) (hxv : Vx W0 xv X) (hN : (X.length : Int) = N) (hvx : ∀ p ∈ X, VI p.1 p.2) (hvt : VI t1 t2) (op n lo hi : Int) (hop : 7 ≤ op ∧ op ≤ 10) (a b : Ex) (a1 a2 b1 b2 c1 c2 : Int) (fid : Nat) (hfid : binM op = some fid) (hcf : ∀ (args : Array Value) (w : World), (callFunc fid args).run Tryz.prog w = .ok (.enter fid args) w)
    (iha : ∀ (R : List Nd) (v : Value) (W : World), EvS W0 rb xb tb nb mb mm xv t1 t2 v (pre a ++ R) W → Calls Tryz.prog 82 #[.pointer (some ⟨rb, 0, none⟩), .pointer (some ⟨xb, 0, none⟩), .pointer (some ⟨tb, 0, none⟩), .pointer (some ⟨nb, 0, none⟩), .pointer (some ⟨mb, 0, none⟩)] W fun en w' => ∃ v', en = .returned (.agg #[.int .i64 a1, .int .i64 a2]) ∧ EvS W0 rb xb tb nb mb mm xv t1 t2 v' R w' ∧ Oth rb W w')
    (ihb : ∀ (R : List Nd) (v : Value) (W : World), EvS W0 rb xb tb nb mb mm xv t1 t2 v (pre b ++ R) W → Calls Tryz.prog 82 #[.pointer (some ⟨rb, 0, none⟩), .pointer (some ⟨xb, 0, none⟩), .pointer (some ⟨tb, 0, none⟩), .pointer (some ⟨nb, 0, none⟩), .pointer (some ⟨mb, 0, none⟩)] W fun en w' => ∃ v', en = .returned (.agg #[.int .i64 b1, .int .i64 b2]) ∧ EvS W0 rb xb tb nb mb mm xv t1 t2 v' R w' ∧ Oth rb W w')
    (KF : ∀ w, Calls Tryz.prog fid #[.agg #[.int .i64 a1, .int .i64 a2], .agg #[.int .i64 b1, .int .i64 b2]] w fun e w' => e = .returned (.agg #[.int .i64 c1, .int .i64 c2]) ∧ Below w.heap.size w w')
    (R R1 RR : List Nd) (hR1 : pre b ++ R = R1) (hRR : pre a ++ R1 = RR) (v : Value) (W : World) (h : EvS W0 rb xb tb nb mb mm xv t1 t2 v (⟨op, n, lo, hi⟩ :: RR) W) :
    Calls Tryz.prog 82 #[.pointer (some ⟨rb, 0, none⟩), .pointer (some ⟨xb, 0, none⟩), .pointer (some ⟨tb, 0, none⟩), .pointer (some ⟨nb, 0, none⟩), .pointer (some ⟨mb, 0, none⟩)] W fun en w' => ∃ v', en = .returned (.agg #[.int .i64 c1, .int .i64 c2]) ∧ EvS W0 rb xb tb nb mb mm xv t1 t2 v' R w' ∧ Oth rb W w' := by
  have iha := iha R1
  rw [hRR] at iha
  have ihb := ihb R
  rw [hR1] at ihb
  clear hRR hR1
  obtain ⟨hnx, p, c, rfl, hcap, hpc⟩ := h.nx
  obtain ⟨q, cc, hV, hsl⟩ := rest_cut hnx hcap
  obtain ⟨b, o, rfl, hbs, rd⟩ := nd_rd (i := 0) hnx rfl
  have i1 : (0 : Int) < (RR.length : Int) + 1 := by omega
  have hS1 : Below W.heap.size W (W.alloc (.cells #[.int .i64 0, .int .i64 0] 26)) := (Below.refl _ _).alloc (Nat.le_refl _) _
  have hS2 : Below (W.alloc (.cells #[.int .i64 0, .int .i64 0] 26)).heap.size (W.alloc (.cells #[.int .i64 0, .int .i64 0] 26)) ((W.alloc (.cells #[.int .i64 0, .int .i64 0] 26)).alloc (.cells #[.int .i64 op, .int .i64 n, .int .i64 lo, .int .i64 hi] 63)) := (Below.refl _ _).alloc (Nat.le_refl _) _
  have E1 := h.grow hS1
  have E2 := E1.grow hS2
  have hrl := h.lt
  have hsz : (W.setCell ⟨rb, 0, none⟩ (.slice q RR.length cc)).heap.size = W.heap.size := by simp
  have hT1 : Below (W.setCell ⟨rb, 0, none⟩ (.slice q RR.length cc)).heap.size (W.setCell ⟨rb, 0, none⟩ (.slice q RR.length cc)) ((W.setCell ⟨rb, 0, none⟩ (.slice q RR.length cc)).alloc (.cells #[.int .i64 0, .int .i64 0] 26)) := (Below.refl _ _).alloc (Nat.le_refl _) _
  have hT2 : Below ((W.setCell ⟨rb, 0, none⟩ (.slice q RR.length cc)).alloc (.cells #[.int .i64 0, .int .i64 0] 26)).heap.size ((W.setCell ⟨rb, 0, none⟩ (.slice q RR.length cc)).alloc (.cells #[.int .i64 0, .int .i64 0] 26)) (((W.setCell ⟨rb, 0, none⟩ (.slice q RR.length cc)).alloc (.cells #[.int .i64 0, .int .i64 0] 26)).alloc (.cells #[.int .i64 op, .int .i64 n, .int .i64 lo, .int .i64 hi] 63)) := (Below.refl _ _).alloc (Nat.le_refl _) _
  have E3 := ((h.put hV).grow hT1).grow hT2
  have r1 := heapN_cellj E1.br (k := 0) rfl
  have r2 := heapN_cellj E2.br (k := 0) rfl
  have z2 : ((W.alloc (.cells #[.int .i64 0, .int .i64 0] 26)).alloc (.cells #[.int .i64 op, .int .i64 n, .int .i64 lo, .int .i64 hi] 63)).frozen? ⟨rb, 0, none⟩ = false := by simp [World.frozen?, E2.br]
  obtain ⟨f0, f1, f2, f3⟩ := rd ⟨_, E1.bel⟩
  rw [Nat.zero_mul, Nat.add_zero] at f0 f1 f2 f3
  dsimp only at f0 f1 f2 f3
  have hnd : (((W.setCell ⟨rb, 0, none⟩ (.slice q RR.length cc)).alloc (.cells #[.int .i64 0, .int .i64 0] 26)).alloc (.cells #[.int .i64 op, .int .i64 n, .int .i64 lo, .int .i64 hi] 63)).heap[W.heap.size + 1]? = some (.cells #[.int .i64 op, .int .i64 n, .int .i64 lo, .int .i64 hi] 63 (0, 0)) := by
    have := World.alloc_heap_new ((W.setCell ⟨rb, 0, none⟩ (.slice q RR.length cc)).alloc (.cells #[.int .i64 0, .int .i64 0] 26)) (.cells #[.int .i64 op, .int .i64 n, .int .i64 lo, .int .i64 hi] 63)
    rwa [alloc_sz, hsz] at this
  have hrs : (((W.setCell ⟨rb, 0, none⟩ (.slice q RR.length cc)).alloc (.cells #[.int .i64 0, .int .i64 0] 26)).alloc (.cells #[.int .i64 op, .int .i64 n, .int .i64 lo, .int .i64 hi] 63)).heap[W.heap.size]? = some (.cells #[.int .i64 0, .int .i64 0] 26 (0, 0)) := by
    have h1 := World.alloc_heap_new (W.setCell ⟨rb, 0, none⟩ (.slice q RR.length cc)) (.cells #[.int .i64 0, .int .i64 0] 26)
    rw [hsz] at h1
    exact (hT2.block W.heap.size (by rw [alloc_sz, hsz]; omega)).trans h1
  have o3 : Oth rb W (((W.setCell ⟨rb, 0, none⟩ (.slice q RR.length cc)).alloc (.cells #[.int .i64 0, .int .i64 0] 26)).alloc (.cells #[.int .i64 op, .int .i64 n, .int .i64 lo, .int .i64 hi] 63)) := (Oth.set rb W (.slice q RR.length cc)).trans (Oth.ofBelow (hT1.trans (hT2.mono hT1.size)))
  have H3g := Lib.hid (fun (u1 u2 : Value) => show EvS W0 rb xb tb nb mb mm xv t1 t2 (.slice q RR.length cc) RR (((W.setCell ⟨rb, 0, none⟩ (.slice q RR.length cc)).alloc (.cells #[u1, u2] 26)).alloc (.cells #[.int .i64 op, .int .i64 n, .int .i64 lo, .int .i64 hi] 63)) from ((h.put hV).grow ((Below.refl _ _).alloc (Nat.le_refl _) _)).grow ((Below.refl _ _).alloc (Nat.le_refl _) _))
  have O3g := Lib.hid (fun (u1 u2 : Value) => show Oth rb W (((W.setCell ⟨rb, 0, none⟩ (.slice q RR.length cc)).alloc (.cells #[u1, u2] 26)).alloc (.cells #[.int .i64 op, .int .i64 n, .int .i64 lo, .int .i64 hi] 63)) from (Oth.set rb W (.slice q RR.length cc)).trans ((Oth.ofBelow ((Below.refl _ _).alloc (Nat.le_refl _) _)).trans (Oth.ofBelow ((Below.refl _ _).alloc (Nat.le_refl _) _))))
  have H3 := Lib.hid E3
  have HN3 := Lib.hid hnd
  have HR3 := Lib.hid hrs
  have O3 := Lib.hid o3
  clear hS1 hS2 E1 E2 E3 hnd hrs o3 rd hpc hV hnx hT1 hT2 hsz
  simp only [List.length_cons] at r1 r2
  have n0 := heapN_cellj HN3.out (k := 0) rfl
  have n1 := heapN_cellj HN3.out (k := 1) rfl
  have n2 := heapN_cellj HN3.out (k := 2) rfl
  have n3 := heapN_cellj HN3.out (k := 3) rfl
  have y0 := heapN_cellj HR3.out (k := 0) rfl
  have y1 := heapN_cellj HR3.out (k := 1) rfl
  have z0 : (((W.setCell ⟨rb, 0, none⟩ (.slice q RR.length cc)).alloc (.cells #[.int .i64 0, .int .i64 0] 26)).alloc (.cells #[.int .i64 op, .int .i64 n, .int .i64 lo, .int .i64 hi] 63)).frozen? ⟨W.heap.size, 0, none⟩ = false := by simp [World.frozen?, show (((W.setCell ⟨rb, 0, none⟩ (.slice q RR.length cc)).alloc (.cells #[.int .i64 0, .int .i64 0] 26)).alloc (.cells #[.int .i64 op, .int .i64 n, .int .i64 lo, .int .i64 hi] 63)).heap[W.heap.size]? = some (.cells #[.int .i64 0, .int .i64 0] 26 (0, 0)) from HR3.out]
  have z1 : (((W.setCell ⟨rb, 0, none⟩ (.slice q RR.length cc)).alloc (.cells #[.int .i64 0, .int .i64 0] 26)).alloc (.cells #[.int .i64 op, .int .i64 n, .int .i64 lo, .int .i64 hi] 63)).frozen? ⟨W.heap.size, 1, none⟩ = false := by simp [World.frozen?, show (((W.setCell ⟨rb, 0, none⟩ (.slice q RR.length cc)).alloc (.cells #[.int .i64 0, .int .i64 0] 26)).alloc (.cells #[.int .i64 op, .int .i64 n, .int .i64 lo, .int .i64 hi] 63)).heap[W.heap.size]? = some (.cells #[.int .i64 0, .int .i64 0] 26 (0, 0)) from HR3.out]
  have HH := Lib.hid h
  have hev0 := h.bel.size
  have q0 := heapN_cellj H3.out.bn (k := 0) rfl
  have d1 : (op == 1) = false := by simp; omega
  have d2 : (op == 2) = false := by simp; omega
  have d3 : (op == 3) = false := by simp; omega
  have d4 : (op == 4) = false := by simp; omega
  have d5 : (op == 5) = false := by simp; omega
  have d6 : (op == 6) = false := by simp; omega
  have KF := Lib.hid KF
  have IHB := Lib.hid ihb
  clear h ihb
  go_enter Tryz.func82, Tryz.ntmps82
  go_wp2_with (fail)
  refine (iha _ _ H3.out).mono ?_
  rintro e w5 ⟨v', rfl, h5, o5⟩
  have hr5 := (o5.blk W.heap.size (Array.getElem?_eq_some_iff.1 HR3.out).1 (by omega)).trans HR3.out
  have hn5 := (o5.blk (W.heap.size + 1) (Array.getElem?_eq_some_iff.1 HN3.out).1 (by omega)).trans HN3.out
  have hs5 : W.heap.size + 1 < w5.heap.size := (Array.getElem?_eq_some_iff.1 hn5).1
  have O5 := Lib.hid (O3.out.trans o5)
  have hS : Below w5.heap.size w5 (w5.alloc (.cells #[.int .i64 a1, .int .i64 a2] 26)) := (Below.refl _ _).alloc (Nat.le_refl _) _
  have H6 := Lib.hid (h5.grow hS)
  have O6 := Lib.hid (O5.out.trans (Oth.ofBelow hS))
  have hf6 := World.alloc_heap_new w5 (.cells #[.int .i64 a1, .int .i64 a2] 26)
  have HR6 := Lib.hid ((hS.block W.heap.size (by omega)).trans hr5)
  have HN6 := Lib.hid ((hS.block (W.heap.size + 1) (by omega)).trans hn5)
  have HF6 := Lib.hid hf6
  have hFW : W.heap.size + 1 < w5.heap.size := hs5
  clear h5 o5 hr5 hn5 hs5 hS hf6 n0 n1 n2 n3 y0 y1 z0 z1 q0 iha r1 r2 z2 f0 f1 f2 f3 hsl O5
  go_wp2_with (fail)
  generalize hWc : World.alloc w5 _ = W6 at *
  clear hWc
  have hop64 : W64 op := by unfold W64; omega
  have KS : ∀ (w' : World) (v2 : Value) (R2 : List Nd), EvS W0 rb xb tb nb mb mm xv t1 t2 v2 R2 w' → w'.heap[W.heap.size + 1]? = some (.cells #[.int .i64 op, .int .i64 n, .int .i64 lo, .int .i64 hi] 63 (0, 0)) → w'.heap[w5.heap.size]? = some (.cells #[.int .i64 a1, .int .i64 a2] 26 (0, 0)) → (fun w' => w'.cell? ⟨mb, 0, none⟩ = some (.map (some mm)) ∧ w'.cell? ⟨W.heap.size + 1, 0, none⟩ = some (.int .i64 op) ∧ w'.cell? ⟨w5.heap.size, 0, none⟩ = some (.int .i64 a1) ∧ w'.cell? ⟨w5.heap.size, 1, none⟩ = some (.int .i64 a2) ∧ w'.cell? ⟨nb, 0, none⟩ = some (.func (.func 82) #[] #[.pointer (some ⟨rb, 0, none⟩), .pointer (some ⟨xb, 0, none⟩), .pointer (some ⟨tb, 0, none⟩), .pointer (some ⟨nb, 0, none⟩), .pointer (some ⟨mb, 0, none⟩)]) ∧ (Instr.lookup 101 (.map (some mm)) (.int .i64 op) false).run Tryz.prog w' = .ok (.func (.func fid) #[] #[]) w') w' :=
    fun w' v2 R2 h hn hf => ⟨heapN_cellj h.bm (k := 0) rfl, heapN_cellj hn (k := 0) rfl, heapN_cellj hf (k := 0) rfl, heapN_cellj hf (k := 1) rfl, heapN_cellj h.bn (k := 0) rfl, h.mp.get hop64 hfid⟩
  have hdr : Below W6.heap.size W6 W6.drew := (Below.refl _ _).drew
  have H6d := H6.out.grow hdr
  have HN6d : W6.drew.heap[W.heap.size + 1]? = some (.cells #[.int .i64 op, .int .i64 n, .int .i64 lo, .int .i64 hi] 63 (0, 0)) := HN6.out
  have HF6d : W6.drew.heap[w5.heap.size]? = some (.cells #[.int .i64 a1, .int .i64 a2] 26 (0, 0)) := HF6.out
  have HR6d : W6.drew.heap[W.heap.size]? = some (.cells #[.int .i64 0, .int .i64 0] 26 (0, 0)) := HR6.out
  have O6d := O6.out.trans (Oth.ofBelow hdr)
  have KS0 := Lib.hid (KS _ _ _ H6d HN6d HF6d)
  have KS := Lib.hid KS
  have H6d := Lib.hid H6d
  have HN6d := Lib.hid HN6d
  have HF6d := Lib.hid HF6d
  have HR6d := Lib.hid HR6d
  have O6d := Lib.hid O6d
  clear hdr H6 HN6 HF6 HR6 O6
  go_region_held3 (fun w' => w'.cell? ⟨mb, 0, none⟩ = some (.map (some mm)) ∧ w'.cell? ⟨W.heap.size + 1, 0, none⟩ = some (.int .i64 op) ∧ w'.cell? ⟨w5.heap.size, 0, none⟩ = some (.int .i64 a1) ∧ w'.cell? ⟨w5.heap.size, 1, none⟩ = some (.int .i64 a2) ∧ w'.cell? ⟨nb, 0, none⟩ = some (.func (.func 82) #[] #[.pointer (some ⟨rb, 0, none⟩), .pointer (some ⟨xb, 0, none⟩), .pointer (some ⟨tb, 0, none⟩), .pointer (some ⟨nb, 0, none⟩), .pointer (some ⟨mb, 0, none⟩)]) ∧ (Instr.lookup 101 (.map (some mm)) (.int .i64 op) false).run Tryz.prog w' = .ok (.func (.func fid) #[] #[]) w') (first | exact KS0.out | exact KS7.out | exact KS8.out | exact KS9.out) (first | (refine (IHB.out _ _ H6d.out).mono ?_; rintro e w7 ⟨v2, rfl, h7, o7⟩; have H7 := Lib.hid h7; have O7 := Lib.hid (O6d.out.trans o7); have HN7 := Lib.hid ((o7.blk _ (Array.getElem?_eq_some_iff.1 HN6d.out).1 (by omega)).trans HN6d.out); have HF7 := Lib.hid ((o7.blk _ (Array.getElem?_eq_some_iff.1 HF6d.out).1 (by omega)).trans HF6d.out); have HR7 := Lib.hid ((o7.blk _ (Array.getElem?_eq_some_iff.1 HR6d.out).1 (by omega)).trans HR6d.out); have KS7 := Lib.hid (KS.out _ _ _ h7 HN7.out HF7.out); clear h7 o7) | (refine (KF.out _).mono ?_; rintro e w8 ⟨rfl, hB⟩; have H8 := Lib.hid (H7.out.grow hB); have O8 := Lib.hid (O7.out.trans (Oth.ofBelow hB)); have hn8 := (hB.block _ (Array.getElem?_eq_some_iff.1 HN7.out).1).trans HN7.out; have hf8 := (hB.block _ (Array.getElem?_eq_some_iff.1 HF7.out).1).trans HF7.out; have hr8 := (hB.block _ (Array.getElem?_eq_some_iff.1 HR7.out).1).trans HR7.out; have HR8 := Lib.hid hr8; have KS8 := Lib.hid (KS.out _ _ _ H8.out hn8 hf8); have H9 := Lib.hid (HH.out.set (HH.out.set H8.out (Nat.le_refl _) 0 (.int .i64 c1)) (Nat.le_refl _) 1 (.int .i64 c2)); have O9 := Lib.hid ((O8.out.setO (Nat.le_refl _) 0 (.int .i64 c1)).setO (Nat.le_refl _) 1 (.int .i64 c2)); have KS9 := Lib.hid (KS.out _ _ _ H9.out ((heap_setE _ (by omega) 1 _).trans ((heap_setE _ (by omega) 0 _).trans hn8)) ((heap_setE _ (by omega) 1 _).trans ((heap_setE _ (by omega) 0 _).trans hf8))); have y0 := heapN_cellj hr8 (k := 0) rfl; have y1 := heapN_cellj hr8 (k := 1) rfl; have z0 : w8.frozen? ⟨W.heap.size, 0, none⟩ = false := (by simp [World.frozen?, hr8]); have z1 : w8.frozen? ⟨W.heap.size, 1, none⟩ = false := (by simp [World.frozen?, hr8]); clear hB hn8 hf8 hr8))
  all_goals
    go_wp2_with (fail)
    have hs := cellsT_setN (o := 1) (u := .int .i64 c2) (cellsT_setN (o := 0) (u := .int .i64 c1) HR8.out)
    have x0 := heapN_cellj hs (k := 0) (u := .int .i64 c1) rfl
    have x1 := heapN_cellj hs (k := 1) (u := .int .i64 c2) rfl
    exact bodyPost_ret (v := .agg #[.int .i64 c1, .int .i64 c2]) (by simp [results, Tryz.results82, go_sem, x0, x1]) rfl ⟨_, rfl, H9.out, O9.out⟩
theorem opE_7 (a1 a2 b1 b2 : Int) : opI 7 (a1, a2) (b1, b2) = (addLo a1 a2 b1 b2, addHi a1 a2 b1 b2) := by
  unfold opI
  rw [if_neg (by decide), if_neg (by decide), if_neg (by decide), if_pos rfl]
theorem opE_8 (a1 a2 b1 b2 : Int) : opI 8 (a1, a2) (b1, b2) = (addLo a1 a2 (-b2) (-b1), addHi a1 a2 (-b2) (-b1)) := by
  unfold opI
  rw [if_neg (by decide), if_neg (by decide), if_neg (by decide), if_neg (by decide), if_pos rfl]
theorem opE_9 (a1 a2 b1 b2 : Int) : opI 9 (a1, a2) (b1, b2) = (mulLo a1 a2 b1 b2, mulHi a1 a2 b1 b2) := by
  unfold opI
  rw [if_neg (by decide), if_neg (by decide), if_neg (by decide), if_neg (by decide), if_neg (by decide), if_pos rfl]
theorem opE_10 (a1 a2 b1 b2 : Int) : opI 10 (a1, a2) (b1, b2) = (divLo a1 a2 b1 b2, divHi a1 a2 b1 b2) := by
  unfold opI
  rw [if_neg (by decide), if_neg (by decide), if_neg (by decide), if_neg (by decide), if_neg (by decide), if_neg (by decide)]
set_option maxHeartbeats 4000000 in
theorem ev_ok (W0 : World) (rb xb tb nb mb mm : Nat) (xv : Value) (t1 t2 : Int) (X : List (Int × Int)) (N : Int) (hxv : Vx W0 xv X) (hN : (X.length : Int) = N) (hvx : ∀ p ∈ X, VI p.1 p.2) (hvt : VI t1 t2) : ∀ e : Ex, EV N e → ∀ (R : List Nd) (v : Value) (W : World), EvS W0 rb xb tb nb mb mm xv t1 t2 v (pre e ++ R) W → Calls Tryz.prog 82 #[.pointer (some ⟨rb, 0, none⟩), .pointer (some ⟨xb, 0, none⟩), .pointer (some ⟨tb, 0, none⟩), .pointer (some ⟨nb, 0, none⟩), .pointer (some ⟨mb, 0, none⟩)] W fun en w' => ∃ v', en = .returned (.agg #[.int .i64 (evT X (t1, t2) (e)).1, .int .i64 (evT X (t1, t2) (e)).2]) ∧ EvS W0 rb xb tb nb mb mm xv t1 t2 v' R w' ∧ Oth rb W w'
  | .e0 x, he, R, v, W, h => ev_e0 W0 rb xb tb nb mb mm xv t1 t2 X N hxv hN hvx hvt x he R v W h
  | .e1 ⟨op, n, lo, hi⟩ a, he, R, v, W, h => by
    have ih := ev_ok W0 rb xb tb nb mb mm xv t1 t2 X N hxv hN hvx hvt a he.2
    have hop := ar_one he.1.1
    dsimp only at hop
    rcases hop with rfl | rfl | rfl
    · exact ev_neg W0 rb xb tb nb mb mm xv t1 t2 X N hxv hN hvx hvt n lo hi a he.2 ih R _ rfl v W h
    · exact ev_sqr W0 rb xb tb nb mb mm xv t1 t2 X N hxv hN hvx hvt n lo hi a he.2 ih R _ rfl v W h
    · exact ev_rt W0 rb xb tb nb mb mm xv t1 t2 X N hxv hN hvx hvt n lo hi a he.2 ih R _ rfl v W h
  | .e2 ⟨op, n, lo, hi⟩ a b, he, R, v, W, h => by
    have iha := ev_ok W0 rb xb tb nb mb mm xv t1 t2 X N hxv hN hvx hvt a he.2.1
    have ihb := ev_ok W0 rb xb tb nb mb mm xv t1 t2 X N hxv hN hvx hvt b he.2.2
    have hva := evT_vi hvx hvt he.2.1 (t := (t1, t2))
    have hvb := evT_vi hvx hvt he.2.2 (t := (t1, t2))
    have hop := ar_two he.1.1
    dsimp only at hop
    have h : EvS W0 rb xb tb nb mb mm xv t1 t2 v (⟨op, n, lo, hi⟩ :: (pre a ++ (pre b ++ R))) W := by
      rw [← List.append_assoc]
      exact h
    obtain ⟨⟨a1, a2⟩, ha⟩ : ∃ y, evT X (t1, t2) a = y := ⟨_, rfl⟩
    obtain ⟨⟨b1, b2⟩, hb⟩ : ∃ y, evT X (t1, t2) b = y := ⟨_, rfl⟩
    rw [evT_two, ha, hb]
    rw [ha] at iha hva
    rw [hb] at ihb hvb
    dsimp only at iha hva ihb hvb ⊢
    rcases hop with rfl | rfl | rfl | rfl
    · rw [opE_7]
      exact ev_two W0 rb xb tb nb mb mm xv t1 t2 X N hxv hN hvx hvt 7 n lo hi (by omega) a b a1 a2 b1 b2 _ _ 56 rfl (fun args w => by simp [go_sem]) iha ihb (fun w => iv_add a1 a2 b1 b2 w hva hvb) R _ _ rfl rfl v W h
    · rw [opE_8]
      exact ev_two W0 rb xb tb nb mb mm xv t1 t2 X N hxv hN hvx hvt 8 n lo hi (by omega) a b a1 a2 b1 b2 _ _ 114 rfl (fun args w => by simp [go_sem]) iha ihb (fun w => iv_sub a1 a2 b1 b2 w hva hvb) R _ _ rfl rfl v W h
    · rw [opE_9]
      exact ev_two W0 rb xb tb nb mb mm xv t1 t2 X N hxv hN hvx hvt 9 n lo hi (by omega) a b a1 a2 b1 b2 _ _ 57 rfl (fun args w => by simp [go_sem]) iha ihb (fun w => iv_mul a1 a2 b1 b2 w hva hvb) R _ _ rfl rfl v W h
    · rw [opE_10]
      exact ev_two W0 rb xb tb nb mb mm xv t1 t2 X N hxv hN hvx hvt 10 n lo hi (by omega) a b a1 a2 b1 b2 _ _ 115 rfl (fun args w => by simp [go_sem]) iha ihb (fun w => iv_div a1 a2 b1 b2 w hva hvb) R _ _ rfl rfl v W h
end Go.Proofs.YtbppfohcicepcaaGreat
namespace Go.Proofs.YtbppfohcicepcaaGreat
open Go.ChangeShapes Go.WideShapes Go.ChangeAt Go.RowKit Go.Maps
set_option linter.unusedVariables false
set_option linter.unusedSimpArgs false
set_option maxRecDepth 100000
attribute [local irreducible] Calls
theorem ownl_keep {B B' : Nat} {W W' : World} {v r : Value} {l : List (List Nd)} {us xs : List Value} {n : Nat} (h : OwnL B W v l us) (hr : W.ownsRow B' 23 1 r n xs) (hg : W.grownBy W' r.ownBlock) (hs : ∀ g, v.ownBlock = some g → r.ownBlock ≠ some g) : OwnL B W' v l us :=
 ⟨h.row.kept hg (by
  cases e : v.ownBlock with
  | none => exact .inl rfl
  | some g => exact .inr (fun e2 => hs g e e2.symm)), fun k u x h1 h2 => nxo_push (h.el k u x h1 h2) hr hg⟩
end Go.Proofs.YtbppfohcicepcaaGreat
namespace Go.Proofs.YtbppfohcicepcaaGreat
open Go.ChangeShapes Go.WideShapes Go.ChangeAt Go.RowKit Go.Maps
set_option linter.unusedVariables false
set_option linter.unusedSimpArgs false
set_option maxRecDepth 100000
attribute [local irreducible] Calls
theorem nxo_setT {W : World} {v : Value} {l : List Nd} (hv : NxO W v l) {X : Nat} {cs : Array Value} {t : TypeId} {z : Nat × Nat} (hX : W.heap[X]? = some (.cells cs t z)) (ht : t ≠ 63) (o : Nat) (y : Value) : NxO (W.setCell ⟨X, o, none⟩ y) v l := by
 obtain ⟨⟨⟨h1, p, c, rfl, h2⟩, h3⟩, h4⟩ := hv
 have hg := grownBy_setN W ⟨X, o, none⟩ y
 have hb : ∀ a : Addr, p = some a → (W.setCell ⟨X, o, none⟩ y).heap[a.block]? = W.heap[a.block]? := fun a e => by
  obtain ⟨cur, hc⟩ := h4 a _ _ (by rw [e])
  refine hg.block _ (Array.getElem?_eq_some_iff.1 hc).1 (fun e2 => ?_)
  rw [Option.some.inj e2, hX] at hc
  simp only [Option.some.injEq, Obj.cells.injEq] at hc
  exact ht hc.2.1
 refine ⟨⟨⟨h1, p, c, rfl, fun i x hx => ?_⟩, h3⟩, fun a n c' e => ?_⟩
 ·obtain ⟨b, o', e, h5, h6⟩ := h2 i x hx
  have hbb := hb _ e
  exact ⟨b, o', e, Nat.lt_of_lt_of_le h5 hg.size, fun j v hv => (World.cell?_of_block (a := ⟨b, o' + i * 4 + j, none⟩) hbb).trans (h6 j v hv)⟩
 ·obtain ⟨cur, hc⟩ := h4 a n c' e
  simp only [Value.slice.injEq] at e
  exact ⟨cur, (hb a e.1).trans hc⟩
/-- What System works on. -/
structure SyI (w w1 : World) (u vn vf : Value) (rows : List (List Nd)) (us : List Value) (k : Nat) (names : List ByteArray) (F : List (List Nd)) (us2 : List Value) (W : World) : Prop where
 res : W.heap[w.heap.size + 1]? = some (.cells #[.slice none 0 0, .slice none 0 0] 33 (0, 0))
 sys : W.heap[w.heap.size + 2]? = some (.cells #[vn, vf] 33 (0, 0))
 nm : W.ownsRow w1.heap.size 9 1 vn k (cr encS names)
 fr : OwnL w1.heap.size W vf F us2
 rw : OwnL w.heap.size W u rows us
 sep : ∀ g, u.ownBlock = some g → g < w1.heap.size
 bel : Below w.heap.size w W
 sz : w.heap.size + 3 ≤ w1.heap.size ∧ w1.heap.size ≤ W.heap.size
section
variable {w w1 W W' : World} {u vn vf : Value} {rows F : List (List Nd)} {us us2 : List Value} {k : Nat} {names : List ByteArray}
theorem SyI.grow (h : SyI w w1 u vn vf rows us k names F us2 W) (hB : Below W.heap.size W W') : SyI w w1 u vn vf rows us k names F us2 W' := by
 obtain ⟨s1, s2⟩ := h.sz
 exact ⟨(hB.block _ (by omega)).trans h.res, (hB.block _ (by omega)).trans h.sys, own_keptN h.nm hB, h.fr.kept hB, h.rw.kept hB, h.sep, h.bel.trans (hB.mono h.bel.size), s1, Nat.le_trans s2 hB.size⟩
theorem SyI.row (h : SyI w w1 u vn vf rows us k names F us2 W) {p' : Option Addr} {c' n : Nat} {x : Value} {r : List Nd} (hn : NxO W x r) (hF : F.length = n) (ho : W'.ownsRow w1.heap.size 23 1 (.slice p' (n + 1) c') (n + 1) (us2 ++ [x])) (hg : W.grownBy W' vf.ownBlock) : SyI w w1 u vn (.slice p' (n + 1) c') rows us k names (F ++ [r]) (us2 ++ [x]) (W'.setCell ⟨w.heap.size + 2, 1, none⟩ (.slice p' (n + 1) c')) := by
 obtain ⟨s1, s2⟩ := h.sz
 have hfr := h.fr.row
 have hne : ∀ j, j < w1.heap.size → some j ≠ vf.ownBlock := fun j hj e => by have := (hfr.lt j e.symm).1; omega
 have hset := grownBy_setN W' ⟨w.heap.size + 2, 1, none⟩ (.slice p' (n + 1) c')
 have hb2 := (hg.block _ (by omega) (hne (w.heap.size + 2) (by omega))).trans h.sys
 have hsz := hg.size
 have hrow : ∀ {t : TypeId} {sz n' : Nat} {v : Value} {xs : List Value}, W'.ownsRow w1.heap.size t sz v n' xs → (W'.setCell ⟨w.heap.size + 2, 1, none⟩ (.slice p' (n + 1) c')).ownsRow w1.heap.size t sz v n' xs := fun hr => hr.kept hset (own_ne fun g hg' e => by have := (hr.lt g hg').1; dsimp only at e; omega)
 have hl := ownl_push h.fr hn (by rw [hF]; exact ho) hg
 have hk := ownl_keep h.rw hfr hg (fun g e e2 => by have := h.sep g e; have := (hfr.lt g e2).1; omega)
 have hel : ∀ {v : Value} {l : List Nd}, NxO W' v l → NxO (W'.setCell ⟨w.heap.size + 2, 1, none⟩ (.slice p' (n + 1) c')) v l := fun hv => nxo_setT hv hb2 (by decide) 1 _
 refine ⟨(hset.block _ (by omega) (fun e => by have := Option.some.inj e; dsimp only at this; omega)).trans ((hg.block _ (by omega) (hne _ (by omega))).trans h.res), cellsT_setN (o := 1) (u := .slice p' (n + 1) c') hb2, hrow (row_app (by decide) h.nm hfr hg), ⟨hrow hl.row, fun i x l h1 h2 => hel (hl.el i x l h1 h2)⟩, ⟨hk.row.kept hset (own_ne fun g hg' e => ?_), fun i x l h1 h2 => hel (hk.el i x l h1 h2)⟩, h.sep, ?_, s1, ?_⟩
 ·obtain ⟨cur, hh⟩ : ∃ cur, W'.heap[g]? = some (.cells cur 23 (0, 0)) := by
   rcases id hk.row.2 with ⟨e1, _⟩ | ⟨g', cap, cur, e1, _, hh, _⟩
   ·rw [e1] at hg'; simp [Value.ownBlock] at hg'
   ·rw [e1] at hg'
    simp only [Value.ownBlock, Option.some.injEq] at hg'
    exact ⟨cur, by rw [← hg']; exact hh⟩
  dsimp only at e
  rw [e, hb2] at hh
  simp only [Option.some.injEq, Obj.cells.injEq] at hh
  exact absurd hh.2.1 (by decide)
 ·exact (h.bel.trans ⟨hg.os, hg.tape, hg.output, hg.size, fun j hj => hg.block j (by have := h.bel.size; omega) (hne j (by omega))⟩).setCell (p := ⟨w.heap.size + 2, 1, none⟩) (by dsimp only; omega) _
 ·exact Nat.le_trans s2 (Nat.le_trans hsz hset.size)
end
end Go.Proofs.YtbppfohcicepcaaGreat
namespace Go.Proofs.YtbppfohcicepcaaGreat
open Go.ChangeShapes Go.WideShapes Go.ChangeAt Go.RowKit Go.Maps
set_option linter.unusedVariables false
set_option linter.unusedSimpArgs false
set_option maxRecDepth 100000
attribute [local irreducible] Calls
theorem ve_cons {N : Int} {x : Nd} (r : List Nd) {M : Int} (hM : M ≠ 0) (hx : vnB N x = true) : veGo N (x :: r) M = veGo N r (M + (arI x.op - 1)) := by
 show (if M = 0 then _ else _) = _
 rw [if_neg hM, if_pos hx]
theorem ve_pre {N : Int} : ∀ {t : Ex}, EV N t → ∀ (r : List Nd) (M : Int), 1 ≤ M → veGo N (pre t ++ r) M = veGo N r (M - 1)
 | .e0 x, h, r, M, hM => by
  show veGo N (x :: r) M = _
  rw [ve_cons r (by omega) h.2, h.1]
  rfl
 | .e1 x a, h, r, M, hM => by
  show veGo N (x :: (pre a ++ r)) M = _
  rw [ve_cons _ (by omega) h.1.2, h.1.1, ve_pre h.2 r _ (by omega)]
  congr 1
  omega
 | .e2 x a b, h, r, M, hM => by
  show veGo N (x :: ((pre a ++ pre b) ++ r)) M = _
  rw [ve_cons _ (by omega) h.1.2, h.1.1, List.append_assoc, ve_pre h.2.1 _ _ (by omega), ve_pre h.2.2 r _ (by omega)]
  congr 1
  omega
theorem ve_one {N : Int} {t : Ex} (h : EV N t) : veGo N (pre t) 1 = true := by
 have := ve_pre h [] 1 (by omega)
 rw [List.append_nil] at this
 rw [this]
 rfl
end Go.Proofs.YtbppfohcicepcaaGreat
namespace Go.Proofs.YtbppfohcicepcaaGreat
open Go.ChangeShapes Go.WideShapes Go.ChangeAt Go.RowKit Go.Maps
set_option linter.unusedVariables false
set_option linter.unusedSimpArgs false
set_option maxRecDepth 100000
attribute [local irreducible] Calls
set_option maxHeartbeats 8000000 in
theorem evalE_ok (v xv : Value) (t1 t2 : Int) (X : List (Int × Int)) (N : Int) (e : Ex) (w : World) (hv : NxC w v (pre e)) (hxv : Vx w xv X) (hN : (X.length : Int) = N) (hvx : ∀ p ∈ X, VI p.1 p.2) (hvt : VI t1 t2) (he : EV N e) (hsm : (pre e).length ≤ 1000000) (r1 r2 : Int) (hr : evT X (t1, t2) e = (r1, r2)) :
    Calls Tryz.prog 52 #[v, xv, .agg #[.int .i64 t1, .int .i64 t2]] w fun en w' => en = .returned (.agg #[.int .i64 r1, .int .i64 r2]) ∧ Below w.heap.size w w' := by
  subst hN
  obtain ⟨hnx, p, c, rfl, hcap, hpc⟩ := id hv
  obtain ⟨px, cx, rfl⟩ := hxv.cut
  have hE : Below w.heap.size w (((w.alloc (.cells #[.slice px X.length cx] 24)).alloc (.cells #[.int .i64 t1, .int .i64 t2] 26)).alloc (.cells #[.int .i64 0, .int .i64 0] 26)) := allocs_below [.cells #[.slice px X.length cx] 24, .cells #[.int .i64 t1, .int .i64 t2] 26, .cells #[.int .i64 0, .int .i64 0] 26] w
  have a0 : (((w.alloc (.cells #[.slice px X.length cx] 24)).alloc (.cells #[.int .i64 t1, .int .i64 t2] 26)).alloc (.cells #[.int .i64 0, .int .i64 0] 26)).heap[w.heap.size]? = some (.cells #[.slice px X.length cx] 24 (0, 0)) := allocs_at [.cells #[.slice px X.length cx] 24, .cells #[.int .i64 t1, .int .i64 t2] 26, .cells #[.int .i64 0, .int .i64 0] 26] w 0 _ rfl
  have a1 : (((w.alloc (.cells #[.slice px X.length cx] 24)).alloc (.cells #[.int .i64 t1, .int .i64 t2] 26)).alloc (.cells #[.int .i64 0, .int .i64 0] 26)).heap[w.heap.size + 1]? = some (.cells #[.int .i64 t1, .int .i64 t2] 26 (0, 0)) := allocs_at [.cells #[.slice px X.length cx] 24, .cells #[.int .i64 t1, .int .i64 t2] 26, .cells #[.int .i64 0, .int .i64 0] 26] w 1 _ rfl
  have a2 : (((w.alloc (.cells #[.slice px X.length cx] 24)).alloc (.cells #[.int .i64 t1, .int .i64 t2] 26)).alloc (.cells #[.int .i64 0, .int .i64 0] 26)).heap[w.heap.size + 2]? = some (.cells #[.int .i64 0, .int .i64 0] 26 (0, 0)) := allocs_at [.cells #[.slice px X.length cx] 24, .cells #[.int .i64 t1, .int .i64 t2] 26, .cells #[.int .i64 0, .int .i64 0] 26] w 2 _ rfl
  have hsz3 : (((w.alloc (.cells #[.slice px X.length cx] 24)).alloc (.cells #[.int .i64 t1, .int .i64 t2] 26)).alloc (.cells #[.int .i64 0, .int .i64 0] 26)).heap.size = w.heap.size + 3 := by rw [alloc_sz, alloc_sz, alloc_sz]
  have KC := Lib.hid (complete_ok (.slice p (pre e).length c) (pre e) X.length (((w.alloc (.cells #[.slice px X.length cx] 24)).alloc (.cells #[.int .i64 t1, .int .i64 t2] 26)).alloc (.cells #[.int .i64 0, .int .i64 0] 26)) (hnx.grow hE) hsm)
  have hve : veGo (X.length : Int) (pre e) 1 = true := ve_one he
  rw [hve] at KC
  have x0 := heapN_cellj a0 (k := 0) rfl
  have HE := Lib.hid hE
  have A0 := Lib.hid a0
  have A1 := Lib.hid a1
  have A2 := Lib.hid a2
  have HV := Lib.hid hv
  clear a0 a1 a2 hE hve hv hnx
  go_enter Tryz.func52, Tryz.ntmps52
  go_wp2_with (fail)
  refine KC.out.mono ?_
  rintro en w4 ⟨rfl, hB4⟩
  go_wp2_with (fail)
  refine (binops_ok _).mono ?_
  rintro en w5 ⟨bm, rfl, hbm, hfp, hB5⟩
  have hB := hB4.trans (hB5.mono hB4.size)
  have hs5 := hB.size
  rw [hsz3] at hs5
  have hb5 := hfp.lt
  have hbm2 := hB4.size
  rw [hsz3] at hbm2
  have b0 := allocs_at [.cells #[.map (some bm)] 101, .cells #[.slice p (pre e).length c] 23, .cells #[.func (.func 82) #[] #[.pointer (some ⟨w5.heap.size + 1, 0, none⟩), .pointer (some ⟨w.heap.size, 0, none⟩), .pointer (some ⟨w.heap.size + 1, 0, none⟩), .pointer (some ⟨w5.heap.size + 2, 0, none⟩), .pointer (some ⟨w5.heap.size, 0, none⟩)]] 68] w5 0 _ rfl
  have b1 := allocs_at [.cells #[.map (some bm)] 101, .cells #[.slice p (pre e).length c] 23, .cells #[.func (.func 82) #[] #[.pointer (some ⟨w5.heap.size + 1, 0, none⟩), .pointer (some ⟨w.heap.size, 0, none⟩), .pointer (some ⟨w.heap.size + 1, 0, none⟩), .pointer (some ⟨w5.heap.size + 2, 0, none⟩), .pointer (some ⟨w5.heap.size, 0, none⟩)]] 68] w5 1 _ rfl
  have b2 := allocs_at [.cells #[.map (some bm)] 101, .cells #[.slice p (pre e).length c] 23, .cells #[.func (.func 82) #[] #[.pointer (some ⟨w5.heap.size + 1, 0, none⟩), .pointer (some ⟨w.heap.size, 0, none⟩), .pointer (some ⟨w.heap.size + 1, 0, none⟩), .pointer (some ⟨w5.heap.size + 2, 0, none⟩), .pointer (some ⟨w5.heap.size, 0, none⟩)]] 68] w5 2 _ rfl
  have hS : Below w5.heap.size w5 (((w5.alloc (.cells #[.map (some bm)] 101)).alloc (.cells #[.slice p (pre e).length c] 23)).alloc (.cells #[.func (.func 82) #[] #[.pointer (some ⟨w5.heap.size + 1, 0, none⟩), .pointer (some ⟨w.heap.size, 0, none⟩), .pointer (some ⟨w.heap.size + 1, 0, none⟩), .pointer (some ⟨w5.heap.size + 2, 0, none⟩), .pointer (some ⟨w5.heap.size, 0, none⟩)]] 68)) := allocs_below [.cells #[.map (some bm)] 101, .cells #[.slice p (pre e).length c] 23, .cells #[.func (.func 82) #[] #[.pointer (some ⟨w5.heap.size + 1, 0, none⟩), .pointer (some ⟨w.heap.size, 0, none⟩), .pointer (some ⟨w.heap.size + 1, 0, none⟩), .pointer (some ⟨w5.heap.size + 2, 0, none⟩), .pointer (some ⟨w5.heap.size, 0, none⟩)]] 68] w5
  have hA := hB.trans (hS.mono hB.size)
  have k : ∀ {b : Nat} {o : Obj}, (((w.alloc (.cells #[.slice px X.length cx] 24)).alloc (.cells #[.int .i64 t1, .int .i64 t2] 26)).alloc (.cells #[.int .i64 0, .int .i64 0] 26)).heap[b]? = some o → (((w5.alloc (.cells #[.map (some bm)] 101)).alloc (.cells #[.slice p (pre e).length c] 23)).alloc (.cells #[.func (.func 82) #[] #[.pointer (some ⟨w5.heap.size + 1, 0, none⟩), .pointer (some ⟨w.heap.size, 0, none⟩), .pointer (some ⟨w.heap.size + 1, 0, none⟩), .pointer (some ⟨w5.heap.size + 2, 0, none⟩), .pointer (some ⟨w5.heap.size, 0, none⟩)]] 68)).heap[b]? = some o := fun e => (hA.block _ (Array.getElem?_eq_some_iff.1 e).1).trans e
  have hev : EvS w (w5.heap.size + 1) w.heap.size (w.heap.size + 1) (w5.heap.size + 2) w5.heap.size bm (.slice px X.length cx) t1 t2 (.slice p (pre e).length c) (pre e ++ []) (((w5.alloc (.cells #[.map (some bm)] 101)).alloc (.cells #[.slice p (pre e).length c] 23)).alloc (.cells #[.func (.func 82) #[] #[.pointer (some ⟨w5.heap.size + 1, 0, none⟩), .pointer (some ⟨w.heap.size, 0, none⟩), .pointer (some ⟨w.heap.size + 1, 0, none⟩), .pointer (some ⟨w5.heap.size + 2, 0, none⟩), .pointer (some ⟨w5.heap.size, 0, none⟩)]] 68)) := by
    rw [List.append_nil]
    exact ⟨⟨by omega, by omega, by omega, by omega, by omega, by omega⟩, below_then HE.out hA, b1, k A0.out, k A1.out, b2, b0, hfp.grow hS, HV.out⟩
  have hr6 := k A2.out
  have KE := Lib.hid (ev_ok w _ _ _ _ _ _ _ t1 t2 X X.length hxv rfl hvx hvt e he [] _ _ hev)
  rw [hr] at KE
  have HR6 := Lib.hid hr6
  have HB6 := Lib.hid (below_then HE.out hA)
  have hrb : w.heap.size ≤ w5.heap.size + 1 := by omega
  have hs6 : w.heap.size ≤ (((w5.alloc (.cells #[.map (some bm)] 101)).alloc (.cells #[.slice p (pre e).length c] 23)).alloc (.cells #[.func (.func 82) #[] #[.pointer (some ⟨w5.heap.size + 1, 0, none⟩), .pointer (some ⟨w.heap.size, 0, none⟩), .pointer (some ⟨w.heap.size + 1, 0, none⟩), .pointer (some ⟨w5.heap.size + 2, 0, none⟩), .pointer (some ⟨w5.heap.size, 0, none⟩)]] 68)).heap.size := HB6.out.size
  have hne : w.heap.size + 2 ≠ w5.heap.size + 1 := by omega
  clear hB hs5 hb5 hbm2 b0 b1 b2 hS hA k hev hr6 hB4 hB5 hfp hbm KC A0 A1 A2 hr
  go_wp2_with (fail)
  refine KE.out.mono ?_
  rintro en w7 ⟨v7, rfl, h7, o7⟩
  have hr7 := (o7.blk _ (Array.getElem?_eq_some_iff.1 HR6.out).1 hne).trans HR6.out
  have HB7 := Lib.hid (HB6.out.trans (o7.below hrb hs6))
  have y0 := heapN_cellj hr7 (k := 0) rfl
  have y1 := heapN_cellj hr7 (k := 1) rfl
  have z0 : w7.frozen? ⟨w.heap.size + 2, 0, none⟩ = false := by simp [World.frozen?, hr7]
  have z1 : w7.frozen? ⟨w.heap.size + 2, 1, none⟩ = false := by simp [World.frozen?, hr7]
  clear h7 o7 KE x0
  go_wp2_with (fail)
  have hs := cellsT_setN (o := 1) (u := .int .i64 r2) (cellsT_setN (o := 0) (u := .int .i64 r1) hr7)
  have x0 := heapN_cellj hs (k := 0) (u := .int .i64 r1) rfl
  have x1 := heapN_cellj hs (k := 1) (u := .int .i64 r2) rfl
  exact bodyPost_ret (v := .agg #[.int .i64 r1, .int .i64 r2]) (by simp [results, Tryz.results52, go_sem, x0, x1]) rfl ⟨rfl, (HB7.out.setCell (p := ⟨w.heap.size + 2, 0, none⟩) (by show w.heap.size ≤ w.heap.size + 2; omega) _).setCell (p := ⟨w.heap.size + 2, 1, none⟩) (by show w.heap.size ≤ w.heap.size + 2; omega) _⟩
end Go.Proofs.YtbppfohcicepcaaGreat
