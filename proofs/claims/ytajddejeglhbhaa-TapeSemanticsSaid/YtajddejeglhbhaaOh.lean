/-
  The value of an expression as package ode computes it: one operand.
-/
import Derived.Test.YtajddejeglhbhaaOf
namespace Go.Proofs.Ytajddejeglhbhaa
open Go.ChangeShapes Go.WideShapes Go.ChangeAt Go.RowKit Go.Maps
set_option linter.unusedVariables false
set_option linter.unusedSimpArgs false
set_option maxRecDepth 100000
attribute [local irreducible] Calls
set_option maxHeartbeats 16000000 in
theorem ev_neg (W0 : World) (rb xb tb nb mb mm : Nat) (xv : Value) (t1 t2 : Int) (X : List (Int × Int)) (N : Int) (hxv : Vx W0 xv X) (hN : (X.length : Int) = N) (hvx : ∀ p ∈ X, VI p.1 p.2) (hvt : VI t1 t2) (n lo hi : Int) (a : Ex) (he : EV N a) (ih : ∀ (R : List Nd) (v : Value) (W : World), EvS W0 rb xb tb nb mb mm xv t1 t2 v (pre a ++ R) W → Calls Try.prog 72 #[.pointer (some ⟨rb, 0, none⟩), .pointer (some ⟨xb, 0, none⟩), .pointer (some ⟨tb, 0, none⟩), .pointer (some ⟨nb, 0, none⟩), .pointer (some ⟨mb, 0, none⟩)] W fun en w' => ∃ v', en = .returned (.agg #[.int .i64 (evT X (t1, t2) (a)).1, .int .i64 (evT X (t1, t2) (a)).2]) ∧ EvS W0 rb xb tb nb mb mm xv t1 t2 v' R w' ∧ Oth rb W w') (R RR : List Nd) (hRR : pre a ++ R = RR) (v : Value) (W : World) (h : EvS W0 rb xb tb nb mb mm xv t1 t2 v (⟨4, n, lo, hi⟩ :: RR) W) :
    Calls Try.prog 72 #[.pointer (some ⟨rb, 0, none⟩), .pointer (some ⟨xb, 0, none⟩), .pointer (some ⟨tb, 0, none⟩), .pointer (some ⟨nb, 0, none⟩), .pointer (some ⟨mb, 0, none⟩)] W fun en w' => ∃ v', en = .returned (.agg #[.int .i64 (evT X (t1, t2) (.e1 ⟨4, n, lo, hi⟩ a)).1, .int .i64 (evT X (t1, t2) (.e1 ⟨4, n, lo, hi⟩ a)).2]) ∧ EvS W0 rb xb tb nb mb mm xv t1 t2 v' R w' ∧ Oth rb W w' := by
  have ih := ih R
  rw [hRR] at ih
  clear hRR
  obtain ⟨hnx, p, c, rfl, hcap, hpc⟩ := h.nx
  obtain ⟨q, cc, hV, hsl⟩ := rest_cut hnx hcap
  obtain ⟨b, o, rfl, hbs, rd⟩ := nd_rd (i := 0) hnx rfl
  have i1 : (0 : Int) < (RR.length : Int) + 1 := by omega
  have hS1 : Below W.heap.size W (W.alloc (.cells #[.int .i64 0, .int .i64 0] 28)) := (Below.refl _ _).alloc (Nat.le_refl _) _
  have hS2 : Below (W.alloc (.cells #[.int .i64 0, .int .i64 0] 28)).heap.size (W.alloc (.cells #[.int .i64 0, .int .i64 0] 28)) ((W.alloc (.cells #[.int .i64 0, .int .i64 0] 28)).alloc (.cells #[.int .i64 4, .int .i64 n, .int .i64 lo, .int .i64 hi] 62)) := (Below.refl _ _).alloc (Nat.le_refl _) _
  have E1 := h.grow hS1
  have E2 := E1.grow hS2
  have hrl := h.lt
  have hsz : (W.setCell ⟨rb, 0, none⟩ (.slice q RR.length cc)).heap.size = W.heap.size := by simp
  have hT1 : Below (W.setCell ⟨rb, 0, none⟩ (.slice q RR.length cc)).heap.size (W.setCell ⟨rb, 0, none⟩ (.slice q RR.length cc)) ((W.setCell ⟨rb, 0, none⟩ (.slice q RR.length cc)).alloc (.cells #[.int .i64 0, .int .i64 0] 28)) := (Below.refl _ _).alloc (Nat.le_refl _) _
  have hT2 : Below ((W.setCell ⟨rb, 0, none⟩ (.slice q RR.length cc)).alloc (.cells #[.int .i64 0, .int .i64 0] 28)).heap.size ((W.setCell ⟨rb, 0, none⟩ (.slice q RR.length cc)).alloc (.cells #[.int .i64 0, .int .i64 0] 28)) (((W.setCell ⟨rb, 0, none⟩ (.slice q RR.length cc)).alloc (.cells #[.int .i64 0, .int .i64 0] 28)).alloc (.cells #[.int .i64 4, .int .i64 n, .int .i64 lo, .int .i64 hi] 62)) := (Below.refl _ _).alloc (Nat.le_refl _) _
  have E3 := ((h.put hV).grow hT1).grow hT2
  have r1 := heapN_cellj E1.br (k := 0) rfl
  have r2 := heapN_cellj E2.br (k := 0) rfl
  have z2 : ((W.alloc (.cells #[.int .i64 0, .int .i64 0] 28)).alloc (.cells #[.int .i64 4, .int .i64 n, .int .i64 lo, .int .i64 hi] 62)).frozen? ⟨rb, 0, none⟩ = false := by simp [World.frozen?, E2.br]
  obtain ⟨f0, f1, f2, f3⟩ := rd ⟨_, E1.bel⟩
  rw [Nat.zero_mul, Nat.add_zero] at f0 f1 f2 f3
  dsimp only at f0 f1 f2 f3
  have hnd : (((W.setCell ⟨rb, 0, none⟩ (.slice q RR.length cc)).alloc (.cells #[.int .i64 0, .int .i64 0] 28)).alloc (.cells #[.int .i64 4, .int .i64 n, .int .i64 lo, .int .i64 hi] 62)).heap[W.heap.size + 1]? = some (.cells #[.int .i64 4, .int .i64 n, .int .i64 lo, .int .i64 hi] 62 (0, 0)) := by
    have := World.alloc_heap_new ((W.setCell ⟨rb, 0, none⟩ (.slice q RR.length cc)).alloc (.cells #[.int .i64 0, .int .i64 0] 28)) (.cells #[.int .i64 4, .int .i64 n, .int .i64 lo, .int .i64 hi] 62)
    rwa [alloc_sz, hsz] at this
  have hrs : (((W.setCell ⟨rb, 0, none⟩ (.slice q RR.length cc)).alloc (.cells #[.int .i64 0, .int .i64 0] 28)).alloc (.cells #[.int .i64 4, .int .i64 n, .int .i64 lo, .int .i64 hi] 62)).heap[W.heap.size]? = some (.cells #[.int .i64 0, .int .i64 0] 28 (0, 0)) := by
    have h1 := World.alloc_heap_new (W.setCell ⟨rb, 0, none⟩ (.slice q RR.length cc)) (.cells #[.int .i64 0, .int .i64 0] 28)
    rw [hsz] at h1
    exact (hT2.block W.heap.size (by rw [alloc_sz, hsz]; omega)).trans h1
  have o3 : Oth rb W (((W.setCell ⟨rb, 0, none⟩ (.slice q RR.length cc)).alloc (.cells #[.int .i64 0, .int .i64 0] 28)).alloc (.cells #[.int .i64 4, .int .i64 n, .int .i64 lo, .int .i64 hi] 62)) := (Oth.set rb W (.slice q RR.length cc)).trans (Oth.ofBelow (hT1.trans (hT2.mono hT1.size)))
  have H3g := Lib.hid (fun (u1 u2 : Value) => show EvS W0 rb xb tb nb mb mm xv t1 t2 (.slice q RR.length cc) RR (((W.setCell ⟨rb, 0, none⟩ (.slice q RR.length cc)).alloc (.cells #[u1, u2] 28)).alloc (.cells #[.int .i64 4, .int .i64 n, .int .i64 lo, .int .i64 hi] 62)) from ((h.put hV).grow ((Below.refl _ _).alloc (Nat.le_refl _) _)).grow ((Below.refl _ _).alloc (Nat.le_refl _) _))
  have O3g := Lib.hid (fun (u1 u2 : Value) => show Oth rb W (((W.setCell ⟨rb, 0, none⟩ (.slice q RR.length cc)).alloc (.cells #[u1, u2] 28)).alloc (.cells #[.int .i64 4, .int .i64 n, .int .i64 lo, .int .i64 hi] 62)) from (Oth.set rb W (.slice q RR.length cc)).trans ((Oth.ofBelow ((Below.refl _ _).alloc (Nat.le_refl _) _)).trans (Oth.ofBelow ((Below.refl _ _).alloc (Nat.le_refl _) _))))
  have H3 := Lib.hid E3
  have HN3 := Lib.hid hnd
  have HR3 := Lib.hid hrs
  have O3 := Lib.hid o3
  clear hS1 hS2 E1 E2 E3 hnd hrs o3 rd hpc hV hnx hT1 hT2 hsz
  simp only [List.length_cons] at r1 r2
  have n0 := heapN_cellj HN3.out (k := 0) rfl
  have n1 := heapN_cellj HN3.out (k := 1) rfl
  have n2 := heapN_cellj HN3.out (k := 2) rfl
  have n3 := heapN_cellj HN3.out (k := 3) rfl
  have y0 := heapN_cellj HR3.out (k := 0) rfl
  have y1 := heapN_cellj HR3.out (k := 1) rfl
  have z0 : (((W.setCell ⟨rb, 0, none⟩ (.slice q RR.length cc)).alloc (.cells #[.int .i64 0, .int .i64 0] 28)).alloc (.cells #[.int .i64 4, .int .i64 n, .int .i64 lo, .int .i64 hi] 62)).frozen? ⟨W.heap.size, 0, none⟩ = false := by simp [World.frozen?, show (((W.setCell ⟨rb, 0, none⟩ (.slice q RR.length cc)).alloc (.cells #[.int .i64 0, .int .i64 0] 28)).alloc (.cells #[.int .i64 4, .int .i64 n, .int .i64 lo, .int .i64 hi] 62)).heap[W.heap.size]? = some (.cells #[.int .i64 0, .int .i64 0] 28 (0, 0)) from HR3.out]
  have z1 : (((W.setCell ⟨rb, 0, none⟩ (.slice q RR.length cc)).alloc (.cells #[.int .i64 0, .int .i64 0] 28)).alloc (.cells #[.int .i64 4, .int .i64 n, .int .i64 lo, .int .i64 hi] 62)).frozen? ⟨W.heap.size, 1, none⟩ = false := by simp [World.frozen?, show (((W.setCell ⟨rb, 0, none⟩ (.slice q RR.length cc)).alloc (.cells #[.int .i64 0, .int .i64 0] 28)).alloc (.cells #[.int .i64 4, .int .i64 n, .int .i64 lo, .int .i64 hi] 62)).heap[W.heap.size]? = some (.cells #[.int .i64 0, .int .i64 0] 28 (0, 0)) from HR3.out]
  have HH := Lib.hid h
  have hev0 := h.bel.size
  have hva := evT_vi hvx hvt he (t := (t1, t2))
  obtain ⟨⟨a1, a2⟩, hva'⟩ : ∃ y, evT X (t1, t2) a = y := ⟨_, rfl⟩
  have hev : evT X (t1, t2) (.e1 ⟨4, n, lo, hi⟩ a) = opI 4 (a1, a2) (a1, a2) := by
    rw [evT_one, hva']
  rw [hva'] at hva ih
  dsimp only at hva ih
  have hbd := hva.bd
  have q0 := heapN_cellj H3.out.bn (k := 0) rfl
  have KF := Lib.hid (fun w => iv_neg a1 a2 w ⟨hbd.1, hbd.2.1, hbd.2.2.1, hbd.2.2.2.1⟩)
  rw [hev, show opI 4 (a1, a2) (a1, a2) = (-a2, -a1) from rfl]
  clear he h
  go_enter Try.func72, Try.ntmps72
  go_wp2_with (fail)
  refine (ih _ _ H3.out).mono ?_
  rintro e w5 ⟨v', rfl, h5, o5⟩
  have H5 := Lib.hid h5
  have O5 := Lib.hid (O3.out.trans o5)
  have hr5 := (o5.blk W.heap.size (Array.getElem?_eq_some_iff.1 HR3.out).1 (by omega)).trans HR3.out
  have HR5 := Lib.hid hr5
  clear h5 o5 hr5 n0 n1 n2 n3 y0 y1 z0 z1 q0
  as_aux_lemma =>
    go_wp2_with (fail)
    refine (KF.out _).mono ?_
    rintro e w6 ⟨rfl, hB⟩
    have HR6 := Lib.hid ((hB.block W.heap.size (Array.getElem?_eq_some_iff.1 HR5.out).1).trans HR5.out)
    have H6 := Lib.hid (H5.out.grow hB)
    have O6 := Lib.hid (O5.out.trans (Oth.ofBelow hB))
    clear hB
    have y0 := heapN_cellj HR6.out (k := 0) rfl
    have y1 := heapN_cellj HR6.out (k := 1) rfl
    have z0 : w6.frozen? ⟨W.heap.size, 0, none⟩ = false := by simp [World.frozen?, show w6.heap[W.heap.size]? = some (.cells #[.int .i64 0, .int .i64 0] 28 (0, 0)) from HR6.out]
    have z1 : w6.frozen? ⟨W.heap.size, 1, none⟩ = false := by simp [World.frozen?, show w6.heap[W.heap.size]? = some (.cells #[.int .i64 0, .int .i64 0] 28 (0, 0)) from HR6.out]
    go_wp2_with (fail)
    have hs := cellsT_setN (o := 1) (u := .int .i64 (-a1)) (cellsT_setN (o := 0) (u := .int .i64 (-a2)) HR6.out)
    have x0 := heapN_cellj hs (k := 0) (u := .int .i64 (-a2)) rfl
    have x1 := heapN_cellj hs (k := 1) (u := .int .i64 (-a1)) rfl
    exact bodyPost_ret (v := .agg #[.int .i64 (-a2), .int .i64 (-a1)]) (by simp [results, Try.results72, go_sem, x0, x1]) rfl ⟨_, rfl, HH.out.set (HH.out.set H6.out (Nat.le_refl _) 0 _) (Nat.le_refl _) 1 _, (O6.out.setO (Nat.le_refl _) 0 _).setO (Nat.le_refl _) 1 _⟩
set_option maxHeartbeats 16000000 in
theorem ev_sqr (W0 : World) (rb xb tb nb mb mm : Nat) (xv : Value) (t1 t2 : Int) (X : List (Int × Int)) (N : Int) (hxv : Vx W0 xv X) (hN : (X.length : Int) = N) (hvx : ∀ p ∈ X, VI p.1 p.2) (hvt : VI t1 t2) (n lo hi : Int) (a : Ex) (he : EV N a) (ih : ∀ (R : List Nd) (v : Value) (W : World), EvS W0 rb xb tb nb mb mm xv t1 t2 v (pre a ++ R) W → Calls Try.prog 72 #[.pointer (some ⟨rb, 0, none⟩), .pointer (some ⟨xb, 0, none⟩), .pointer (some ⟨tb, 0, none⟩), .pointer (some ⟨nb, 0, none⟩), .pointer (some ⟨mb, 0, none⟩)] W fun en w' => ∃ v', en = .returned (.agg #[.int .i64 (evT X (t1, t2) (a)).1, .int .i64 (evT X (t1, t2) (a)).2]) ∧ EvS W0 rb xb tb nb mb mm xv t1 t2 v' R w' ∧ Oth rb W w') (R RR : List Nd) (hRR : pre a ++ R = RR) (v : Value) (W : World) (h : EvS W0 rb xb tb nb mb mm xv t1 t2 v (⟨5, n, lo, hi⟩ :: RR) W) :
    Calls Try.prog 72 #[.pointer (some ⟨rb, 0, none⟩), .pointer (some ⟨xb, 0, none⟩), .pointer (some ⟨tb, 0, none⟩), .pointer (some ⟨nb, 0, none⟩), .pointer (some ⟨mb, 0, none⟩)] W fun en w' => ∃ v', en = .returned (.agg #[.int .i64 (evT X (t1, t2) (.e1 ⟨5, n, lo, hi⟩ a)).1, .int .i64 (evT X (t1, t2) (.e1 ⟨5, n, lo, hi⟩ a)).2]) ∧ EvS W0 rb xb tb nb mb mm xv t1 t2 v' R w' ∧ Oth rb W w' := by
  have ih := ih R
  rw [hRR] at ih
  clear hRR
  obtain ⟨hnx, p, c, rfl, hcap, hpc⟩ := h.nx
  obtain ⟨q, cc, hV, hsl⟩ := rest_cut hnx hcap
  obtain ⟨b, o, rfl, hbs, rd⟩ := nd_rd (i := 0) hnx rfl
  have i1 : (0 : Int) < (RR.length : Int) + 1 := by omega
  have hS1 : Below W.heap.size W (W.alloc (.cells #[.int .i64 0, .int .i64 0] 28)) := (Below.refl _ _).alloc (Nat.le_refl _) _
  have hS2 : Below (W.alloc (.cells #[.int .i64 0, .int .i64 0] 28)).heap.size (W.alloc (.cells #[.int .i64 0, .int .i64 0] 28)) ((W.alloc (.cells #[.int .i64 0, .int .i64 0] 28)).alloc (.cells #[.int .i64 5, .int .i64 n, .int .i64 lo, .int .i64 hi] 62)) := (Below.refl _ _).alloc (Nat.le_refl _) _
  have E1 := h.grow hS1
  have E2 := E1.grow hS2
  have hrl := h.lt
  have hsz : (W.setCell ⟨rb, 0, none⟩ (.slice q RR.length cc)).heap.size = W.heap.size := by simp
  have hT1 : Below (W.setCell ⟨rb, 0, none⟩ (.slice q RR.length cc)).heap.size (W.setCell ⟨rb, 0, none⟩ (.slice q RR.length cc)) ((W.setCell ⟨rb, 0, none⟩ (.slice q RR.length cc)).alloc (.cells #[.int .i64 0, .int .i64 0] 28)) := (Below.refl _ _).alloc (Nat.le_refl _) _
  have hT2 : Below ((W.setCell ⟨rb, 0, none⟩ (.slice q RR.length cc)).alloc (.cells #[.int .i64 0, .int .i64 0] 28)).heap.size ((W.setCell ⟨rb, 0, none⟩ (.slice q RR.length cc)).alloc (.cells #[.int .i64 0, .int .i64 0] 28)) (((W.setCell ⟨rb, 0, none⟩ (.slice q RR.length cc)).alloc (.cells #[.int .i64 0, .int .i64 0] 28)).alloc (.cells #[.int .i64 5, .int .i64 n, .int .i64 lo, .int .i64 hi] 62)) := (Below.refl _ _).alloc (Nat.le_refl _) _
  have E3 := ((h.put hV).grow hT1).grow hT2
  have r1 := heapN_cellj E1.br (k := 0) rfl
  have r2 := heapN_cellj E2.br (k := 0) rfl
  have z2 : ((W.alloc (.cells #[.int .i64 0, .int .i64 0] 28)).alloc (.cells #[.int .i64 5, .int .i64 n, .int .i64 lo, .int .i64 hi] 62)).frozen? ⟨rb, 0, none⟩ = false := by simp [World.frozen?, E2.br]
  obtain ⟨f0, f1, f2, f3⟩ := rd ⟨_, E1.bel⟩
  rw [Nat.zero_mul, Nat.add_zero] at f0 f1 f2 f3
  dsimp only at f0 f1 f2 f3
  have hnd : (((W.setCell ⟨rb, 0, none⟩ (.slice q RR.length cc)).alloc (.cells #[.int .i64 0, .int .i64 0] 28)).alloc (.cells #[.int .i64 5, .int .i64 n, .int .i64 lo, .int .i64 hi] 62)).heap[W.heap.size + 1]? = some (.cells #[.int .i64 5, .int .i64 n, .int .i64 lo, .int .i64 hi] 62 (0, 0)) := by
    have := World.alloc_heap_new ((W.setCell ⟨rb, 0, none⟩ (.slice q RR.length cc)).alloc (.cells #[.int .i64 0, .int .i64 0] 28)) (.cells #[.int .i64 5, .int .i64 n, .int .i64 lo, .int .i64 hi] 62)
    rwa [alloc_sz, hsz] at this
  have hrs : (((W.setCell ⟨rb, 0, none⟩ (.slice q RR.length cc)).alloc (.cells #[.int .i64 0, .int .i64 0] 28)).alloc (.cells #[.int .i64 5, .int .i64 n, .int .i64 lo, .int .i64 hi] 62)).heap[W.heap.size]? = some (.cells #[.int .i64 0, .int .i64 0] 28 (0, 0)) := by
    have h1 := World.alloc_heap_new (W.setCell ⟨rb, 0, none⟩ (.slice q RR.length cc)) (.cells #[.int .i64 0, .int .i64 0] 28)
    rw [hsz] at h1
    exact (hT2.block W.heap.size (by rw [alloc_sz, hsz]; omega)).trans h1
  have o3 : Oth rb W (((W.setCell ⟨rb, 0, none⟩ (.slice q RR.length cc)).alloc (.cells #[.int .i64 0, .int .i64 0] 28)).alloc (.cells #[.int .i64 5, .int .i64 n, .int .i64 lo, .int .i64 hi] 62)) := (Oth.set rb W (.slice q RR.length cc)).trans (Oth.ofBelow (hT1.trans (hT2.mono hT1.size)))
  have H3g := Lib.hid (fun (u1 u2 : Value) => show EvS W0 rb xb tb nb mb mm xv t1 t2 (.slice q RR.length cc) RR (((W.setCell ⟨rb, 0, none⟩ (.slice q RR.length cc)).alloc (.cells #[u1, u2] 28)).alloc (.cells #[.int .i64 5, .int .i64 n, .int .i64 lo, .int .i64 hi] 62)) from ((h.put hV).grow ((Below.refl _ _).alloc (Nat.le_refl _) _)).grow ((Below.refl _ _).alloc (Nat.le_refl _) _))
  have O3g := Lib.hid (fun (u1 u2 : Value) => show Oth rb W (((W.setCell ⟨rb, 0, none⟩ (.slice q RR.length cc)).alloc (.cells #[u1, u2] 28)).alloc (.cells #[.int .i64 5, .int .i64 n, .int .i64 lo, .int .i64 hi] 62)) from (Oth.set rb W (.slice q RR.length cc)).trans ((Oth.ofBelow ((Below.refl _ _).alloc (Nat.le_refl _) _)).trans (Oth.ofBelow ((Below.refl _ _).alloc (Nat.le_refl _) _))))
  have H3 := Lib.hid E3
  have HN3 := Lib.hid hnd
  have HR3 := Lib.hid hrs
  have O3 := Lib.hid o3
  clear hS1 hS2 E1 E2 E3 hnd hrs o3 rd hpc hV hnx hT1 hT2 hsz
  simp only [List.length_cons] at r1 r2
  have n0 := heapN_cellj HN3.out (k := 0) rfl
  have n1 := heapN_cellj HN3.out (k := 1) rfl
  have n2 := heapN_cellj HN3.out (k := 2) rfl
  have n3 := heapN_cellj HN3.out (k := 3) rfl
  have y0 := heapN_cellj HR3.out (k := 0) rfl
  have y1 := heapN_cellj HR3.out (k := 1) rfl
  have z0 : (((W.setCell ⟨rb, 0, none⟩ (.slice q RR.length cc)).alloc (.cells #[.int .i64 0, .int .i64 0] 28)).alloc (.cells #[.int .i64 5, .int .i64 n, .int .i64 lo, .int .i64 hi] 62)).frozen? ⟨W.heap.size, 0, none⟩ = false := by simp [World.frozen?, show (((W.setCell ⟨rb, 0, none⟩ (.slice q RR.length cc)).alloc (.cells #[.int .i64 0, .int .i64 0] 28)).alloc (.cells #[.int .i64 5, .int .i64 n, .int .i64 lo, .int .i64 hi] 62)).heap[W.heap.size]? = some (.cells #[.int .i64 0, .int .i64 0] 28 (0, 0)) from HR3.out]
  have z1 : (((W.setCell ⟨rb, 0, none⟩ (.slice q RR.length cc)).alloc (.cells #[.int .i64 0, .int .i64 0] 28)).alloc (.cells #[.int .i64 5, .int .i64 n, .int .i64 lo, .int .i64 hi] 62)).frozen? ⟨W.heap.size, 1, none⟩ = false := by simp [World.frozen?, show (((W.setCell ⟨rb, 0, none⟩ (.slice q RR.length cc)).alloc (.cells #[.int .i64 0, .int .i64 0] 28)).alloc (.cells #[.int .i64 5, .int .i64 n, .int .i64 lo, .int .i64 hi] 62)).heap[W.heap.size]? = some (.cells #[.int .i64 0, .int .i64 0] 28 (0, 0)) from HR3.out]
  have HH := Lib.hid h
  have hev0 := h.bel.size
  have hva := evT_vi hvx hvt he (t := (t1, t2))
  obtain ⟨⟨a1, a2⟩, hva'⟩ : ∃ y, evT X (t1, t2) a = y := ⟨_, rfl⟩
  have hev : evT X (t1, t2) (.e1 ⟨5, n, lo, hi⟩ a) = opI 5 (a1, a2) (a1, a2) := by
    rw [evT_one, hva']
  rw [hva'] at hva ih
  dsimp only at hva ih
  have hbd := hva.bd
  have q0 := heapN_cellj H3.out.bn (k := 0) rfl
  have KF := Lib.hid (fun w => iv_square a1 a2 w hva)
  rw [hev, show opI 5 (a1, a2) (a1, a2) = (sqLo a1 a2, sqHi a1 a2) from rfl]
  clear he h
  go_enter Try.func72, Try.ntmps72
  go_wp2_with (fail)
  refine (ih _ _ H3.out).mono ?_
  rintro e w5 ⟨v', rfl, h5, o5⟩
  have H5 := Lib.hid h5
  have O5 := Lib.hid (O3.out.trans o5)
  have hr5 := (o5.blk W.heap.size (Array.getElem?_eq_some_iff.1 HR3.out).1 (by omega)).trans HR3.out
  have HR5 := Lib.hid hr5
  clear h5 o5 hr5 n0 n1 n2 n3 y0 y1 z0 z1 q0
  as_aux_lemma =>
    go_wp2_with (fail)
    refine (KF.out _).mono ?_
    rintro e w6 ⟨rfl, hB⟩
    have HR6 := Lib.hid ((hB.block W.heap.size (Array.getElem?_eq_some_iff.1 HR5.out).1).trans HR5.out)
    have H6 := Lib.hid (H5.out.grow hB)
    have O6 := Lib.hid (O5.out.trans (Oth.ofBelow hB))
    clear hB
    have y0 := heapN_cellj HR6.out (k := 0) rfl
    have y1 := heapN_cellj HR6.out (k := 1) rfl
    have z0 : w6.frozen? ⟨W.heap.size, 0, none⟩ = false := by simp [World.frozen?, show w6.heap[W.heap.size]? = some (.cells #[.int .i64 0, .int .i64 0] 28 (0, 0)) from HR6.out]
    have z1 : w6.frozen? ⟨W.heap.size, 1, none⟩ = false := by simp [World.frozen?, show w6.heap[W.heap.size]? = some (.cells #[.int .i64 0, .int .i64 0] 28 (0, 0)) from HR6.out]
    go_wp2_with (fail)
    have hs := cellsT_setN (o := 1) (u := .int .i64 (sqHi a1 a2)) (cellsT_setN (o := 0) (u := .int .i64 (sqLo a1 a2)) HR6.out)
    have x0 := heapN_cellj hs (k := 0) (u := .int .i64 (sqLo a1 a2)) rfl
    have x1 := heapN_cellj hs (k := 1) (u := .int .i64 (sqHi a1 a2)) rfl
    exact bodyPost_ret (v := .agg #[.int .i64 (sqLo a1 a2), .int .i64 (sqHi a1 a2)]) (by simp [results, Try.results72, go_sem, x0, x1]) rfl ⟨_, rfl, HH.out.set (HH.out.set H6.out (Nat.le_refl _) 0 _) (Nat.le_refl _) 1 _, (O6.out.setO (Nat.le_refl _) 0 _).setO (Nat.le_refl _) 1 _⟩
end Go.Proofs.Ytajddejeglhbhaa
