/-
  Package taylor: models; withRemainders, plus.
-/
import Derived.Test.YtbfhmbadgbackaaGreatTpM
import Derived.Test.YtbfhmbadgbackaaGreatPk5
import Derived.Test.YtbfhmbadgbackaaGreatPredIn
namespace Go.Proofs.YtbfhmbadgbackaaGreat
open Go.ChangeShapes Go.WideShapes Go.ChangeAt Go.RowKit
set_option linter.unusedVariables false
set_option linter.unusedSimpArgs false
set_option maxRecDepth 100000
attribute [local irreducible] Calls
abbrev Mo := List Tm × (Int × Int)
def normM (l : List Tm) (p : Int × Int) : Mo := if entR p = true then ([], (-2147483648, 2147483648)) else (l, p)
def rngP (l : List Tm) : Int × Int := newR (sumR l)
def negI2 (p : Int × Int) : Int × Int := (-p.2, -p.1)
def addM (a b : Mo) : Mo := normM (truncP (mergeP a.1 b.1) 6 (0, 0)).1 (addI2 (truncP (mergeP a.1 b.1) 6 (0, 0)).2 (addI2 a.2 b.2))
def negM (a : Mo) : Mo := (negT a.1, negI2 a.2)
def mulM (a b : Mo) (deg : Int) : Mo := normM (mulR a.1 b.1 deg).1 (addI2 (addI2 (addI2 (mulR a.1 b.1 deg).2 (mulI2 (rngP a.1) b.2)) (mulI2 (rngP b.1) a.2)) (mulI2 a.2 b.2))
def midI (p : Int × Int) : Int := (p.1 + p.2) / 2
def constM (p : Int × Int) : Mo := (constT (midI p), addI2 p (negI2 (ptI (midI p))))
def truncM (a : Mo) (deg : Int) : Mo := normM (truncP a.1 deg (0, 0)).1 (addI2 (truncP a.1 deg (0, 0)).2 a.2)
def rangeM (a : Mo) : Int × Int := addI2 (rngP a.1) a.2
def evalM (a : Mo) (box : List (Int × Int)) : Int × Int := addI2 (evalP box a.1) a.2
def linM (i r : Int) : List Tm × (Int × Int) := mulR (varT i) (constT r) 6
def varM (i : Int) (p : Int × Int) : Mo := if entR (ptI (p.2 - midI p)) = true then ([], (-2147483648, 2147483648)) else normM (truncP (mergeP (constT (midI p)) (linM i (p.2 - midI p)).1) 6 (0, 0)).1 (addI2 (truncP (mergeP (constT (midI p)) (linM i (p.2 - midI p)).1) 6 (0, 0)).2 (linM i (p.2 - midI p)).2)
/-- A model in a block. -/
def MoC (W : World) (b : Nat) (u : Value) (p : Int × Int) : Prop := W.heap[b]? = some (.cells #[u, .int .i64 p.1, .int .i64 p.2] 26 (0, 0))
theorem MoC.lt {W : World} {b : Nat} {u : Value} {p : Int × Int} (h : MoC W b u p) : b < W.heap.size := (Array.getElem?_eq_some_iff.1 h).1
theorem MoC.c0 {W : World} {b : Nat} {u : Value} {p : Int × Int} (h : MoC W b u p) : W.cell? ⟨b, 0, none⟩ = some u := by simp [World.cell?, show W.heap[b]? = _ from h]
theorem MoC.c1 {W : World} {b : Nat} {u : Value} {p : Int × Int} (h : MoC W b u p) : W.cell? ⟨b, 1, none⟩ = some (.int .i64 p.1) := by simp [World.cell?, show W.heap[b]? = _ from h]
theorem MoC.c2 {W : World} {b : Nat} {u : Value} {p : Int × Int} (h : MoC W b u p) : W.cell? ⟨b, 2, none⟩ = some (.int .i64 p.2) := by simp [World.cell?, show W.heap[b]? = _ from h]
theorem MoC.frozen {W : World} {b : Nat} {u : Value} {p : Int × Int} (h : MoC W b u p) (o : Nat) : W.frozen? ⟨b, o, none⟩ = false := by simp [World.frozen?, show W.heap[b]? = _ from h]
theorem MoC.grow {W W' : World} {b : Nat} {u : Value} {p : Int × Int} (h : MoC W b u p) (hB : Below W.heap.size W W') : MoC W' b u p := (hB.block b h.lt).trans h
theorem MoC.new (W : World) (u : Value) (x y : Int) : MoC (W.alloc (.cells #[u, .int .i64 x, .int .i64 y] 26)) W.heap.size u (x, y) := World.alloc_heap_new W _
theorem MoC.alloc {W : World} {b : Nat} {u : Value} {p : Int × Int} (h : MoC W b u p) (o : Obj) : MoC (W.alloc o) b u p := (Below.heap_alloc W o b h.lt).trans h
theorem MoC.other {W : World} {b c k : Nat} {u : Value} {p : Int × Int} {x : Value} (h : MoC W b u p) (hne : b ≠ c) : MoC (W.setCell ⟨c, k, none⟩ x) b u p := (heapT_set hne).trans h
/-- A polynomial with its remainder, in a block. -/
def ApC (W : World) (b : Nat) (u : Value) (p : Int × Int) : Prop := W.heap[b]? = some (.cells #[u, .int .i64 p.1, .int .i64 p.2] 89 (0, 0))
theorem ApC.lt {W : World} {b : Nat} {u : Value} {p : Int × Int} (h : ApC W b u p) : b < W.heap.size := (Array.getElem?_eq_some_iff.1 h).1
theorem ApC.c0 {W : World} {b : Nat} {u : Value} {p : Int × Int} (h : ApC W b u p) : W.cell? ⟨b, 0, none⟩ = some u := by simp [World.cell?, show W.heap[b]? = _ from h]
theorem ApC.c1 {W : World} {b : Nat} {u : Value} {p : Int × Int} (h : ApC W b u p) : W.cell? ⟨b, 1, none⟩ = some (.int .i64 p.1) := by simp [World.cell?, show W.heap[b]? = _ from h]
theorem ApC.c2 {W : World} {b : Nat} {u : Value} {p : Int × Int} (h : ApC W b u p) : W.cell? ⟨b, 2, none⟩ = some (.int .i64 p.2) := by simp [World.cell?, show W.heap[b]? = _ from h]
theorem ApC.grow {W W' : World} {b : Nat} {u : Value} {p : Int × Int} (h : ApC W b u p) (hB : Below W.heap.size W W') : ApC W' b u p := (hB.block b h.lt).trans h
theorem ApC.other {W : World} {b c k : Nat} {u : Value} {p : Int × Int} {x : Value} (h : ApC W b u p) (hne : b ≠ c) : ApC (W.setCell ⟨c, k, none⟩ x) b u p := (heapT_set hne).trans h
theorem cap_nil : CapOk (.slice none 0 0) := ⟨none, 0, 0, rfl, Nat.le_refl _, fun _ => rfl⟩
/-- A slice of a call's own lies elsewhere than the call's cells. -/
def foldA (p : Int × Int) (rs : List (Int × Int)) : Int × Int := rs.foldl addI2 p
theorem foldA_snoc {p : Int × Int} {rs : List (Int × Int)} {k : Nat} {x : Int × Int} (hx : rs[k]? = some x) : foldA p (rs.take (k + 1)) = addI2 (foldA p (rs.take k)) x := by
  unfold foldA
  rw [List.take_add_one, hx, List.foldl_append]
  rfl
theorem vb_leY {p : Int × Int} (h : VB2 p) : p.1 ≤ p.2 := by
  unfold VB2 VI Ent at h
  omega
theorem addI2_vb {p q : Int × Int} (hp : VB2 p) (hq : VB2 q) : VB2 (addI2 p q) := add_vi (vb_leY hp) (vb_leY hq)
theorem mulI2_vb (p q : Int × Int) : VB2 (mulI2 p q) := mul_vi _ _ _ _
theorem foldA_vb {p : Int × Int} (hp : VB2 p) : ∀ (rs : List (Int × Int)), (∀ q ∈ rs, VB2 q) → VB2 (foldA p rs) := fun rs => by
  unfold foldA
  induction rs generalizing p with
  | nil => exact fun _ => hp
  | cons q rs ih => exact fun h => ih (addI2_vb hp (h q (by simp))) fun r hr => h r (by simp [hr])
theorem bx_rdY {w : World} {p : Option Addr} {n c j : Nat} {l : List (Int × Int)} {x y : Int} (h : Bx w (.slice p n c) l) (hx : l[j]? = some (x, y)) : ∃ b o, p = some ⟨b, o, none⟩ ∧ b < w.heap.size ∧ ∀ g : Grown w, g.w.cell? ⟨b, o + j * 2, none⟩ = some (.int .i64 x) ∧ g.w.cell? ⟨b, o + j * 2 + 1, none⟩ = some (.int .i64 y) := by
  obtain ⟨_, q, c', e, h⟩ := h
  obtain ⟨b, o, hq, h1, h2, h3⟩ := h j _ hx
  simp only [Value.slice.injEq] at e
  exact ⟨b, o, e.1.trans hq, h1, fun g => ⟨(g.h.cell (p := ⟨b, o + j * 2, none⟩) h1).trans h2, (g.h.cell (p := ⟨b, o + j * 2 + 1, none⟩) h1).trans h3⟩⟩
/-- The function value that withRemainders returns. -/
def plusV (u : Value) (a b : Int) : Value := .func (.func 96) #[.agg #[u, .int .i64 a, .int .i64 b]] #[]
theorem wr_ok (u : Value) (a b : Int) (w : World) (hc : CapOk u) :
    Calls Tryz.prog 55 #[u, .agg #[.int .i64 a, .int .i64 b]] w fun e w' => e = .returned (plusV u a b) ∧ Below w.heap.size w w' := by
  obtain ⟨pu, nu, cu, rfl, _⟩ := hc
  go_enter Tryz.func55, Tryz.ntmps55
  go_wp2_with (fail)
  go_ret
  exact ⟨rfl, by go_grown⟩
structure PlI (w : World) (u : Value) (p : Int × Int) (acc : Int × Int) (W : World) : Prop where
  ap : ApC W w.heap.size u p
  res : MoC W (w.heap.size + 1) (.slice none 0 0) (0, 0)
  sum : IvC W (w.heap.size + 2) acc
  bel : Below w.heap.size w W
theorem PlI.grow {w W W' : World} {u : Value} {p acc : Int × Int} (h : PlI w u p acc W) (hB : Below W.heap.size W W') : PlI w u p acc W' := ⟨h.ap.grow hB, h.res.grow hB, h.sum.grow hB, h.bel.trans (hB.mono h.bel.size)⟩
set_option maxHeartbeats 16000000 in
theorem tplus_ok (u vs : Value) (a b : Int) (l : List Tm) (rs : List (Int × Int)) (w : World) (hu : Tx w u l) (hc : CapOk u) (hb : Bx w vs rs) (hv : VB2 (a, b)) (hr : ∀ q ∈ rs, VB2 q) :
    Calls Tryz.prog 96 #[.agg #[u, .int .i64 a, .int .i64 b], vs] w fun e w' => ∃ r, e = .returned (.agg #[r, .int .i64 (normM l (foldA (a, b) rs)).2.1, .int .i64 (normM l (foldA (a, b) rs)).2.2]) ∧ Tx w' r (normM l (foldA (a, b) rs)).1 ∧ CapOk r ∧ Below w.heap.size w w' := by
  have hsum := foldA_vb hv rs hr
  obtain ⟨⟨N, n0, n1⟩, hN⟩ : ∃ R, normM l (foldA (a, b) rs) = R := ⟨_, rfl⟩
  rw [hN]
  dsimp only
  have HNN := Lib.hid hN
  clear hN
  have hm1 := hb.1
  unfold maxLen at hm1
  have hb' := hb
  obtain ⟨_, pb, cb, rfl, _⟩ := hb'
  have HBX := Lib.hid hb
  have HRV := Lib.hid hr
  have HU := Lib.hid hu
  have HC := Lib.hid hc
  have HAB := Lib.hid hv
  have HTV := Lib.hid (fun k => foldA_vb hv (rs.take k) fun q hq => hr q (List.mem_of_mem_take hq))
  have HI0 : Hid (PlI w u (a, b) (a, b) (((w.alloc (.cells #[u, .int .i64 a, .int .i64 b] 89)).alloc (.cells #[.slice none 0 0, .int .i64 0, .int .i64 0] 26)).alloc (.cells #[.int .i64 a, .int .i64 b] 24))) := Lib.hid (by
    have e1 : ApC (w.alloc (.cells #[u, .int .i64 a, .int .i64 b] 89)) w.heap.size u (a, b) := World.alloc_heap_new w _
    have e2 := MoC.new (w.alloc (.cells #[u, .int .i64 a, .int .i64 b] 89)) (.slice none 0 0) 0 0
    rw [World.size_alloc] at e2
    have e3 := IvC.new ((w.alloc (.cells #[u, .int .i64 a, .int .i64 b] 89)).alloc (.cells #[.slice none 0 0, .int .i64 0, .int .i64 0] 26)) a b
    rw [World.size_alloc, World.size_alloc] at e3
    exact ⟨(e1.grow ((Below.refl _ _).alloc (Nat.le_refl _) _)).grow ((Below.refl _ _).alloc (Nat.le_refl _) _), e2.alloc _, e3, (((Below.refl _ _).alloc (Nat.le_refl _) _).alloc (by simp) _).alloc (by simp; omega) _⟩)
  clear hb hr hu hc hv
  go_enter Tryz.func96, Tryz.ntmps96
  go_wp2_with (fail)
  go_loopw [12] (fun i wr => ∃ k : Nat, i = .int .i64 k ∧ k ≤ rs.length ∧ Hid (PlI w u (a, b) (foldA (a, b) (rs.take k)) wr)) (fun i _ => rs.length - (intOf i).toNat)
  case atStart => exact ⟨0, rfl, Nat.zero_le _, HI0⟩
  case round =>
    clear HI0
    obtain ⟨k, rfl, hk, HR⟩ := hrel
    by_cases hlt : k < rs.length
    · have i1 : (k : Int) < rs.length := by omega
      obtain ⟨⟨x, y⟩, hx⟩ : ∃ t, rs[k]? = some t := ⟨_, List.getElem?_eq_getElem hlt⟩
      have hxv := HRV.out _ (List.mem_of_getElem? hx)
      have hs := foldA_snoc (p := (a, b)) hx
      obtain ⟨bb, ob, hp, hbb, rd⟩ := bx_rdY HBX.out hx
      subst hp
      have f0 := (rd ⟨wr, HR.out.bel⟩).1
      have f1 := (rd ⟨wr, HR.out.bel⟩).2
      dsimp only at f0 f1
      have hsv := HTV.out k
      obtain ⟨⟨p1, p2⟩, hpp⟩ : ∃ P, foldA (a, b) (rs.take k) = P := ⟨_, rfl⟩
      rw [hpp] at HR hs hsv
      unfold addI2 at hs
      dsimp only at hs
      obtain ⟨a1, ha1⟩ : ∃ z, addLo p1 p2 x y = z := ⟨_, rfl⟩
      obtain ⟨a2, ha2⟩ : ∃ z, addHi p1 p2 x y = z := ⟨_, rfl⟩
      have KA := Lib.hid (fun w => iv_add p1 p2 x y w hsv hxv)
      rw [ha1, ha2] at KA hs
      have HS := Lib.hid hs
      have hR2 := HR.out.grow ((Below.refl _ _).alloc (Nat.le_refl _) (.cells #[.int .i64 x, .int .i64 y] 24))
      have s0 := hR2.sum.c0
      have s1 := hR2.sum.c1
      have u0 := (IvC.new wr x y).c0
      have u1 := (IvC.new wr x y).c1
      have hsz := HR.out.sum.lt
      dsimp only at s0 s1 u0 u1
      have HR2 := Lib.hid hR2
      clear rd hs ha1 ha2 hpp hx hxv hsv hR2
      go_wp2_with (fail)
      refine (KA.out _).mono ?_
      rintro e w5 ⟨rfl, h5⟩
      have h5' := HR2.out.grow h5
      have q0 := h5'.sum.c0
      have q1 := h5'.sum.c1
      have z0 := h5'.sum.frozen 0
      have z1 := h5'.sum.frozen 1
      dsimp only at q0 q1
      have HN : Hid (PlI w u (a, b) (foldA (a, b) (rs.take (k + 1))) ((w5.setCell ⟨w.heap.size + 2, 0, none⟩ (.int .i64 a1)).setCell ⟨w.heap.size + 2, 1, none⟩ (.int .i64 a2))) := Lib.hid ⟨(h5'.ap.other (by omega)).other (by omega), (h5'.res.other (by omega)).other (by omega), by rw [HS.out]; exact h5'.sum.set a1 a2, (h5'.bel.setCell (p := ⟨w.heap.size + 2, 0, none⟩) (by dsimp only; omega) _).setCell (p := ⟨w.heap.size + 2, 1, none⟩) (by dsimp only; omega) _⟩
      clear h5' h5 s0 s1 u0 u1 f0 f1
      go_wp2_with (fail)
      go_roundw
      case rel => exact ⟨k + 1, by go_num, by omega, HN⟩
      case measure => simp [intOf]; omega
    · obtain rfl : k = rs.length := by omega
      have i1 : ¬ (rs.length : Int) < rs.length := by omega
      rw [List.take_length] at HR
      obtain ⟨⟨p1, p2⟩, hpp⟩ : ∃ P, foldA (a, b) rs = P := ⟨_, rfl⟩
      have hN := HNN.out
      rw [hpp] at HR hsum hN
      unfold normM at hN
      have s0 := HR.out.sum.c0
      have s1 := HR.out.sum.c1
      dsimp only at s0 s1
      cases hent : entR (p1, p2) with
      | true =>
        rw [if_pos hent] at hN
        simp only [Prod.mk.injEq] at hN
        obtain ⟨rfl, rfl, rfl⟩ := hN
        have KE := Lib.hid (fun w => iv_isent p1 p2 true w hent)
        have he : p1 = -2147483648 ∧ p2 = 2147483648 := by simpa [entR] using hent
        obtain ⟨rfl, rfl⟩ := he
        clear hent hpp
        go_wp2_with (fail)
        refine (KE.out _).mono ?_
        rintro e w5 ⟨rfl, h5⟩
        have h5' := HR.out.grow h5
        have t0 := h5'.sum.c0
        have t1 := h5'.sum.c1
        have q0 := h5'.res.c0
        have q1 := h5'.res.c1
        have q2 := h5'.res.c2
        have z0 := h5'.res.frozen 0
        have z1 := h5'.res.frozen 1
        have z2 := h5'.res.frozen 2
        dsimp only at t0 t1 q0 q1 q2
        have hbel := h5'.bel
        have hrl := h5'.res.lt
        clear s0 s1 h5 h5'
        go_wp2_with (fail)
        refine bodyPost_ret (v := .agg #[.slice none 0 0, .int .i64 (-2147483648), .int .i64 2147483648]) (by simp [results, Tryz.results96, go_sem, q0, q1, q2]) rfl ⟨_, rfl, Tx.nil _ _ _, cap_nil, ?_⟩
        exact ((hbel.setCell (p := ⟨w.heap.size + 1, 0, none⟩) (Nat.le_succ _) _).setCell (p := ⟨w.heap.size + 1, 1, none⟩) (Nat.le_succ _) _).setCell (p := ⟨w.heap.size + 1, 2, none⟩) (Nat.le_succ _) _
      | false =>
        rw [if_neg (by rw [hent]; decide)] at hN
        simp only [Prod.mk.injEq] at hN
        obtain ⟨rfl, rfl, rfl⟩ := hN
        have KE := Lib.hid (fun w => iv_isent p1 p2 false w hent)
        clear hent hpp
        go_wp2_with (fail)
        refine (KE.out _).mono ?_
        rintro e w5 ⟨rfl, h5⟩
        have h5' := HR.out.grow h5
        have t0 := h5'.sum.c0
        have t1 := h5'.sum.c1
        have v0 := h5'.ap.c0
        have q0 := h5'.res.c0
        have q1 := h5'.res.c1
        have q2 := h5'.res.c2
        have z0 := h5'.res.frozen 0
        have z1 := h5'.res.frozen 1
        have z2 := h5'.res.frozen 2
        dsimp only at t0 t1 v0 q0 q1 q2
        have hbel := h5'.bel
        clear s0 s1 h5 h5'
        obtain ⟨pu, nu, cu, rfl, hle, hnil⟩ := HC.out
        go_wp2_with (fail)
        have hbe : Below w.heap.size w (((w5.setCell ⟨w.heap.size + 1, 0, none⟩ (.slice pu nu cu)).setCell ⟨w.heap.size + 1, 1, none⟩ (.int .i64 p1)).setCell ⟨w.heap.size + 1, 2, none⟩ (.int .i64 p2)) := ((hbel.setCell (p := ⟨w.heap.size + 1, 0, none⟩) (Nat.le_succ _) _).setCell (p := ⟨w.heap.size + 1, 1, none⟩) (Nat.le_succ _) _).setCell (p := ⟨w.heap.size + 1, 2, none⟩) (Nat.le_succ _) _
        refine bodyPost_ret (v := .agg #[.slice pu nu cu, .int .i64 p1, .int .i64 p2]) (by simp [results, Tryz.results96, go_sem, q0, q1, q2]) rfl ⟨_, rfl, HU.out.grow hbe, HC.out, hbe⟩
end Go.Proofs.YtbfhmbadgbackaaGreat
