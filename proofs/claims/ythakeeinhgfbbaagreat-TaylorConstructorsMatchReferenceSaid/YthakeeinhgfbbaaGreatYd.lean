/-
  Package taylor: models; withRemainders, plus.
  Package taylor: Range, Eval, Truncate, Add, Mul.
  Package taylor: Neg, Sub, Const, MulInterval, Var, Valid.
  Package taylor: Var, Valid. The law's term and span; the reference's Same and Corner.
-/
import Derived.Test.YthakeeinhgfbbaaGreatTpM
import Derived.Test.YthakeeinhgfbbaaGreatPk5
import Derived.Test.YthakeeinhgfbbaaGreatPredIn
import Derived.Maps.AppendAt
namespace Go.Proofs.YthakeeinhgfbbaaGreat
open Go.ChangeShapes Go.WideShapes Go.ChangeAt Go.RowKit
set_option linter.unusedVariables false
set_option linter.unusedSimpArgs false
set_option maxRecDepth 100000
attribute [local irreducible] Calls
abbrev Mo := List Tm × (Int × Int)
def normM (l : List Tm) (p : Int × Int) : Mo := if entR p = true then ([], (-2147483648, 2147483648)) else (l, p)
def rngP (l : List Tm) : Int × Int := newR (sumR l)
def negI2 (p : Int × Int) : Int × Int := (-p.2, -p.1)
def addM (a b : Mo) : Mo := normM (truncP (mergeP a.1 b.1) 6 (0, 0)).1 (addI2 (truncP (mergeP a.1 b.1) 6 (0, 0)).2 (addI2 a.2 b.2))
def negM (a : Mo) : Mo := (negT a.1, negI2 a.2)
def mulM (a b : Mo) (deg : Int) : Mo := normM (mulR a.1 b.1 deg).1 (addI2 (addI2 (addI2 (mulR a.1 b.1 deg).2 (mulI2 (rngP a.1) b.2)) (mulI2 (rngP b.1) a.2)) (mulI2 a.2 b.2))
def midI (p : Int × Int) : Int := (p.1 + p.2) / 2
def constM (p : Int × Int) : Mo := (constT (midI p), addI2 p (negI2 (ptI (midI p))))
def truncM (a : Mo) (deg : Int) : Mo := normM (truncP a.1 deg (0, 0)).1 (addI2 (truncP a.1 deg (0, 0)).2 a.2)
def rangeM (a : Mo) : Int × Int := addI2 (rngP a.1) a.2
def evalM (a : Mo) (box : List (Int × Int)) : Int × Int := addI2 (evalP box a.1) a.2
def linM (i r : Int) : List Tm × (Int × Int) := mulR (varT i) (constT r) 6
def varM (i : Int) (p : Int × Int) : Mo := if entR (ptI (p.2 - midI p)) = true then ([], (-2147483648, 2147483648)) else normM (truncP (mergeP (constT (midI p)) (linM i (p.2 - midI p)).1) 6 (0, 0)).1 (addI2 (truncP (mergeP (constT (midI p)) (linM i (p.2 - midI p)).1) 6 (0, 0)).2 (linM i (p.2 - midI p)).2)
/-- A model in a block. -/
def MoC (W : World) (b : Nat) (u : Value) (p : Int × Int) : Prop := W.heap[b]? = some (.cells #[u, .int .i64 p.1, .int .i64 p.2] 26 (0, 0))
theorem MoC.lt {W : World} {b : Nat} {u : Value} {p : Int × Int} (h : MoC W b u p) : b < W.heap.size := (Array.getElem?_eq_some_iff.1 h).1
theorem MoC.c0 {W : World} {b : Nat} {u : Value} {p : Int × Int} (h : MoC W b u p) : W.cell? ⟨b, 0, none⟩ = some u := by simp [World.cell?, show W.heap[b]? = _ from h]
theorem MoC.c1 {W : World} {b : Nat} {u : Value} {p : Int × Int} (h : MoC W b u p) : W.cell? ⟨b, 1, none⟩ = some (.int .i64 p.1) := by simp [World.cell?, show W.heap[b]? = _ from h]
theorem MoC.c2 {W : World} {b : Nat} {u : Value} {p : Int × Int} (h : MoC W b u p) : W.cell? ⟨b, 2, none⟩ = some (.int .i64 p.2) := by simp [World.cell?, show W.heap[b]? = _ from h]
theorem MoC.frozen {W : World} {b : Nat} {u : Value} {p : Int × Int} (h : MoC W b u p) (o : Nat) : W.frozen? ⟨b, o, none⟩ = false := by simp [World.frozen?, show W.heap[b]? = _ from h]
theorem MoC.grow {W W' : World} {b : Nat} {u : Value} {p : Int × Int} (h : MoC W b u p) (hB : Below W.heap.size W W') : MoC W' b u p := (hB.block b h.lt).trans h
theorem MoC.new (W : World) (u : Value) (x y : Int) : MoC (W.alloc (.cells #[u, .int .i64 x, .int .i64 y] 26)) W.heap.size u (x, y) := World.alloc_heap_new W _
theorem MoC.alloc {W : World} {b : Nat} {u : Value} {p : Int × Int} (h : MoC W b u p) (o : Obj) : MoC (W.alloc o) b u p := (Below.heap_alloc W o b h.lt).trans h
theorem MoC.other {W : World} {b c k : Nat} {u : Value} {p : Int × Int} {x : Value} (h : MoC W b u p) (hne : b ≠ c) : MoC (W.setCell ⟨c, k, none⟩ x) b u p := (heapT_set hne).trans h
/-- A polynomial with its remainder, in a block. -/
def ApC (W : World) (b : Nat) (u : Value) (p : Int × Int) : Prop := W.heap[b]? = some (.cells #[u, .int .i64 p.1, .int .i64 p.2] 89 (0, 0))
theorem ApC.lt {W : World} {b : Nat} {u : Value} {p : Int × Int} (h : ApC W b u p) : b < W.heap.size := (Array.getElem?_eq_some_iff.1 h).1
theorem ApC.c0 {W : World} {b : Nat} {u : Value} {p : Int × Int} (h : ApC W b u p) : W.cell? ⟨b, 0, none⟩ = some u := by simp [World.cell?, show W.heap[b]? = _ from h]
theorem ApC.c1 {W : World} {b : Nat} {u : Value} {p : Int × Int} (h : ApC W b u p) : W.cell? ⟨b, 1, none⟩ = some (.int .i64 p.1) := by simp [World.cell?, show W.heap[b]? = _ from h]
theorem ApC.c2 {W : World} {b : Nat} {u : Value} {p : Int × Int} (h : ApC W b u p) : W.cell? ⟨b, 2, none⟩ = some (.int .i64 p.2) := by simp [World.cell?, show W.heap[b]? = _ from h]
theorem ApC.grow {W W' : World} {b : Nat} {u : Value} {p : Int × Int} (h : ApC W b u p) (hB : Below W.heap.size W W') : ApC W' b u p := (hB.block b h.lt).trans h
theorem ApC.other {W : World} {b c k : Nat} {u : Value} {p : Int × Int} {x : Value} (h : ApC W b u p) (hne : b ≠ c) : ApC (W.setCell ⟨c, k, none⟩ x) b u p := (heapT_set hne).trans h
theorem cap_nil : CapOk (.slice none 0 0) := ⟨none, 0, 0, rfl, Nat.le_refl _, fun _ => rfl⟩
/-- A slice of a call's own lies elsewhere than the call's cells. -/
def foldA (p : Int × Int) (rs : List (Int × Int)) : Int × Int := rs.foldl addI2 p
theorem foldA_snoc {p : Int × Int} {rs : List (Int × Int)} {k : Nat} {x : Int × Int} (hx : rs[k]? = some x) : foldA p (rs.take (k + 1)) = addI2 (foldA p (rs.take k)) x := by
  unfold foldA
  rw [List.take_add_one, hx, List.foldl_append]
  rfl
theorem vb_leY {p : Int × Int} (h : VB2 p) : p.1 ≤ p.2 := by
  unfold VB2 VI Ent at h
  omega
theorem addI2_vb {p q : Int × Int} (hp : VB2 p) (hq : VB2 q) : VB2 (addI2 p q) := add_vi (vb_leY hp) (vb_leY hq)
theorem mulI2_vb (p q : Int × Int) : VB2 (mulI2 p q) := mul_vi _ _ _ _
theorem foldA_vb {p : Int × Int} (hp : VB2 p) : ∀ (rs : List (Int × Int)), (∀ q ∈ rs, VB2 q) → VB2 (foldA p rs) := fun rs => by
  unfold foldA
  induction rs generalizing p with
  | nil => exact fun _ => hp
  | cons q rs ih => exact fun h => ih (addI2_vb hp (h q (by simp))) fun r hr => h r (by simp [hr])
theorem bx_rdY {w : World} {p : Option Addr} {n c j : Nat} {l : List (Int × Int)} {x y : Int} (h : Bx w (.slice p n c) l) (hx : l[j]? = some (x, y)) : ∃ b o, p = some ⟨b, o, none⟩ ∧ b < w.heap.size ∧ ∀ g : Grown w, g.w.cell? ⟨b, o + j * 2, none⟩ = some (.int .i64 x) ∧ g.w.cell? ⟨b, o + j * 2 + 1, none⟩ = some (.int .i64 y) := by
  obtain ⟨_, q, c', e, h⟩ := h
  obtain ⟨b, o, hq, h1, h2, h3⟩ := h j _ hx
  simp only [Value.slice.injEq] at e
  exact ⟨b, o, e.1.trans hq, h1, fun g => ⟨(g.h.cell (p := ⟨b, o + j * 2, none⟩) h1).trans h2, (g.h.cell (p := ⟨b, o + j * 2 + 1, none⟩) h1).trans h3⟩⟩
/-- The function value that withRemainders returns. -/
def plusV (u : Value) (a b : Int) : Value := .func (.func 96) #[.agg #[u, .int .i64 a, .int .i64 b]] #[]
theorem wr_ok (u : Value) (a b : Int) (w : World) (hc : CapOk u) :
    Calls Tryz.prog 55 #[u, .agg #[.int .i64 a, .int .i64 b]] w fun e w' => e = .returned (plusV u a b) ∧ Below w.heap.size w w' := by
  obtain ⟨pu, nu, cu, rfl, _⟩ := hc
  go_enter Tryz.func55, Tryz.ntmps55
  go_wp2_with (fail)
  go_ret
  exact ⟨rfl, by go_grown⟩
structure PlI (w : World) (u : Value) (p : Int × Int) (acc : Int × Int) (W : World) : Prop where
  ap : ApC W w.heap.size u p
  res : MoC W (w.heap.size + 1) (.slice none 0 0) (0, 0)
  sum : IvC W (w.heap.size + 2) acc
  bel : Below w.heap.size w W
theorem PlI.grow {w W W' : World} {u : Value} {p acc : Int × Int} (h : PlI w u p acc W) (hB : Below W.heap.size W W') : PlI w u p acc W' := ⟨h.ap.grow hB, h.res.grow hB, h.sum.grow hB, h.bel.trans (hB.mono h.bel.size)⟩
set_option maxHeartbeats 16000000 in
theorem tplus_ok (u vs : Value) (a b : Int) (l : List Tm) (rs : List (Int × Int)) (w : World) (hu : Tx w u l) (hc : CapOk u) (hb : Bx w vs rs) (hv : VB2 (a, b)) (hr : ∀ q ∈ rs, VB2 q) :
    Calls Tryz.prog 96 #[.agg #[u, .int .i64 a, .int .i64 b], vs] w fun e w' => ∃ r, e = .returned (.agg #[r, .int .i64 (normM l (foldA (a, b) rs)).2.1, .int .i64 (normM l (foldA (a, b) rs)).2.2]) ∧ Tx w' r (normM l (foldA (a, b) rs)).1 ∧ CapOk r ∧ Below w.heap.size w w' := by
  have hsum := foldA_vb hv rs hr
  obtain ⟨⟨N, n0, n1⟩, hN⟩ : ∃ R, normM l (foldA (a, b) rs) = R := ⟨_, rfl⟩
  rw [hN]
  dsimp only
  have HNN := Lib.hid hN
  clear hN
  have hm1 := hb.1
  unfold maxLen at hm1
  have hb' := hb
  obtain ⟨_, pb, cb, rfl, _⟩ := hb'
  have HBX := Lib.hid hb
  have HRV := Lib.hid hr
  have HU := Lib.hid hu
  have HC := Lib.hid hc
  have HAB := Lib.hid hv
  have HTV := Lib.hid (fun k => foldA_vb hv (rs.take k) fun q hq => hr q (List.mem_of_mem_take hq))
  have HI0 : Hid (PlI w u (a, b) (a, b) (((w.alloc (.cells #[u, .int .i64 a, .int .i64 b] 89)).alloc (.cells #[.slice none 0 0, .int .i64 0, .int .i64 0] 26)).alloc (.cells #[.int .i64 a, .int .i64 b] 24))) := Lib.hid (by
    have e1 : ApC (w.alloc (.cells #[u, .int .i64 a, .int .i64 b] 89)) w.heap.size u (a, b) := World.alloc_heap_new w _
    have e2 := MoC.new (w.alloc (.cells #[u, .int .i64 a, .int .i64 b] 89)) (.slice none 0 0) 0 0
    rw [World.size_alloc] at e2
    have e3 := IvC.new ((w.alloc (.cells #[u, .int .i64 a, .int .i64 b] 89)).alloc (.cells #[.slice none 0 0, .int .i64 0, .int .i64 0] 26)) a b
    rw [World.size_alloc, World.size_alloc] at e3
    exact ⟨(e1.grow ((Below.refl _ _).alloc (Nat.le_refl _) _)).grow ((Below.refl _ _).alloc (Nat.le_refl _) _), e2.alloc _, e3, (((Below.refl _ _).alloc (Nat.le_refl _) _).alloc (by simp) _).alloc (by simp; omega) _⟩)
  clear hb hr hu hc hv
  go_enter Tryz.func96, Tryz.ntmps96
  go_wp2_with (fail)
  go_loopw [12] (fun i wr => ∃ k : Nat, i = .int .i64 k ∧ k ≤ rs.length ∧ Hid (PlI w u (a, b) (foldA (a, b) (rs.take k)) wr)) (fun i _ => rs.length - (intOf i).toNat)
  case atStart => exact ⟨0, rfl, Nat.zero_le _, HI0⟩
  case round =>
    clear HI0
    obtain ⟨k, rfl, hk, HR⟩ := hrel
    by_cases hlt : k < rs.length
    · have i1 : (k : Int) < rs.length := by omega
      obtain ⟨⟨x, y⟩, hx⟩ : ∃ t, rs[k]? = some t := ⟨_, List.getElem?_eq_getElem hlt⟩
      have hxv := HRV.out _ (List.mem_of_getElem? hx)
      have hs := foldA_snoc (p := (a, b)) hx
      obtain ⟨bb, ob, hp, hbb, rd⟩ := bx_rdY HBX.out hx
      subst hp
      have f0 := (rd ⟨wr, HR.out.bel⟩).1
      have f1 := (rd ⟨wr, HR.out.bel⟩).2
      dsimp only at f0 f1
      have hsv := HTV.out k
      obtain ⟨⟨p1, p2⟩, hpp⟩ : ∃ P, foldA (a, b) (rs.take k) = P := ⟨_, rfl⟩
      rw [hpp] at HR hs hsv
      unfold addI2 at hs
      dsimp only at hs
      obtain ⟨a1, ha1⟩ : ∃ z, addLo p1 p2 x y = z := ⟨_, rfl⟩
      obtain ⟨a2, ha2⟩ : ∃ z, addHi p1 p2 x y = z := ⟨_, rfl⟩
      have KA := Lib.hid (fun w => iv_add p1 p2 x y w hsv hxv)
      rw [ha1, ha2] at KA hs
      have HS := Lib.hid hs
      have hR2 := HR.out.grow ((Below.refl _ _).alloc (Nat.le_refl _) (.cells #[.int .i64 x, .int .i64 y] 24))
      have s0 := hR2.sum.c0
      have s1 := hR2.sum.c1
      have u0 := (IvC.new wr x y).c0
      have u1 := (IvC.new wr x y).c1
      have hsz := HR.out.sum.lt
      dsimp only at s0 s1 u0 u1
      have HR2 := Lib.hid hR2
      clear rd hs ha1 ha2 hpp hx hxv hsv hR2
      go_wp2_with (fail)
      refine (KA.out _).mono ?_
      rintro e w5 ⟨rfl, h5⟩
      have h5' := HR2.out.grow h5
      have q0 := h5'.sum.c0
      have q1 := h5'.sum.c1
      have z0 := h5'.sum.frozen 0
      have z1 := h5'.sum.frozen 1
      dsimp only at q0 q1
      have HN : Hid (PlI w u (a, b) (foldA (a, b) (rs.take (k + 1))) ((w5.setCell ⟨w.heap.size + 2, 0, none⟩ (.int .i64 a1)).setCell ⟨w.heap.size + 2, 1, none⟩ (.int .i64 a2))) := Lib.hid ⟨(h5'.ap.other (by omega)).other (by omega), (h5'.res.other (by omega)).other (by omega), by rw [HS.out]; exact h5'.sum.set a1 a2, (h5'.bel.setCell (p := ⟨w.heap.size + 2, 0, none⟩) (by dsimp only; omega) _).setCell (p := ⟨w.heap.size + 2, 1, none⟩) (by dsimp only; omega) _⟩
      clear h5' h5 s0 s1 u0 u1 f0 f1
      go_wp2_with (fail)
      go_roundw
      case rel => exact ⟨k + 1, by go_num, by omega, HN⟩
      case measure => simp [intOf]; omega
    · obtain rfl : k = rs.length := by omega
      have i1 : ¬ (rs.length : Int) < rs.length := by omega
      rw [List.take_length] at HR
      obtain ⟨⟨p1, p2⟩, hpp⟩ : ∃ P, foldA (a, b) rs = P := ⟨_, rfl⟩
      have hN := HNN.out
      rw [hpp] at HR hsum hN
      unfold normM at hN
      have s0 := HR.out.sum.c0
      have s1 := HR.out.sum.c1
      dsimp only at s0 s1
      cases hent : entR (p1, p2) with
      | true =>
        rw [if_pos hent] at hN
        simp only [Prod.mk.injEq] at hN
        obtain ⟨rfl, rfl, rfl⟩ := hN
        have KE := Lib.hid (fun w => iv_isent p1 p2 true w hent)
        have he : p1 = -2147483648 ∧ p2 = 2147483648 := by simpa [entR] using hent
        obtain ⟨rfl, rfl⟩ := he
        clear hent hpp
        go_wp2_with (fail)
        refine (KE.out _).mono ?_
        rintro e w5 ⟨rfl, h5⟩
        have h5' := HR.out.grow h5
        have t0 := h5'.sum.c0
        have t1 := h5'.sum.c1
        have q0 := h5'.res.c0
        have q1 := h5'.res.c1
        have q2 := h5'.res.c2
        have z0 := h5'.res.frozen 0
        have z1 := h5'.res.frozen 1
        have z2 := h5'.res.frozen 2
        dsimp only at t0 t1 q0 q1 q2
        have hbel := h5'.bel
        have hrl := h5'.res.lt
        clear s0 s1 h5 h5'
        go_wp2_with (fail)
        refine bodyPost_ret (v := .agg #[.slice none 0 0, .int .i64 (-2147483648), .int .i64 2147483648]) (by simp [results, Tryz.results96, go_sem, q0, q1, q2]) rfl ⟨_, rfl, Tx.nil _ _ _, cap_nil, ?_⟩
        exact ((hbel.setCell (p := ⟨w.heap.size + 1, 0, none⟩) (Nat.le_succ _) _).setCell (p := ⟨w.heap.size + 1, 1, none⟩) (Nat.le_succ _) _).setCell (p := ⟨w.heap.size + 1, 2, none⟩) (Nat.le_succ _) _
      | false =>
        rw [if_neg (by rw [hent]; decide)] at hN
        simp only [Prod.mk.injEq] at hN
        obtain ⟨rfl, rfl, rfl⟩ := hN
        have KE := Lib.hid (fun w => iv_isent p1 p2 false w hent)
        clear hent hpp
        go_wp2_with (fail)
        refine (KE.out _).mono ?_
        rintro e w5 ⟨rfl, h5⟩
        have h5' := HR.out.grow h5
        have t0 := h5'.sum.c0
        have t1 := h5'.sum.c1
        have v0 := h5'.ap.c0
        have q0 := h5'.res.c0
        have q1 := h5'.res.c1
        have q2 := h5'.res.c2
        have z0 := h5'.res.frozen 0
        have z1 := h5'.res.frozen 1
        have z2 := h5'.res.frozen 2
        dsimp only at t0 t1 v0 q0 q1 q2
        have hbel := h5'.bel
        clear s0 s1 h5 h5'
        obtain ⟨pu, nu, cu, rfl, hle, hnil⟩ := HC.out
        go_wp2_with (fail)
        have hbe : Below w.heap.size w (((w5.setCell ⟨w.heap.size + 1, 0, none⟩ (.slice pu nu cu)).setCell ⟨w.heap.size + 1, 1, none⟩ (.int .i64 p1)).setCell ⟨w.heap.size + 1, 2, none⟩ (.int .i64 p2)) := ((hbel.setCell (p := ⟨w.heap.size + 1, 0, none⟩) (Nat.le_succ _) _).setCell (p := ⟨w.heap.size + 1, 1, none⟩) (Nat.le_succ _) _).setCell (p := ⟨w.heap.size + 1, 2, none⟩) (Nat.le_succ _) _
        refine bodyPost_ret (v := .agg #[.slice pu nu cu, .int .i64 p1, .int .i64 p2]) (by simp [results, Tryz.results96, go_sem, q0, q1, q2]) rfl ⟨_, rfl, HU.out.grow hbe, HC.out, hbe⟩
end Go.Proofs.YthakeeinhgfbbaaGreat

namespace Go.Proofs.YthakeeinhgfbbaaGreat
open Go.ChangeShapes Go.WideShapes Go.ChangeAt Go.RowKit
set_option linter.unusedVariables false
set_option linter.unusedSimpArgs false
set_option maxRecDepth 100000
attribute [local irreducible] Calls
theorem addR_le {m : Int × Int} {t : Tm} (hm : m.1 ≤ m.2) (ht : Num t.1) : (addR m t).1 ≤ (addR m t).2 := by
  have := trg_bd (t := t) ht
  unfold addR
  dsimp only
  omega
theorem foldR_le : ∀ (l : List Tm) (m : Int × Int), m.1 ≤ m.2 → (∀ t ∈ l, Num t.1) → (l.foldl addR m).1 ≤ (l.foldl addR m).2
  | [], _, h, _ => h
  | t :: l, m, h, hl => foldR_le l (addR m t) (addR_le h (hl t (by simp))) fun s hs => hl s (by simp [hs])
theorem rng_vb {l : List Tm} (h : ∀ t ∈ l, Num t.1) : VB2 (rngP l) := mk_vi (foldR_le l (0, 0) (Int.le_refl _) h)
theorem trunc_vb {l : List Tm} {D : Int} {m : Int × Int} (hm : m.1 ≤ m.2) : VB2 (truncP l D m).2 := by
  unfold truncP
  split
  · exact .inl ⟨rfl, rfl⟩
  · rename_i hn
    split
    · exact .inl ⟨rfl, rfl⟩
    · refine mk_vi (foldR_le _ m hm fun t ht => ?_)
      have ht := (List.mem_filter.1 ht).1
      by_cases q : Num t.1
      · exact q
      · exact absurd (List.any_eq_true.2 ⟨t, ht, by simp [noNum, q]⟩) hn
theorem mulR_vb (l m : List Tm) (D : Int) : VB2 (mulR l m D).2 := trunc_vb (by have := missM_sign (pairsT l m); omega)
theorem merge_vb (l m : List Tm) : VB2 (truncP (mergeP l m) 6 (0, 0)).2 := trunc_vb (Int.le_refl _)
/-- What lies in a slice of terms does not lie in a model's cells. -/
theorem tx_moff {W : World} {b : Nat} {u v : Value} {p : Int × Int} {l : List Tm} (h : Tx W u l) (hl : ∀ t ∈ l, TV t) (hm : MoC W b v p) (x y z : Value) : Tx (((W.setCell ⟨b, 0, none⟩ x).setCell ⟨b, 1, none⟩ y).setCell ⟨b, 2, none⟩ z) u l := by
  obtain ⟨h1, q, cap, rfl, h2⟩ := h
  refine ⟨h1, q, cap, rfl, fun i t ht => ?_⟩
  obtain ⟨b', o, rfl, h3, h4⟩ := h2 i t ht
  have hne : b' ≠ b := by
    rintro rfl
    have htv := hl t (List.mem_of_getElem? ht)
    obtain ⟨k, e0, e1, e2, e3, e4, e5, rfl⟩ := six_at htv
    have h6 := h4 6 _ rfl
    simp [World.cell?, show W.heap[b']? = _ from hm] at h6
  refine ⟨b', o, rfl, by simpa [World.setCell] using h3, fun j v hv => ?_⟩
  rw [World.cell?_setCell_other _ _ _ _ (by simp [hne]), World.cell?_setCell_other _ _ _ _ (by simp [hne]), World.cell?_setCell_other _ _ _ _ (by simp [hne])]
  exact h4 j v hv
theorem kept_tvY {l : List Tm} {D : Int} (h : ∀ t ∈ l, TV t) : ∀ t ∈ keptP D l, TV t := fun t ht => h t (List.mem_filter.1 ht).1
theorem truncP_tvY {l : List Tm} {D : Int} {m : Int × Int} (h : ∀ t ∈ l, TV t) : ∀ t ∈ (truncP l D m).1, TV t := by
  unfold truncP
  split
  · simp
  · split
    · simp
    · exact kept_tvY h
theorem normM_tv {l : List Tm} {p : Int × Int} (h : ∀ t ∈ l, TV t) : ∀ t ∈ (normM l p).1, TV t := by
  unfold normM
  split
  · simp
  · exact h
set_option maxHeartbeats 8000000 in
theorem trange_ok (u : Value) (a0 a1 : Int) (l : List Tm) (w : World) (hu : Tx w u l) (nu : ∀ t ∈ l, TV t ∧ Num t.1) (su : l.length ≤ 100) (hv : VB2 (a0, a1)) :
    Calls Tryz.prog 29 #[.agg #[u, .int .i64 a0, .int .i64 a1]] w fun e w' => e = .returned (.agg #[.int .i64 (rangeM (l, (a0, a1))).1, .int .i64 (rangeM (l, (a0, a1))).2]) ∧ Below w.heap.size w w' := by
  obtain ⟨pu, cu, rfl⟩ := hu.cut
  have hrv := rng_vb (l := l) fun t ht => (nu t ht).2
  have HU := Lib.hid hu
  have KR := Lib.hid (fun w h => range_ok (.slice pu l.length cu) l w h nu (by omega))
  unfold rangeM
  unfold rngP at hrv ⊢
  obtain ⟨⟨r0, r1⟩, hr⟩ : ∃ R, newR (sumR l) = R := ⟨_, rfl⟩
  rw [hr] at KR hrv
  dsimp only
  rw [hr]
  unfold addI2
  dsimp only at KR ⊢
  have KA := Lib.hid (fun w => iv_add r0 r1 a0 a1 w hrv hv)
  obtain ⟨n0, h0⟩ : ∃ z, addLo r0 r1 a0 a1 = z := ⟨_, rfl⟩
  obtain ⟨n1, h1⟩ : ∃ z, addHi r0 r1 a0 a1 = z := ⟨_, rfl⟩
  rw [h0, h1] at KA ⊢
  have hba : Below w.heap.size w ((w.alloc (.cells #[(.slice pu l.length cu), .int .i64 a0, .int .i64 a1] 26)).alloc (.cells #[.int .i64 0, .int .i64 0] 24)) := (((Below.refl _ _).alloc (Nat.le_refl _) _).alloc (by simp) _)
  have hc0 : MoC ((w.alloc (.cells #[(.slice pu l.length cu), .int .i64 a0, .int .i64 a1] 26)).alloc (.cells #[.int .i64 0, .int .i64 0] 24)) (w.heap.size) ((.slice pu l.length cu)) (a0, a1) := by
    have e := MoC.new w (.slice pu l.length cu) a0 a1
    exact (e.alloc _)
  have hc1 : IvC ((w.alloc (.cells #[(.slice pu l.length cu), .int .i64 a0, .int .i64 a1] 26)).alloc (.cells #[.int .i64 0, .int .i64 0] 24)) (w.heap.size + 1) (0, 0) := by
    have e := IvC.new (w.alloc (.cells #[(.slice pu l.length cu), .int .i64 a0, .int .i64 a1] 26)) 0 0
    simp only [World.size_alloc] at e
    exact e
  have HC0 := Lib.hid hc0
  have HC1 := Lib.hid hc1
  have HBA := Lib.hid hba
  clear hba hc0 hc1 hu nu su hv hrv hr h0 h1
  go_enter Tryz.func29, Tryz.ntmps29
  go_wp2_with (fail)
  generalize hW0 : World.alloc (World.alloc w _) _ = W0 at *
  clear hW0
  have k0 := fun g : Grown W0 => (HC0.out.grow g.h).c0
  have k1 := fun g : Grown W0 => (HC0.out.grow g.h).c1
  have k2 := fun g : Grown W0 => (HC0.out.grow g.h).c2
  dsimp only at k0 k1 k2
  refine region_pred_l (lk [(3, fun z_ _ => z_ = .pointer (some ⟨w.heap.size, 0, none⟩)), (4, fun z_ _ => z_ = (.slice pu l.length cu)), (5, fun z_ _ => z_ = .agg #[.int .i64 r0, .int .i64 r1]), (6, fun z_ _ => z_ = .pointer (some ⟨w.heap.size, 1, none⟩)), (7, fun z_ _ => z_ = .agg #[.int .i64 a0, .int .i64 a1]), (8, fun z_ _ => z_ = .agg #[.int .i64 n0, .int .i64 n1])]) 6 _ rfl (by kernel_rfl) (by kernel_rfl) (by kernel_rfl) (lk_steady _ ⟨steady_eq _, steady_eq _, steady_eq _, steady_eq _, steady_eq _, steady_eq _, trivial⟩) ?_ ?_
  · refine ⟨?_, ?_, ?_, ?_, ?_, ?_, ?_, trivial⟩
    · intro _
      refine ob_plain [1] rfl rfl fun aa g h => ?_
      have yy0 := seen_out (v := .pointer (some ⟨w.heap.size, 0, none⟩)) rfl rfl h.1
      have ee0 := getD_of yy0
      exact tupon_value (v := .pointer (some ⟨w.heap.size, 0, none⟩)) (by simp [go_sem, ee0, yy0]) (Below.refl _ _) rfl
    · intro _
      refine ob_plain [3] rfl rfl fun aa g h => ?_
      obtain ⟨_, yy0, rfl⟩ := seen_in rfl h.1
      have ee0 := getD_of yy0
      exact tupon_value (v := (.slice pu l.length cu)) (by simp [go_sem, ee0, yy0, k0 g]) (Below.refl _ _) rfl
    · intro _
      refine ob_plain [4] rfl rfl fun aa g h => ?_
      obtain ⟨_, yy0, rfl⟩ := seen_in rfl h.1
      have ee0 := getD_of yy0
      refine tupon_enter (f := 66) (args := #[(.slice pu l.length cu)]) (by simp [go_sem, ee0, yy0]) rfl ?_
      exact (KR.out g.w (HU.out.grow (below_then HBA.out g.h))).mono fun e w' ⟨he, hB⟩ => ⟨_, he, hB, rfl⟩
    · intro _
      refine ob_plain [1] rfl rfl fun aa g h => ?_
      have yy0 := seen_out (v := .pointer (some ⟨w.heap.size, 0, none⟩)) rfl rfl h.1
      have ee0 := getD_of yy0
      exact tupon_value (v := .pointer (some ⟨w.heap.size, 1, none⟩)) (by simp [go_sem, ee0, yy0]) (Below.refl _ _) rfl
    · intro _
      refine ob_plain [6] rfl rfl fun aa g h => ?_
      obtain ⟨_, yy0, rfl⟩ := seen_in rfl h.1
      have ee0 := getD_of yy0
      exact tupon_value (v := .agg #[.int .i64 a0, .int .i64 a1]) (by simp [go_sem, ee0, yy0, k1 g, k2 g]) (Below.refl _ _) rfl
    · intro _
      refine ob_plain [5, 7] rfl rfl fun aa g h => ?_
      obtain ⟨_, yy0, rfl⟩ := seen_in rfl h.1
      have ee0 := getD_of yy0
      obtain ⟨_, yy1, rfl⟩ := seen_in rfl h.2.1
      have ee1 := getD_of yy1
      refine tupon_enter (f := 57) (args := #[.agg #[.int .i64 r0, .int .i64 r1], .agg #[.int .i64 a0, .int .i64 a1]]) (by simp [go_sem, ee0, yy0, ee1, yy1]) rfl ?_
      exact (KA.out g.w).mono fun e w' ⟨he, hB⟩ => ⟨_, he, hB, rfl⟩
    · exact fun h => absurd rfl h
  rintro w5 hB5 _ rfl _ rfl _ rfl _ rfl _ rfl _ rfl
  simp only [Act.put, List.setIfInBounds_toArray, List.set_cons_succ, List.set_cons_zero]
  have hB6 := below_then HBA.out hB5
  have hR5 := HC1.out.grow hB5
  have q0 := hR5.c0
  have q1 := hR5.c1
  have z0 := hR5.frozen 0
  have z1 := hR5.frozen 1
  dsimp only at q0 q1
  refine ⟨_, by simp [go_sem, q0, q1, z0, z1]; rfl, ?_⟩
  clear k0 k1 k2
  go_wp2_with (fail)
  refine bodyPost_ret (v := .agg #[.int .i64 n0, .int .i64 n1]) (by simp [results, Tryz.results29, go_sem, q0, q1]) rfl ⟨rfl, ?_⟩
  exact (hB6.setCell (p := ⟨w.heap.size + 1, 0, none⟩) (by dsimp only; omega) _).setCell (p := ⟨w.heap.size + 1, 1, none⟩) (by dsimp only; omega) _
set_option maxHeartbeats 8000000 in
theorem teval_ok (u vb : Value) (a0 a1 : Int) (l : List Tm) (box : List (Int × Int)) (w : World) (hu : Tx w u l) (nu : ∀ t ∈ l, TV t ∧ Num t.1) (su : l.length ≤ 100) (hv : VB2 (a0, a1)) (hb : Bx w vb box) (hbv : ∀ p ∈ box, VB2 p) :
    Calls Tryz.prog 37 #[.agg #[u, .int .i64 a0, .int .i64 a1], vb] w fun e w' => e = .returned (.agg #[.int .i64 (evalM (l, (a0, a1)) box).1, .int .i64 (evalM (l, (a0, a1)) box).2]) ∧ Below w.heap.size w w' := by
  obtain ⟨pu, cu, rfl⟩ := hu.cut
  obtain ⟨pb, cb, rfl⟩ : ∃ p c, vb = .slice p box.length c := ⟨_, _, hb.2.choose_spec.choose_spec.1⟩
  have hrv := evalP_vb box l
  have HU := Lib.hid hu
  have HBX := Lib.hid hb
  have KR := Lib.hid (fun w h h2 => eval_ok (.slice pu l.length cu) (.slice pb box.length cb) l box w h h2 (fun t ht => (nu t ht).1) hbv (by omega))
  unfold evalM
  dsimp only
  obtain ⟨⟨r0, r1⟩, hr⟩ : ∃ R, evalP box l = R := ⟨_, rfl⟩
  rw [hr] at KR hrv ⊢
  unfold addI2
  dsimp only at KR ⊢
  have KA := Lib.hid (fun w => iv_add r0 r1 a0 a1 w hrv hv)
  obtain ⟨n0, h0⟩ : ∃ z, addLo r0 r1 a0 a1 = z := ⟨_, rfl⟩
  obtain ⟨n1, h1⟩ : ∃ z, addHi r0 r1 a0 a1 = z := ⟨_, rfl⟩
  rw [h0, h1] at KA ⊢
  have hba : Below w.heap.size w ((w.alloc (.cells #[(.slice pu l.length cu), .int .i64 a0, .int .i64 a1] 26)).alloc (.cells #[.int .i64 0, .int .i64 0] 24)) := (((Below.refl _ _).alloc (Nat.le_refl _) _).alloc (by simp) _)
  have hc0 : MoC ((w.alloc (.cells #[(.slice pu l.length cu), .int .i64 a0, .int .i64 a1] 26)).alloc (.cells #[.int .i64 0, .int .i64 0] 24)) (w.heap.size) ((.slice pu l.length cu)) (a0, a1) := by
    have e := MoC.new w (.slice pu l.length cu) a0 a1
    exact (e.alloc _)
  have hc1 : IvC ((w.alloc (.cells #[(.slice pu l.length cu), .int .i64 a0, .int .i64 a1] 26)).alloc (.cells #[.int .i64 0, .int .i64 0] 24)) (w.heap.size + 1) (0, 0) := by
    have e := IvC.new (w.alloc (.cells #[(.slice pu l.length cu), .int .i64 a0, .int .i64 a1] 26)) 0 0
    simp only [World.size_alloc] at e
    exact e
  have HC0 := Lib.hid hc0
  have HC1 := Lib.hid hc1
  have HBA := Lib.hid hba
  clear hba hc0 hc1 hu nu su hv hrv hr h0 h1 hb hbv
  go_enter Tryz.func37, Tryz.ntmps37
  go_wp2_with (fail)
  generalize hW0 : World.alloc (World.alloc w _) _ = W0 at *
  clear hW0
  have k0 := fun g : Grown W0 => (HC0.out.grow g.h).c0
  have k1 := fun g : Grown W0 => (HC0.out.grow g.h).c1
  have k2 := fun g : Grown W0 => (HC0.out.grow g.h).c2
  dsimp only at k0 k1 k2
  refine region_pred_l (lk [(5, fun z_ _ => z_ = .pointer (some ⟨w.heap.size, 0, none⟩)), (6, fun z_ _ => z_ = (.slice pu l.length cu)), (7, fun z_ _ => z_ = (.slice pb box.length cb)), (8, fun z_ _ => z_ = .agg #[.int .i64 r0, .int .i64 r1]), (9, fun z_ _ => z_ = .pointer (some ⟨w.heap.size, 1, none⟩)), (10, fun z_ _ => z_ = .agg #[.int .i64 a0, .int .i64 a1]), (11, fun z_ _ => z_ = .agg #[.int .i64 n0, .int .i64 n1])]) 7 _ rfl (by kernel_rfl) (by kernel_rfl) (by kernel_rfl) (lk_steady _ ⟨steady_eq _, steady_eq _, steady_eq _, steady_eq _, steady_eq _, steady_eq _, steady_eq _, trivial⟩) ?_ ?_
  · refine ⟨?_, ?_, ?_, ?_, ?_, ?_, ?_, ?_, trivial⟩
    · intro _
      refine ob_plain [2] rfl rfl fun aa g h => ?_
      have yy0 := seen_out (v := .pointer (some ⟨w.heap.size, 0, none⟩)) rfl rfl h.1
      have ee0 := getD_of yy0
      exact tupon_value (v := .pointer (some ⟨w.heap.size, 0, none⟩)) (by simp [go_sem, ee0, yy0]) (Below.refl _ _) rfl
    · intro _
      refine ob_plain [5] rfl rfl fun aa g h => ?_
      obtain ⟨_, yy0, rfl⟩ := seen_in rfl h.1
      have ee0 := getD_of yy0
      exact tupon_value (v := (.slice pu l.length cu)) (by simp [go_sem, ee0, yy0, k0 g]) (Below.refl _ _) rfl
    · intro _
      refine ob_plain [1] rfl rfl fun aa g h => ?_
      have yy0 := seen_out (v := (.slice pb box.length cb)) rfl rfl h.1
      have ee0 := getD_of yy0
      exact tupon_value (v := (.slice pb box.length cb)) (by simp [go_sem, ee0, yy0]) (Below.refl _ _) rfl
    · intro _
      refine ob_plain [6, 7] rfl rfl fun aa g h => ?_
      obtain ⟨_, yy0, rfl⟩ := seen_in rfl h.1
      have ee0 := getD_of yy0
      obtain ⟨_, yy1, rfl⟩ := seen_in rfl h.2.1
      have ee1 := getD_of yy1
      refine tupon_enter (f := 85) (args := #[(.slice pu l.length cu), (.slice pb box.length cb)]) (by simp [go_sem, ee0, yy0, ee1, yy1]) rfl ?_
      exact (KR.out g.w (HU.out.grow (below_then HBA.out g.h)) (HBX.out.grow (below_then HBA.out g.h))).mono fun e w' ⟨he, hB⟩ => ⟨_, he, hB, rfl⟩
    · intro _
      refine ob_plain [2] rfl rfl fun aa g h => ?_
      have yy0 := seen_out (v := .pointer (some ⟨w.heap.size, 0, none⟩)) rfl rfl h.1
      have ee0 := getD_of yy0
      exact tupon_value (v := .pointer (some ⟨w.heap.size, 1, none⟩)) (by simp [go_sem, ee0, yy0]) (Below.refl _ _) rfl
    · intro _
      refine ob_plain [9] rfl rfl fun aa g h => ?_
      obtain ⟨_, yy0, rfl⟩ := seen_in rfl h.1
      have ee0 := getD_of yy0
      exact tupon_value (v := .agg #[.int .i64 a0, .int .i64 a1]) (by simp [go_sem, ee0, yy0, k1 g, k2 g]) (Below.refl _ _) rfl
    · intro _
      refine ob_plain [8, 10] rfl rfl fun aa g h => ?_
      obtain ⟨_, yy0, rfl⟩ := seen_in rfl h.1
      have ee0 := getD_of yy0
      obtain ⟨_, yy1, rfl⟩ := seen_in rfl h.2.1
      have ee1 := getD_of yy1
      refine tupon_enter (f := 57) (args := #[.agg #[.int .i64 r0, .int .i64 r1], .agg #[.int .i64 a0, .int .i64 a1]]) (by simp [go_sem, ee0, yy0, ee1, yy1]) rfl ?_
      exact (KA.out g.w).mono fun e w' ⟨he, hB⟩ => ⟨_, he, hB, rfl⟩
    · exact fun h => absurd rfl h
  rintro w5 hB5 _ rfl _ rfl _ rfl _ rfl _ rfl _ rfl _ rfl
  simp only [Act.put, List.setIfInBounds_toArray, List.set_cons_succ, List.set_cons_zero]
  have hB6 := below_then HBA.out hB5
  have hR5 := HC1.out.grow hB5
  have q0 := hR5.c0
  have q1 := hR5.c1
  have z0 := hR5.frozen 0
  have z1 := hR5.frozen 1
  dsimp only at q0 q1
  refine ⟨_, by simp [go_sem, q0, q1, z0, z1]; rfl, ?_⟩
  clear k0 k1 k2
  go_wp2_with (fail)
  refine bodyPost_ret (v := .agg #[.int .i64 n0, .int .i64 n1]) (by simp [results, Tryz.results37, go_sem, q0, q1]) rfl ⟨rfl, ?_⟩
  exact (hB6.setCell (p := ⟨w.heap.size + 1, 0, none⟩) (by dsimp only; omega) _).setCell (p := ⟨w.heap.size + 1, 1, none⟩) (by dsimp only; omega) _
theorem bx_l1 (W : World) (x y : Int) : Bx (W.alloc (.cells #[.int .i64 x, .int .i64 y] 24)) (.slice (some ⟨W.heap.size, 0, none⟩) 1 1) [(x, y)] := bx_lit1 W x y
theorem bx_l3 (W : World) (x y z u s t : Int) : Bx (W.alloc (.cells #[.int .i64 x, .int .i64 y, .int .i64 z, .int .i64 u, .int .i64 s, .int .i64 t] 24)) (.slice (some ⟨W.heap.size, 0, none⟩) 3 3) [(x, y), (z, u), (s, t)] := by
  have hb : (W.alloc (.cells #[.int .i64 x, .int .i64 y, .int .i64 z, .int .i64 u, .int .i64 s, .int .i64 t] 24)).heap[W.heap.size]? = some (.cells #[.int .i64 x, .int .i64 y, .int .i64 z, .int .i64 u, .int .i64 s, .int .i64 t] 24 (0, 0)) := World.alloc_heap_new W _
  refine ⟨by simp [maxLen], _, 3, rfl, fun k p hk => ?_⟩
  match k with
  | 0 => simp at hk; subst hk; exact ⟨_, 0, rfl, by simp, heapT_cell hb rfl, heapT_cell hb rfl⟩
  | 1 => simp at hk; subst hk; exact ⟨_, 0, rfl, by simp, heapT_cell hb rfl, heapT_cell hb rfl⟩
  | 2 => simp at hk; subst hk; exact ⟨_, 0, rfl, by simp, heapT_cell hb rfl, heapT_cell hb rfl⟩
  | k + 3 => simp at hk
set_option maxHeartbeats 8000000 in
theorem ttrunc_ok (u : Value) (a0 a1 deg : Int) (l : List Tm) (w : World) (hu : Tx w u l) (nu : ∀ t ∈ l, TV t ∧ Num t.1) (su : l.length ≤ 100) (hv : VB2 (a0, a1)) :
    Calls Tryz.prog 27 #[.agg #[u, .int .i64 a0, .int .i64 a1], .int .i64 deg] w fun e w' => ∃ r, e = .returned (.agg #[r, .int .i64 (truncM (l, (a0, a1)) deg).2.1, .int .i64 (truncM (l, (a0, a1)) deg).2.2]) ∧ Tx w' r (truncM (l, (a0, a1)) deg).1 ∧ CapOk r ∧ Below w.heap.size w w' := by
  obtain ⟨pu, cu, rfl⟩ := hu.cut
  have hrv := trunc_vb (l := l) (D := deg) (m := (0, 0)) (Int.le_refl _)
  have HU := Lib.hid hu
  have KT := Lib.hid (fun w h => truncate_ok (.slice pu l.length cu) l deg w h (fun t ht => (nu t ht).1) (by omega))
  unfold truncM
  dsimp only
  obtain ⟨⟨T, t0, t1⟩, hr⟩ : ∃ R, truncP l deg (0, 0) = R := ⟨_, rfl⟩
  rw [hr] at KT hrv ⊢
  dsimp only at KT hrv ⊢
  have KP := Lib.hid (fun (r v : Value) (w : World) h1 h2 h3 => tplus_ok r v t0 t1 T [(a0, a1)] w h1 h2 h3 hrv (by simpa using hv))
  unfold foldA at KP
  simp only [List.foldl_cons, List.foldl_nil] at KP
  obtain ⟨⟨N, n0, n1⟩, hn⟩ : ∃ R, normM T (addI2 (t0, t1) (a0, a1)) = R := ⟨_, rfl⟩
  have hT : ∀ t ∈ T, TV t := fun t ht => truncP_tvY (fun t ht => (nu t ht).1) t (by first | (rw [hr]; exact ht) | (unfold mulR at hr; rw [hr]; exact ht))
  have HTV : Hid (∀ t ∈ N, TV t) := Lib.hid (fun t ht => normM_tv hT t (by rw [hn]; exact ht))
  rw [hn] at KP ⊢
  dsimp only at KP ⊢
  have hba : Below w.heap.size w ((w.alloc (.cells #[(.slice pu l.length cu), .int .i64 a0, .int .i64 a1] 26)).alloc (.cells #[.slice none 0 0, .int .i64 0, .int .i64 0] 26)) := (((Below.refl _ _).alloc (Nat.le_refl _) _).alloc (by simp) _)
  have hc0 : MoC ((w.alloc (.cells #[(.slice pu l.length cu), .int .i64 a0, .int .i64 a1] 26)).alloc (.cells #[.slice none 0 0, .int .i64 0, .int .i64 0] 26)) (w.heap.size) ((.slice pu l.length cu)) (a0, a1) := by
    have e := MoC.new w (.slice pu l.length cu) a0 a1
    exact (e.alloc _)
  have hc1 : MoC ((w.alloc (.cells #[(.slice pu l.length cu), .int .i64 a0, .int .i64 a1] 26)).alloc (.cells #[.slice none 0 0, .int .i64 0, .int .i64 0] 26)) (w.heap.size + 1) (.slice none 0 0) (0, 0) := by
    have e := MoC.new (w.alloc (.cells #[(.slice pu l.length cu), .int .i64 a0, .int .i64 a1] 26)) (.slice none 0 0) 0 0
    simp only [World.size_alloc] at e
    exact e
  have HC0 := Lib.hid hc0
  have HC1 := Lib.hid hc1
  have HBA := Lib.hid hba
  clear hba hc0 hc1 hu nu su hv hrv hr hn hT
  go_enter Tryz.func27, Tryz.ntmps27
  go_wp2_with (fail)
  generalize hW0 : World.alloc (World.alloc w _) _ = W0 at *
  clear hW0
  have k0 := fun g : Grown W0 => (HC0.out.grow g.h).c0
  have k1 := fun g : Grown W0 => (HC0.out.grow g.h).c1
  have k2 := fun g : Grown W0 => (HC0.out.grow g.h).c2
  dsimp only at k0 k1 k2
  refine region_pred_l (lk [(5, fun z_ _ => z_ = .pointer (some ⟨w.heap.size, 0, none⟩)), (6, fun z_ _ => z_ = (.slice pu l.length cu)), (7, fun z_ _ => z_ = .int .i64 deg), (8, fun z_ w' => ∃ r, z_ = .tuple #[r, .agg #[.int .i64 t0, .int .i64 t1]] ∧ Tx w' r T ∧ CapOk r), (9, fun z_ w' => Tx w' z_ T ∧ CapOk z_), (10, fun z_ _ => z_ = .agg #[.int .i64 t0, .int .i64 t1]), (11, fun z_ w' => ∃ r, z_ = plusV r t0 t1 ∧ Tx w' r T ∧ CapOk r), (12, fun z_ _ => z_ = .pointer (some ⟨w.heap.size, 1, none⟩)), (13, fun z_ _ => z_ = .agg #[.int .i64 a0, .int .i64 a1]), (14, fun z_ w' => Bx w' z_ [(a0, a1)]), (15, fun z_ w' => ∃ r, z_ = .agg #[r, .int .i64 n0, .int .i64 n1] ∧ Tx w' r N ∧ CapOk r)]) 11 _ rfl (by kernel_rfl) (by kernel_rfl) (by kernel_rfl) (lk_steady _ ⟨steady_eq _, steady_eq _, steady_eq _, fun u w1 w2 hb ⟨r, h1, h2, h3⟩ => ⟨r, h1, h2.grow hb, h3⟩, fun u w1 w2 hb ⟨h2, h3⟩ => ⟨h2.grow hb, h3⟩, steady_eq _, fun u w1 w2 hb ⟨r, h1, h2, h3⟩ => ⟨r, h1, h2.grow hb, h3⟩, steady_eq _, steady_eq _, fun u w1 w2 hb h => h.grow hb, fun u w1 w2 hb ⟨r, h1, h2, h3⟩ => ⟨r, h1, h2.grow hb, h3⟩, trivial⟩) ?_ ?_
  · refine ⟨?_, ?_, ?_, ?_, ?_, ?_, ?_, ?_, ?_, ?_, ?_, ?_, trivial⟩
    · intro _
      refine ob_plain [2] rfl rfl fun aa g h => ?_
      have yy0 := seen_out (v := .pointer (some ⟨w.heap.size, 0, none⟩)) rfl rfl h.1
      have ee0 := getD_of yy0
      exact tupon_value (v := .pointer (some ⟨w.heap.size, 0, none⟩)) (by simp [go_sem, ee0, yy0]) (Below.refl _ _) rfl
    · intro _
      refine ob_plain [5] rfl rfl fun aa g h => ?_
      obtain ⟨_, yy0, rfl⟩ := seen_in rfl h.1
      have ee0 := getD_of yy0
      exact tupon_value (v := (.slice pu l.length cu)) (by simp [go_sem, ee0, yy0, k0 g]) (Below.refl _ _) rfl
    · intro _
      refine ob_plain [1] rfl rfl fun aa g h => ?_
      have yy0 := seen_out (v := .int .i64 deg) rfl rfl h.1
      have ee0 := getD_of yy0
      exact tupon_value (v := .int .i64 deg) (by simp [go_sem, ee0, yy0]) (Below.refl _ _) rfl
    · intro _
      refine ob_plain [6, 7] rfl rfl fun aa g h => ?_
      obtain ⟨_, yy0, rfl⟩ := seen_in rfl h.1
      have ee0 := getD_of yy0
      obtain ⟨_, yy1, rfl⟩ := seen_in rfl h.2.1
      have ee1 := getD_of yy1
      refine tupon_enter (f := 70) (args := #[(.slice pu l.length cu), .int .i64 deg]) (by simp [go_sem, ee0, yy0, ee1, yy1]) rfl ?_
      exact (KT.out g.w (HU.out.grow (below_then HBA.out g.h))).mono fun e w' ⟨r, he, hx, hn, hB⟩ => ⟨_, he, hB, ⟨r, rfl, hx, hn.1⟩⟩
    · intro _
      refine ob_plain [8] rfl rfl fun aa g h => ?_
      obtain ⟨_, yy0, ⟨r8, rfl, tx8, cp8⟩⟩ := seen_in rfl h.1
      have ee0 := getD_of yy0
      exact tupon_value (v := r8) (by simp [go_sem, ee0, yy0]) (Below.refl _ _) ⟨tx8, cp8⟩
    · intro _
      refine ob_plain [8] rfl rfl fun aa g h => ?_
      obtain ⟨_, yy0, ⟨r8, rfl, tx8, cp8⟩⟩ := seen_in rfl h.1
      have ee0 := getD_of yy0
      exact tupon_value (v := .agg #[.int .i64 t0, .int .i64 t1]) (by simp [go_sem, ee0, yy0]) (Below.refl _ _) rfl
    · intro _
      refine ob_plain [9, 10] rfl rfl fun aa g h => ?_
      obtain ⟨v9, yy0, ⟨tx9, cp9⟩⟩ := seen_in rfl h.1
      have ee0 := getD_of yy0
      obtain ⟨_, yy1, rfl⟩ := seen_in rfl h.2.1
      have ee1 := getD_of yy1
      refine tupon_enter (f := 55) (args := #[v9, .agg #[.int .i64 t0, .int .i64 t1]]) (by simp [go_sem, ee0, yy0, ee1, yy1]) rfl ?_
      exact (wr_ok v9 t0 t1 g.w cp9).mono fun e w' ⟨he, hB⟩ => ⟨_, he, hB, ⟨_, rfl, tx9.grow hB, cp9⟩⟩
    · intro _
      refine ob_plain [2] rfl rfl fun aa g h => ?_
      have yy0 := seen_out (v := .pointer (some ⟨w.heap.size, 0, none⟩)) rfl rfl h.1
      have ee0 := getD_of yy0
      exact tupon_value (v := .pointer (some ⟨w.heap.size, 1, none⟩)) (by simp [go_sem, ee0, yy0]) (Below.refl _ _) rfl
    · intro _
      refine ob_plain [12] rfl rfl fun aa g h => ?_
      obtain ⟨_, yy0, rfl⟩ := seen_in rfl h.1
      have ee0 := getD_of yy0
      exact tupon_value (v := .agg #[.int .i64 a0, .int .i64 a1]) (by simp [go_sem, ee0, yy0, k1 g, k2 g]) (Below.refl _ _) rfl
    · intro _
      refine ob_plain [13] rfl rfl fun aa g h => ?_
      obtain ⟨_, yy0, rfl⟩ := seen_in rfl h.1
      have ee0 := getD_of yy0
      exact tupon_value (v := .slice (some ⟨g.w.heap.size, 0, none⟩) 1 1) (w1 := g.w.alloc (.cells #[.int .i64 a0, .int .i64 a1] 24)) (by simp [go_sem, ee0, yy0]) ((Below.refl _ _).alloc (Nat.le_refl _) _) (bx_l1 _ _ _ )
    · intro _
      refine ob_plain [11, 14] rfl rfl fun aa g h => ?_
      obtain ⟨_, yy0, ⟨r11, rfl, tx11, cp11⟩⟩ := seen_in rfl h.1
      have ee0 := getD_of yy0
      obtain ⟨v14, yy1, bx14⟩ := seen_in rfl h.2.1
      have ee1 := getD_of yy1
      refine tupon_enter (f := 96) (args := #[.agg #[r11, .int .i64 t0, .int .i64 t1], v14]) (by simp [go_sem, ee0, yy0, ee1, yy1, plusV]) rfl ?_
      exact (KP.out r11 v14 g.w tx11 cp11 bx14).mono fun e w' ⟨r, he, hx, hc, hB⟩ => ⟨_, he, hB, ⟨r, rfl, hx, hc⟩⟩
    · exact fun h => absurd rfl h
  rintro w5 hB5 _ rfl _ rfl _ rfl _ ⟨r8, rfl, tx8, cp8⟩ v9 ⟨tx9, cp9⟩ _ rfl _ ⟨r11, rfl, tx11, cp11⟩ _ rfl _ rfl v14 bx14 _ ⟨r15, rfl, tx15, cp15⟩
  simp only [Act.put, List.setIfInBounds_toArray, List.set_cons_succ, List.set_cons_zero]
  have hB6 := below_then HBA.out hB5
  have hR5 := HC1.out.grow hB5
  have q0 := hR5.c0
  have q1 := hR5.c1
  have q2 := hR5.c2
  have z0 := hR5.frozen 0
  have z1 := hR5.frozen 1
  have z2 := hR5.frozen 2
  dsimp only at q0 q1 q2
  have hne := hR5.lt
  obtain ⟨pr, nr, cr, rfl, hle, hnil⟩ := cp15
  have HX := Lib.hid tx15
  have HCP : Hid (CapOk (.slice pr nr cr)) := Lib.hid ⟨pr, nr, cr, rfl, hle, hnil⟩
  clear hle hnil
  refine ⟨_, by simp [go_sem, q0, q1, q2, z0, z1, z2]; rfl, ?_⟩
  clear k0 k1 k2
  go_wp2_with (fail)
  have hbe := ((hB6.setCell (p := ⟨w.heap.size + 1, 0, none⟩) (by dsimp only; omega) (.slice pr nr cr)).setCell (p := ⟨w.heap.size + 1, 1, none⟩) (by dsimp only; omega) (.int .i64 n0)).setCell (p := ⟨w.heap.size + 1, 2, none⟩) (by dsimp only; omega) (.int .i64 n1)
  refine bodyPost_ret (v := .agg #[.slice pr nr cr, .int .i64 n0, .int .i64 n1]) (by simp [results, Tryz.results27, go_sem, q0, q1, q2]) rfl ⟨_, rfl, ?_, HCP.out, hbe⟩
  exact tx_moff HX.out HTV.out hR5 _ _ _
set_option maxHeartbeats 16000000 in
theorem tadd_ok (u v : Value) (a0 a1 b0 b1 : Int) (l m : List Tm) (w : World) (hu : Tx w u l) (nu : ∀ t ∈ l, TV t ∧ Num t.1) (su : l.length ≤ 100) (hcu : CapOk u) (hv : Tx w v m) (nv : ∀ t ∈ m, TV t ∧ Num t.1) (sv : m.length ≤ 100) (hcv : CapOk v) (ha : VB2 (a0, a1)) (hb : VB2 (b0, b1)) :
    Calls Tryz.prog 17 #[.agg #[u, .int .i64 a0, .int .i64 a1], .agg #[v, .int .i64 b0, .int .i64 b1]] w fun e w' => ∃ r, e = .returned (.agg #[r, .int .i64 (addM (l, (a0, a1)) (m, (b0, b1))).2.1, .int .i64 (addM (l, (a0, a1)) (m, (b0, b1))).2.2]) ∧ Tx w' r (addM (l, (a0, a1)) (m, (b0, b1))).1 ∧ CapOk r ∧ Below w.heap.size w w' := by
  obtain ⟨pu, cu, rfl⟩ := hu.cut
  obtain ⟨pv, cv, rfl⟩ := hv.cut
  have hrv := merge_vb l m
  have HU := Lib.hid hu
  have HV := Lib.hid hv
  have mtv := merge_tv nu nv
  have mln := merge_len l m
  have s62 : ∀ {k : List Tm}, (∀ t ∈ k, TV t ∧ Num t.1) → ∀ t ∈ k, TV t ∧ Small62 t := fun h t ht => ⟨(h t ht).1, by have := (h t ht).2; unfold Num at this; unfold Small62; omega⟩
  have KT := Lib.hid (fun w h1 h2 => add_ok (.slice pu l.length cu) (.slice pv m.length cv) l m w h1 h2 hcu hcv (s62 nu) (s62 nv) mtv (by omega) (by omega))
  unfold addM
  dsimp only
  obtain ⟨⟨T, t0, t1⟩, hr⟩ : ∃ R, truncP (mergeP l m) 6 (0, 0) = R := ⟨_, rfl⟩
  rw [hr] at KT hrv ⊢
  dsimp only at KT hrv ⊢
  have hsv := addI2_vb ha hb
  have KA := Lib.hid (fun w => iv_add a0 a1 b0 b1 w ha hb)
  rw [show addI2 (a0, a1) (b0, b1) = (addLo a0 a1 b0 b1, addHi a0 a1 b0 b1) from rfl] at hsv ⊢
  obtain ⟨s0, h0⟩ : ∃ z, addLo a0 a1 b0 b1 = z := ⟨_, rfl⟩
  obtain ⟨s1, h1⟩ : ∃ z, addHi a0 a1 b0 b1 = z := ⟨_, rfl⟩
  rw [h0, h1] at KA hsv ⊢
  have KP := Lib.hid (fun (r v : Value) (w : World) h1 h2 h3 => tplus_ok r v t0 t1 T [(s0, s1)] w h1 h2 h3 hrv (by simpa using hsv))
  unfold foldA at KP
  simp only [List.foldl_cons, List.foldl_nil] at KP
  obtain ⟨⟨N, n0, n1⟩, hn⟩ : ∃ R, normM T (addI2 (t0, t1) (s0, s1)) = R := ⟨_, rfl⟩
  have hT : ∀ t ∈ T, TV t := fun t ht => truncP_tvY mtv t (by first | (rw [hr]; exact ht) | (unfold mulR at hr; rw [hr]; exact ht))
  have HTV : Hid (∀ t ∈ N, TV t) := Lib.hid (fun t ht => normM_tv hT t (by rw [hn]; exact ht))
  rw [hn] at KP ⊢
  dsimp only at KP ⊢
  have hba : Below w.heap.size w (((w.alloc (.cells #[(.slice pu l.length cu), .int .i64 a0, .int .i64 a1] 26)).alloc (.cells #[(.slice pv m.length cv), .int .i64 b0, .int .i64 b1] 26)).alloc (.cells #[.slice none 0 0, .int .i64 0, .int .i64 0] 26)) := ((((Below.refl _ _).alloc (Nat.le_refl _) _).alloc (by simp) _).alloc (by simp; omega) _)
  have hc0 : MoC (((w.alloc (.cells #[(.slice pu l.length cu), .int .i64 a0, .int .i64 a1] 26)).alloc (.cells #[(.slice pv m.length cv), .int .i64 b0, .int .i64 b1] 26)).alloc (.cells #[.slice none 0 0, .int .i64 0, .int .i64 0] 26)) (w.heap.size) ((.slice pu l.length cu)) (a0, a1) := by
    have e := MoC.new w (.slice pu l.length cu) a0 a1
    exact ((e.alloc _).alloc _)
  have hc1 : MoC (((w.alloc (.cells #[(.slice pu l.length cu), .int .i64 a0, .int .i64 a1] 26)).alloc (.cells #[(.slice pv m.length cv), .int .i64 b0, .int .i64 b1] 26)).alloc (.cells #[.slice none 0 0, .int .i64 0, .int .i64 0] 26)) (w.heap.size + 1) ((.slice pv m.length cv)) (b0, b1) := by
    have e := MoC.new (w.alloc (.cells #[(.slice pu l.length cu), .int .i64 a0, .int .i64 a1] 26)) (.slice pv m.length cv) b0 b1
    simp only [World.size_alloc] at e
    exact (e.alloc _)
  have hc2 : MoC (((w.alloc (.cells #[(.slice pu l.length cu), .int .i64 a0, .int .i64 a1] 26)).alloc (.cells #[(.slice pv m.length cv), .int .i64 b0, .int .i64 b1] 26)).alloc (.cells #[.slice none 0 0, .int .i64 0, .int .i64 0] 26)) (w.heap.size + 2) (.slice none 0 0) (0, 0) := by
    have e := MoC.new ((w.alloc (.cells #[(.slice pu l.length cu), .int .i64 a0, .int .i64 a1] 26)).alloc (.cells #[(.slice pv m.length cv), .int .i64 b0, .int .i64 b1] 26)) (.slice none 0 0) 0 0
    simp only [World.size_alloc] at e
    exact e
  have HC0 := Lib.hid hc0
  have HC1 := Lib.hid hc1
  have HC2 := Lib.hid hc2
  have HBA := Lib.hid hba
  clear hba hc0 hc1 hc2 hu nu su hv nv sv ha hb hrv hr hn mtv mln hsv h0 h1 s62 hT
  go_enter Tryz.func17, Tryz.ntmps17
  go_wp2_with (fail)
  generalize hW0 : World.alloc (World.alloc (World.alloc w _) _) _ = W0 at *
  clear hW0
  have k0 := fun g : Grown W0 => (HC0.out.grow g.h).c0
  have k1 := fun g : Grown W0 => (HC0.out.grow g.h).c1
  have k2 := fun g : Grown W0 => (HC0.out.grow g.h).c2
  dsimp only at k0 k1 k2
  have j0 := fun g : Grown W0 => (HC1.out.grow g.h).c0
  have j1 := fun g : Grown W0 => (HC1.out.grow g.h).c1
  have j2 := fun g : Grown W0 => (HC1.out.grow g.h).c2
  dsimp only at j0 j1 j2
  refine region_pred_l (lk [(5, fun z_ _ => z_ = .pointer (some ⟨w.heap.size, 0, none⟩)), (6, fun z_ _ => z_ = (.slice pu l.length cu)), (7, fun z_ _ => z_ = .pointer (some ⟨w.heap.size + 1, 0, none⟩)), (8, fun z_ _ => z_ = (.slice pv m.length cv)), (9, fun z_ w' => ∃ r, z_ = .tuple #[r, .agg #[.int .i64 t0, .int .i64 t1]] ∧ Tx w' r T ∧ CapOk r), (10, fun z_ w' => Tx w' z_ T ∧ CapOk z_), (11, fun z_ _ => z_ = .agg #[.int .i64 t0, .int .i64 t1]), (12, fun z_ w' => ∃ r, z_ = plusV r t0 t1 ∧ Tx w' r T ∧ CapOk r), (13, fun z_ _ => z_ = .pointer (some ⟨w.heap.size, 1, none⟩)), (14, fun z_ _ => z_ = .agg #[.int .i64 a0, .int .i64 a1]), (15, fun z_ _ => z_ = .pointer (some ⟨w.heap.size + 1, 1, none⟩)), (16, fun z_ _ => z_ = .agg #[.int .i64 b0, .int .i64 b1]), (17, fun z_ _ => z_ = .agg #[.int .i64 s0, .int .i64 s1]), (18, fun z_ w' => Bx w' z_ [(s0, s1)]), (19, fun z_ w' => ∃ r, z_ = .agg #[r, .int .i64 n0, .int .i64 n1] ∧ Tx w' r N ∧ CapOk r)]) 15 _ rfl (by kernel_rfl) (by kernel_rfl) (by kernel_rfl) (lk_steady _ ⟨steady_eq _, steady_eq _, steady_eq _, steady_eq _, fun u w1 w2 hb ⟨r, h1, h2, h3⟩ => ⟨r, h1, h2.grow hb, h3⟩, fun u w1 w2 hb ⟨h2, h3⟩ => ⟨h2.grow hb, h3⟩, steady_eq _, fun u w1 w2 hb ⟨r, h1, h2, h3⟩ => ⟨r, h1, h2.grow hb, h3⟩, steady_eq _, steady_eq _, steady_eq _, steady_eq _, steady_eq _, fun u w1 w2 hb h => h.grow hb, fun u w1 w2 hb ⟨r, h1, h2, h3⟩ => ⟨r, h1, h2.grow hb, h3⟩, trivial⟩) ?_ ?_
  · refine ⟨?_, ?_, ?_, ?_, ?_, ?_, ?_, ?_, ?_, ?_, ?_, ?_, ?_, ?_, ?_, ?_, trivial⟩
    · intro _
      refine ob_plain [2] rfl rfl fun aa g h => ?_
      have yy0 := seen_out (v := .pointer (some ⟨w.heap.size, 0, none⟩)) rfl rfl h.1
      have ee0 := getD_of yy0
      exact tupon_value (v := .pointer (some ⟨w.heap.size, 0, none⟩)) (by simp [go_sem, ee0, yy0]) (Below.refl _ _) rfl
    · intro _
      refine ob_plain [5] rfl rfl fun aa g h => ?_
      obtain ⟨_, yy0, rfl⟩ := seen_in rfl h.1
      have ee0 := getD_of yy0
      exact tupon_value (v := (.slice pu l.length cu)) (by simp [go_sem, ee0, yy0, k0 g]) (Below.refl _ _) rfl
    · intro _
      refine ob_plain [3] rfl rfl fun aa g h => ?_
      have yy0 := seen_out (v := .pointer (some ⟨w.heap.size + 1, 0, none⟩)) rfl rfl h.1
      have ee0 := getD_of yy0
      exact tupon_value (v := .pointer (some ⟨w.heap.size + 1, 0, none⟩)) (by simp [go_sem, ee0, yy0]) (Below.refl _ _) rfl
    · intro _
      refine ob_plain [7] rfl rfl fun aa g h => ?_
      obtain ⟨_, yy0, rfl⟩ := seen_in rfl h.1
      have ee0 := getD_of yy0
      exact tupon_value (v := (.slice pv m.length cv)) (by simp [go_sem, ee0, yy0, j0 g]) (Below.refl _ _) rfl
    · intro _
      refine ob_plain [6, 8] rfl rfl fun aa g h => ?_
      obtain ⟨_, yy0, rfl⟩ := seen_in rfl h.1
      have ee0 := getD_of yy0
      obtain ⟨_, yy1, rfl⟩ := seen_in rfl h.2.1
      have ee1 := getD_of yy1
      refine tupon_enter (f := 56) (args := #[(.slice pu l.length cu), (.slice pv m.length cv)]) (by simp [go_sem, ee0, yy0, ee1, yy1]) rfl ?_
      exact (KT.out g.w (HU.out.grow (below_then HBA.out g.h)) (HV.out.grow (below_then HBA.out g.h))).mono fun e w' ⟨r, he, hx, hn, hB⟩ => ⟨_, he, hB, ⟨r, rfl, hx, hn.1⟩⟩
    · intro _
      refine ob_plain [9] rfl rfl fun aa g h => ?_
      obtain ⟨_, yy0, ⟨r9, rfl, tx9, cp9⟩⟩ := seen_in rfl h.1
      have ee0 := getD_of yy0
      exact tupon_value (v := r9) (by simp [go_sem, ee0, yy0]) (Below.refl _ _) ⟨tx9, cp9⟩
    · intro _
      refine ob_plain [9] rfl rfl fun aa g h => ?_
      obtain ⟨_, yy0, ⟨r9, rfl, tx9, cp9⟩⟩ := seen_in rfl h.1
      have ee0 := getD_of yy0
      exact tupon_value (v := .agg #[.int .i64 t0, .int .i64 t1]) (by simp [go_sem, ee0, yy0]) (Below.refl _ _) rfl
    · intro _
      refine ob_plain [10, 11] rfl rfl fun aa g h => ?_
      obtain ⟨v10, yy0, ⟨tx10, cp10⟩⟩ := seen_in rfl h.1
      have ee0 := getD_of yy0
      obtain ⟨_, yy1, rfl⟩ := seen_in rfl h.2.1
      have ee1 := getD_of yy1
      refine tupon_enter (f := 55) (args := #[v10, .agg #[.int .i64 t0, .int .i64 t1]]) (by simp [go_sem, ee0, yy0, ee1, yy1]) rfl ?_
      exact (wr_ok v10 t0 t1 g.w cp10).mono fun e w' ⟨he, hB⟩ => ⟨_, he, hB, ⟨_, rfl, tx10.grow hB, cp10⟩⟩
    · intro _
      refine ob_plain [2] rfl rfl fun aa g h => ?_
      have yy0 := seen_out (v := .pointer (some ⟨w.heap.size, 0, none⟩)) rfl rfl h.1
      have ee0 := getD_of yy0
      exact tupon_value (v := .pointer (some ⟨w.heap.size, 1, none⟩)) (by simp [go_sem, ee0, yy0]) (Below.refl _ _) rfl
    · intro _
      refine ob_plain [13] rfl rfl fun aa g h => ?_
      obtain ⟨_, yy0, rfl⟩ := seen_in rfl h.1
      have ee0 := getD_of yy0
      exact tupon_value (v := .agg #[.int .i64 a0, .int .i64 a1]) (by simp [go_sem, ee0, yy0, k1 g, k2 g]) (Below.refl _ _) rfl
    · intro _
      refine ob_plain [3] rfl rfl fun aa g h => ?_
      have yy0 := seen_out (v := .pointer (some ⟨w.heap.size + 1, 0, none⟩)) rfl rfl h.1
      have ee0 := getD_of yy0
      exact tupon_value (v := .pointer (some ⟨w.heap.size + 1, 1, none⟩)) (by simp [go_sem, ee0, yy0]) (Below.refl _ _) rfl
    · intro _
      refine ob_plain [15] rfl rfl fun aa g h => ?_
      obtain ⟨_, yy0, rfl⟩ := seen_in rfl h.1
      have ee0 := getD_of yy0
      exact tupon_value (v := .agg #[.int .i64 b0, .int .i64 b1]) (by simp [go_sem, ee0, yy0, j1 g, j2 g]) (Below.refl _ _) rfl
    · intro _
      refine ob_plain [14, 16] rfl rfl fun aa g h => ?_
      obtain ⟨_, yy0, rfl⟩ := seen_in rfl h.1
      have ee0 := getD_of yy0
      obtain ⟨_, yy1, rfl⟩ := seen_in rfl h.2.1
      have ee1 := getD_of yy1
      refine tupon_enter (f := 57) (args := #[.agg #[.int .i64 a0, .int .i64 a1], .agg #[.int .i64 b0, .int .i64 b1]]) (by simp [go_sem, ee0, yy0, ee1, yy1]) rfl ?_
      exact (KA.out g.w).mono fun e w' ⟨he, hB⟩ => ⟨_, he, hB, rfl⟩
    · intro _
      refine ob_plain [17] rfl rfl fun aa g h => ?_
      obtain ⟨_, yy0, rfl⟩ := seen_in rfl h.1
      have ee0 := getD_of yy0
      exact tupon_value (v := .slice (some ⟨g.w.heap.size, 0, none⟩) 1 1) (w1 := g.w.alloc (.cells #[.int .i64 s0, .int .i64 s1] 24)) (by simp [go_sem, ee0, yy0]) ((Below.refl _ _).alloc (Nat.le_refl _) _) (bx_l1 _ _ _ )
    · intro _
      refine ob_plain [12, 18] rfl rfl fun aa g h => ?_
      obtain ⟨_, yy0, ⟨r12, rfl, tx12, cp12⟩⟩ := seen_in rfl h.1
      have ee0 := getD_of yy0
      obtain ⟨v18, yy1, bx18⟩ := seen_in rfl h.2.1
      have ee1 := getD_of yy1
      refine tupon_enter (f := 96) (args := #[.agg #[r12, .int .i64 t0, .int .i64 t1], v18]) (by simp [go_sem, ee0, yy0, ee1, yy1, plusV]) rfl ?_
      exact (KP.out r12 v18 g.w tx12 cp12 bx18).mono fun e w' ⟨r, he, hx, hc, hB⟩ => ⟨_, he, hB, ⟨r, rfl, hx, hc⟩⟩
    · exact fun h => absurd rfl h
  rintro w5 hB5 _ rfl _ rfl _ rfl _ rfl _ ⟨r9, rfl, tx9, cp9⟩ v10 ⟨tx10, cp10⟩ _ rfl _ ⟨r12, rfl, tx12, cp12⟩ _ rfl _ rfl _ rfl _ rfl _ rfl v18 bx18 _ ⟨r19, rfl, tx19, cp19⟩
  simp only [Act.put, List.setIfInBounds_toArray, List.set_cons_succ, List.set_cons_zero]
  have hB6 := below_then HBA.out hB5
  have hR5 := HC2.out.grow hB5
  have q0 := hR5.c0
  have q1 := hR5.c1
  have q2 := hR5.c2
  have z0 := hR5.frozen 0
  have z1 := hR5.frozen 1
  have z2 := hR5.frozen 2
  dsimp only at q0 q1 q2
  have hne := hR5.lt
  obtain ⟨pr, nr, cr, rfl, hle, hnil⟩ := cp19
  have HX := Lib.hid tx19
  have HCP : Hid (CapOk (.slice pr nr cr)) := Lib.hid ⟨pr, nr, cr, rfl, hle, hnil⟩
  clear hle hnil
  refine ⟨_, by simp [go_sem, q0, q1, q2, z0, z1, z2]; rfl, ?_⟩
  clear k0 k1 k2 j0 j1 j2
  go_wp2_with (fail)
  have hbe := ((hB6.setCell (p := ⟨w.heap.size + 2, 0, none⟩) (by dsimp only; omega) (.slice pr nr cr)).setCell (p := ⟨w.heap.size + 2, 1, none⟩) (by dsimp only; omega) (.int .i64 n0)).setCell (p := ⟨w.heap.size + 2, 2, none⟩) (by dsimp only; omega) (.int .i64 n1)
  refine bodyPost_ret (v := .agg #[.slice pr nr cr, .int .i64 n0, .int .i64 n1]) (by simp [results, Tryz.results17, go_sem, q0, q1, q2]) rfl ⟨_, rfl, ?_, HCP.out, hbe⟩
  exact tx_moff HX.out HTV.out hR5 _ _ _
set_option maxHeartbeats 32000000 in
theorem tmul_ok (u v : Value) (a0 a1 b0 b1 deg : Int) (l m : List Tm) (w : World) (hu : Tx w u l) (nu : ∀ t ∈ l, TV t ∧ Num t.1) (su : l.length ≤ 100) (hv : Tx w v m) (nv : ∀ t ∈ m, TV t ∧ Num t.1) (sv : m.length ≤ 100) (ha : VB2 (a0, a1)) (hb : VB2 (b0, b1)) :
    Calls Tryz.prog 23 #[.agg #[u, .int .i64 a0, .int .i64 a1], .agg #[v, .int .i64 b0, .int .i64 b1], .int .i64 deg] w fun e w' => ∃ r, e = .returned (.agg #[r, .int .i64 (mulM (l, (a0, a1)) (m, (b0, b1)) deg).2.1, .int .i64 (mulM (l, (a0, a1)) (m, (b0, b1)) deg).2.2]) ∧ Tx w' r (mulM (l, (a0, a1)) (m, (b0, b1)) deg).1 ∧ CapOk r ∧ Below w.heap.size w w' := by
  obtain ⟨pu, cu, rfl⟩ := hu.cut
  obtain ⟨pv, cv, rfl⟩ := hv.cut
  have hrv := mulR_vb l m deg
  have HU := Lib.hid hu
  have HV := Lib.hid hv
  have KT := Lib.hid (fun w h1 h2 => mul_ok (.slice pu l.length cu) (.slice pv m.length cv) l m deg w h1 h2 nu nv (Nat.le_trans (Nat.mul_le_mul su sv) (by decide)))
  have KL := Lib.hid (fun w h => range_ok (.slice pu l.length cu) l w h nu (by omega))
  have KM := Lib.hid (fun w h => range_ok (.slice pv m.length cv) m w h nv (by omega))
  have hlv := rng_vb (l := l) fun t ht => (nu t ht).2
  have hmv := rng_vb (l := m) fun t ht => (nv t ht).2
  unfold mulM
  unfold rngP at hlv hmv ⊢
  dsimp only
  obtain ⟨⟨T, t0, t1⟩, hr⟩ : ∃ R, mulR l m deg = R := ⟨_, rfl⟩
  rw [hr] at KT hrv ⊢
  obtain ⟨⟨l0, l1⟩, hl⟩ : ∃ R, newR (sumR l) = R := ⟨_, rfl⟩
  rw [hl] at KL hlv ⊢
  obtain ⟨⟨m0, m1⟩, hm⟩ : ∃ R, newR (sumR m) = R := ⟨_, rfl⟩
  rw [hm] at KM hmv ⊢
  dsimp only at KT hrv KL KM ⊢
  have v1 := mulI2_vb (l0, l1) (b0, b1)
  have v2 := mulI2_vb (m0, m1) (a0, a1)
  have v3 := mulI2_vb (a0, a1) (b0, b1)
  have K1 := Lib.hid (fun w => iv_mul l0 l1 b0 b1 w hlv hb)
  have K2 := Lib.hid (fun w => iv_mul m0 m1 a0 a1 w hmv ha)
  have K3 := Lib.hid (fun w => iv_mul a0 a1 b0 b1 w ha hb)
  unfold mulI2 at v1 v2 v3 ⊢
  dsimp only at v1 v2 v3 ⊢
  obtain ⟨x0, h0⟩ : ∃ z, mulLo l0 l1 b0 b1 = z := ⟨_, rfl⟩
  obtain ⟨x1, h1⟩ : ∃ z, mulHi l0 l1 b0 b1 = z := ⟨_, rfl⟩
  obtain ⟨y0, h2⟩ : ∃ z, mulLo m0 m1 a0 a1 = z := ⟨_, rfl⟩
  obtain ⟨y1, h3⟩ : ∃ z, mulHi m0 m1 a0 a1 = z := ⟨_, rfl⟩
  obtain ⟨z0, h4⟩ : ∃ z, mulLo a0 a1 b0 b1 = z := ⟨_, rfl⟩
  obtain ⟨z1, h5⟩ : ∃ z, mulHi a0 a1 b0 b1 = z := ⟨_, rfl⟩
  rw [h0, h1] at K1 v1
  rw [h2, h3] at K2 v2
  rw [h4, h5] at K3 v3
  rw [h0, h1, h2, h3, h4, h5]
  have KP := Lib.hid (fun (r v : Value) (w : World) h1 h2 h3 => tplus_ok r v t0 t1 T [(x0, x1), (y0, y1), (z0, z1)] w h1 h2 h3 hrv (by
    intro q hq
    simp only [List.mem_cons, List.not_mem_nil, or_false] at hq
    rcases hq with rfl | rfl | rfl
    · exact v1
    · exact v2
    · exact v3))
  unfold foldA at KP
  simp only [List.foldl_cons, List.foldl_nil] at KP
  obtain ⟨⟨N, n0, n1⟩, hn⟩ : ∃ R, normM T (addI2 (addI2 (addI2 (t0, t1) (x0, x1)) (y0, y1)) (z0, z1)) = R := ⟨_, rfl⟩
  have hT : ∀ t ∈ T, TV t := fun t ht => truncP_tvY (mulP_tv nu nv (Nat.le_trans (Nat.mul_le_mul su sv) (by decide))) t (by first | (rw [hr]; exact ht) | (unfold mulR at hr; rw [hr]; exact ht))
  have HTV : Hid (∀ t ∈ N, TV t) := Lib.hid (fun t ht => normM_tv hT t (by rw [hn]; exact ht))
  rw [hn] at KP ⊢
  dsimp only at KP ⊢
  have hba : Below w.heap.size w (((w.alloc (.cells #[(.slice pu l.length cu), .int .i64 a0, .int .i64 a1] 26)).alloc (.cells #[(.slice pv m.length cv), .int .i64 b0, .int .i64 b1] 26)).alloc (.cells #[.slice none 0 0, .int .i64 0, .int .i64 0] 26)) := ((((Below.refl _ _).alloc (Nat.le_refl _) _).alloc (by simp) _).alloc (by simp; omega) _)
  have hc0 : MoC (((w.alloc (.cells #[(.slice pu l.length cu), .int .i64 a0, .int .i64 a1] 26)).alloc (.cells #[(.slice pv m.length cv), .int .i64 b0, .int .i64 b1] 26)).alloc (.cells #[.slice none 0 0, .int .i64 0, .int .i64 0] 26)) (w.heap.size) ((.slice pu l.length cu)) (a0, a1) := by
    have e := MoC.new w (.slice pu l.length cu) a0 a1
    exact ((e.alloc _).alloc _)
  have hc1 : MoC (((w.alloc (.cells #[(.slice pu l.length cu), .int .i64 a0, .int .i64 a1] 26)).alloc (.cells #[(.slice pv m.length cv), .int .i64 b0, .int .i64 b1] 26)).alloc (.cells #[.slice none 0 0, .int .i64 0, .int .i64 0] 26)) (w.heap.size + 1) ((.slice pv m.length cv)) (b0, b1) := by
    have e := MoC.new (w.alloc (.cells #[(.slice pu l.length cu), .int .i64 a0, .int .i64 a1] 26)) (.slice pv m.length cv) b0 b1
    simp only [World.size_alloc] at e
    exact (e.alloc _)
  have hc2 : MoC (((w.alloc (.cells #[(.slice pu l.length cu), .int .i64 a0, .int .i64 a1] 26)).alloc (.cells #[(.slice pv m.length cv), .int .i64 b0, .int .i64 b1] 26)).alloc (.cells #[.slice none 0 0, .int .i64 0, .int .i64 0] 26)) (w.heap.size + 2) (.slice none 0 0) (0, 0) := by
    have e := MoC.new ((w.alloc (.cells #[(.slice pu l.length cu), .int .i64 a0, .int .i64 a1] 26)).alloc (.cells #[(.slice pv m.length cv), .int .i64 b0, .int .i64 b1] 26)) (.slice none 0 0) 0 0
    simp only [World.size_alloc] at e
    exact e
  have HC0 := Lib.hid hc0
  have HC1 := Lib.hid hc1
  have HC2 := Lib.hid hc2
  have HBA := Lib.hid hba
  clear hba hc0 hc1 hc2 hu nu su hv nv sv ha hb hrv hr hn hlv hmv hl hm v1 v2 v3 h0 h1 h2 h3 h4 h5 hT
  go_enter Tryz.func23, Tryz.ntmps23
  go_wp2_with (fail)
  generalize hW0 : World.alloc (World.alloc (World.alloc w _) _) _ = W0 at *
  clear hW0
  have k0 := fun g : Grown W0 => (HC0.out.grow g.h).c0
  have k1 := fun g : Grown W0 => (HC0.out.grow g.h).c1
  have k2 := fun g : Grown W0 => (HC0.out.grow g.h).c2
  dsimp only at k0 k1 k2
  have j0 := fun g : Grown W0 => (HC1.out.grow g.h).c0
  have j1 := fun g : Grown W0 => (HC1.out.grow g.h).c1
  have j2 := fun g : Grown W0 => (HC1.out.grow g.h).c2
  dsimp only at j0 j1 j2
  refine region_pred_l (lk [(7, fun z_ _ => z_ = .pointer (some ⟨w.heap.size, 0, none⟩)), (8, fun z_ _ => z_ = (.slice pu l.length cu)), (9, fun z_ _ => z_ = .pointer (some ⟨w.heap.size + 1, 0, none⟩)), (10, fun z_ _ => z_ = (.slice pv m.length cv)), (11, fun z_ _ => z_ = .int .i64 deg), (12, fun z_ w' => ∃ r, z_ = .tuple #[r, .agg #[.int .i64 t0, .int .i64 t1]] ∧ Tx w' r T ∧ CapOk r), (13, fun z_ w' => Tx w' z_ T ∧ CapOk z_), (14, fun z_ _ => z_ = .agg #[.int .i64 t0, .int .i64 t1]), (15, fun z_ w' => ∃ r, z_ = plusV r t0 t1 ∧ Tx w' r T ∧ CapOk r), (16, fun z_ _ => z_ = .pointer (some ⟨w.heap.size, 0, none⟩)), (17, fun z_ _ => z_ = (.slice pu l.length cu)), (18, fun z_ _ => z_ = .agg #[.int .i64 l0, .int .i64 l1]), (19, fun z_ _ => z_ = .pointer (some ⟨w.heap.size + 1, 1, none⟩)), (20, fun z_ _ => z_ = .agg #[.int .i64 b0, .int .i64 b1]), (21, fun z_ _ => z_ = .agg #[.int .i64 x0, .int .i64 x1]), (22, fun z_ _ => z_ = .pointer (some ⟨w.heap.size + 1, 0, none⟩)), (23, fun z_ _ => z_ = (.slice pv m.length cv)), (24, fun z_ _ => z_ = .agg #[.int .i64 m0, .int .i64 m1]), (25, fun z_ _ => z_ = .pointer (some ⟨w.heap.size, 1, none⟩)), (26, fun z_ _ => z_ = .agg #[.int .i64 a0, .int .i64 a1]), (27, fun z_ _ => z_ = .agg #[.int .i64 y0, .int .i64 y1]), (28, fun z_ _ => z_ = .pointer (some ⟨w.heap.size, 1, none⟩)), (29, fun z_ _ => z_ = .agg #[.int .i64 a0, .int .i64 a1]), (30, fun z_ _ => z_ = .pointer (some ⟨w.heap.size + 1, 1, none⟩)), (31, fun z_ _ => z_ = .agg #[.int .i64 b0, .int .i64 b1]), (32, fun z_ _ => z_ = .agg #[.int .i64 z0, .int .i64 z1]), (33, fun z_ w' => Bx w' z_ [(x0, x1), (y0, y1), (z0, z1)]), (34, fun z_ w' => ∃ r, z_ = .agg #[r, .int .i64 n0, .int .i64 n1] ∧ Tx w' r N ∧ CapOk r)]) 28 _ rfl (by kernel_rfl) (by kernel_rfl) (by kernel_rfl) (lk_steady _ ⟨steady_eq _, steady_eq _, steady_eq _, steady_eq _, steady_eq _, fun u w1 w2 hb ⟨r, h1, h2, h3⟩ => ⟨r, h1, h2.grow hb, h3⟩, fun u w1 w2 hb ⟨h2, h3⟩ => ⟨h2.grow hb, h3⟩, steady_eq _, fun u w1 w2 hb ⟨r, h1, h2, h3⟩ => ⟨r, h1, h2.grow hb, h3⟩, steady_eq _, steady_eq _, steady_eq _, steady_eq _, steady_eq _, steady_eq _, steady_eq _, steady_eq _, steady_eq _, steady_eq _, steady_eq _, steady_eq _, steady_eq _, steady_eq _, steady_eq _, steady_eq _, steady_eq _, fun u w1 w2 hb h => h.grow hb, fun u w1 w2 hb ⟨r, h1, h2, h3⟩ => ⟨r, h1, h2.grow hb, h3⟩, trivial⟩) ?_ ?_
  · refine ⟨?_, ?_, ?_, ?_, ?_, ?_, ?_, ?_, ?_, ?_, ?_, ?_, ?_, ?_, ?_, ?_, ?_, ?_, ?_, ?_, ?_, ?_, ?_, ?_, ?_, ?_, ?_, ?_, ?_, trivial⟩
    · intro _
      refine ob_plain [3] rfl rfl fun aa g h => ?_
      have yy0 := seen_out (v := .pointer (some ⟨w.heap.size, 0, none⟩)) rfl rfl h.1
      have ee0 := getD_of yy0
      exact tupon_value (v := .pointer (some ⟨w.heap.size, 0, none⟩)) (by simp [go_sem, ee0, yy0]) (Below.refl _ _) rfl
    · intro _
      refine ob_plain [7] rfl rfl fun aa g h => ?_
      obtain ⟨_, yy0, rfl⟩ := seen_in rfl h.1
      have ee0 := getD_of yy0
      exact tupon_value (v := (.slice pu l.length cu)) (by simp [go_sem, ee0, yy0, k0 g]) (Below.refl _ _) rfl
    · intro _
      refine ob_plain [4] rfl rfl fun aa g h => ?_
      have yy0 := seen_out (v := .pointer (some ⟨w.heap.size + 1, 0, none⟩)) rfl rfl h.1
      have ee0 := getD_of yy0
      exact tupon_value (v := .pointer (some ⟨w.heap.size + 1, 0, none⟩)) (by simp [go_sem, ee0, yy0]) (Below.refl _ _) rfl
    · intro _
      refine ob_plain [9] rfl rfl fun aa g h => ?_
      obtain ⟨_, yy0, rfl⟩ := seen_in rfl h.1
      have ee0 := getD_of yy0
      exact tupon_value (v := (.slice pv m.length cv)) (by simp [go_sem, ee0, yy0, j0 g]) (Below.refl _ _) rfl
    · intro _
      refine ob_plain [2] rfl rfl fun aa g h => ?_
      have yy0 := seen_out (v := .int .i64 deg) rfl rfl h.1
      have ee0 := getD_of yy0
      exact tupon_value (v := .int .i64 deg) (by simp [go_sem, ee0, yy0]) (Below.refl _ _) rfl
    · intro _
      refine ob_plain [8, 10, 11] rfl rfl fun aa g h => ?_
      obtain ⟨_, yy0, rfl⟩ := seen_in rfl h.1
      have ee0 := getD_of yy0
      obtain ⟨_, yy1, rfl⟩ := seen_in rfl h.2.1
      have ee1 := getD_of yy1
      obtain ⟨_, yy2, rfl⟩ := seen_in rfl h.2.2.1
      have ee2 := getD_of yy2
      refine tupon_enter (f := 64) (args := #[(.slice pu l.length cu), (.slice pv m.length cv), .int .i64 deg]) (by simp [go_sem, ee0, yy0, ee1, yy1, ee2, yy2]) rfl ?_
      exact (KT.out g.w (HU.out.grow (below_then HBA.out g.h)) (HV.out.grow (below_then HBA.out g.h))).mono fun e w' ⟨r, he, hx, hn, hB⟩ => ⟨_, he, hB, ⟨r, rfl, hx, hn.1⟩⟩
    · intro _
      refine ob_plain [12] rfl rfl fun aa g h => ?_
      obtain ⟨_, yy0, ⟨r12, rfl, tx12, cp12⟩⟩ := seen_in rfl h.1
      have ee0 := getD_of yy0
      exact tupon_value (v := r12) (by simp [go_sem, ee0, yy0]) (Below.refl _ _) ⟨tx12, cp12⟩
    · intro _
      refine ob_plain [12] rfl rfl fun aa g h => ?_
      obtain ⟨_, yy0, ⟨r12, rfl, tx12, cp12⟩⟩ := seen_in rfl h.1
      have ee0 := getD_of yy0
      exact tupon_value (v := .agg #[.int .i64 t0, .int .i64 t1]) (by simp [go_sem, ee0, yy0]) (Below.refl _ _) rfl
    · intro _
      refine ob_plain [13, 14] rfl rfl fun aa g h => ?_
      obtain ⟨v13, yy0, ⟨tx13, cp13⟩⟩ := seen_in rfl h.1
      have ee0 := getD_of yy0
      obtain ⟨_, yy1, rfl⟩ := seen_in rfl h.2.1
      have ee1 := getD_of yy1
      refine tupon_enter (f := 55) (args := #[v13, .agg #[.int .i64 t0, .int .i64 t1]]) (by simp [go_sem, ee0, yy0, ee1, yy1]) rfl ?_
      exact (wr_ok v13 t0 t1 g.w cp13).mono fun e w' ⟨he, hB⟩ => ⟨_, he, hB, ⟨_, rfl, tx13.grow hB, cp13⟩⟩
    · intro _
      refine ob_plain [3] rfl rfl fun aa g h => ?_
      have yy0 := seen_out (v := .pointer (some ⟨w.heap.size, 0, none⟩)) rfl rfl h.1
      have ee0 := getD_of yy0
      exact tupon_value (v := .pointer (some ⟨w.heap.size, 0, none⟩)) (by simp [go_sem, ee0, yy0]) (Below.refl _ _) rfl
    · intro _
      refine ob_plain [16] rfl rfl fun aa g h => ?_
      obtain ⟨_, yy0, rfl⟩ := seen_in rfl h.1
      have ee0 := getD_of yy0
      exact tupon_value (v := (.slice pu l.length cu)) (by simp [go_sem, ee0, yy0, k0 g]) (Below.refl _ _) rfl
    · intro _
      refine ob_plain [17] rfl rfl fun aa g h => ?_
      obtain ⟨_, yy0, rfl⟩ := seen_in rfl h.1
      have ee0 := getD_of yy0
      refine tupon_enter (f := 66) (args := #[(.slice pu l.length cu)]) (by simp [go_sem, ee0, yy0]) rfl ?_
      exact (KL.out g.w (HU.out.grow (below_then HBA.out g.h))).mono fun e w' ⟨he, hB⟩ => ⟨_, he, hB, rfl⟩
    · intro _
      refine ob_plain [4] rfl rfl fun aa g h => ?_
      have yy0 := seen_out (v := .pointer (some ⟨w.heap.size + 1, 0, none⟩)) rfl rfl h.1
      have ee0 := getD_of yy0
      exact tupon_value (v := .pointer (some ⟨w.heap.size + 1, 1, none⟩)) (by simp [go_sem, ee0, yy0]) (Below.refl _ _) rfl
    · intro _
      refine ob_plain [19] rfl rfl fun aa g h => ?_
      obtain ⟨_, yy0, rfl⟩ := seen_in rfl h.1
      have ee0 := getD_of yy0
      exact tupon_value (v := .agg #[.int .i64 b0, .int .i64 b1]) (by simp [go_sem, ee0, yy0, j1 g, j2 g]) (Below.refl _ _) rfl
    · intro _
      refine ob_plain [18, 20] rfl rfl fun aa g h => ?_
      obtain ⟨_, yy0, rfl⟩ := seen_in rfl h.1
      have ee0 := getD_of yy0
      obtain ⟨_, yy1, rfl⟩ := seen_in rfl h.2.1
      have ee1 := getD_of yy1
      refine tupon_enter (f := 65) (args := #[.agg #[.int .i64 l0, .int .i64 l1], .agg #[.int .i64 b0, .int .i64 b1]]) (by simp [go_sem, ee0, yy0, ee1, yy1]) rfl ?_
      exact (K1.out g.w).mono fun e w' ⟨he, hB⟩ => ⟨_, he, hB, rfl⟩
    · intro _
      refine ob_plain [4] rfl rfl fun aa g h => ?_
      have yy0 := seen_out (v := .pointer (some ⟨w.heap.size + 1, 0, none⟩)) rfl rfl h.1
      have ee0 := getD_of yy0
      exact tupon_value (v := .pointer (some ⟨w.heap.size + 1, 0, none⟩)) (by simp [go_sem, ee0, yy0]) (Below.refl _ _) rfl
    · intro _
      refine ob_plain [22] rfl rfl fun aa g h => ?_
      obtain ⟨_, yy0, rfl⟩ := seen_in rfl h.1
      have ee0 := getD_of yy0
      exact tupon_value (v := (.slice pv m.length cv)) (by simp [go_sem, ee0, yy0, j0 g]) (Below.refl _ _) rfl
    · intro _
      refine ob_plain [23] rfl rfl fun aa g h => ?_
      obtain ⟨_, yy0, rfl⟩ := seen_in rfl h.1
      have ee0 := getD_of yy0
      refine tupon_enter (f := 66) (args := #[(.slice pv m.length cv)]) (by simp [go_sem, ee0, yy0]) rfl ?_
      exact (KM.out g.w (HV.out.grow (below_then HBA.out g.h))).mono fun e w' ⟨he, hB⟩ => ⟨_, he, hB, rfl⟩
    · intro _
      refine ob_plain [3] rfl rfl fun aa g h => ?_
      have yy0 := seen_out (v := .pointer (some ⟨w.heap.size, 0, none⟩)) rfl rfl h.1
      have ee0 := getD_of yy0
      exact tupon_value (v := .pointer (some ⟨w.heap.size, 1, none⟩)) (by simp [go_sem, ee0, yy0]) (Below.refl _ _) rfl
    · intro _
      refine ob_plain [25] rfl rfl fun aa g h => ?_
      obtain ⟨_, yy0, rfl⟩ := seen_in rfl h.1
      have ee0 := getD_of yy0
      exact tupon_value (v := .agg #[.int .i64 a0, .int .i64 a1]) (by simp [go_sem, ee0, yy0, k1 g, k2 g]) (Below.refl _ _) rfl
    · intro _
      refine ob_plain [24, 26] rfl rfl fun aa g h => ?_
      obtain ⟨_, yy0, rfl⟩ := seen_in rfl h.1
      have ee0 := getD_of yy0
      obtain ⟨_, yy1, rfl⟩ := seen_in rfl h.2.1
      have ee1 := getD_of yy1
      refine tupon_enter (f := 65) (args := #[.agg #[.int .i64 m0, .int .i64 m1], .agg #[.int .i64 a0, .int .i64 a1]]) (by simp [go_sem, ee0, yy0, ee1, yy1]) rfl ?_
      exact (K2.out g.w).mono fun e w' ⟨he, hB⟩ => ⟨_, he, hB, rfl⟩
    · intro _
      refine ob_plain [3] rfl rfl fun aa g h => ?_
      have yy0 := seen_out (v := .pointer (some ⟨w.heap.size, 0, none⟩)) rfl rfl h.1
      have ee0 := getD_of yy0
      exact tupon_value (v := .pointer (some ⟨w.heap.size, 1, none⟩)) (by simp [go_sem, ee0, yy0]) (Below.refl _ _) rfl
    · intro _
      refine ob_plain [28] rfl rfl fun aa g h => ?_
      obtain ⟨_, yy0, rfl⟩ := seen_in rfl h.1
      have ee0 := getD_of yy0
      exact tupon_value (v := .agg #[.int .i64 a0, .int .i64 a1]) (by simp [go_sem, ee0, yy0, k1 g, k2 g]) (Below.refl _ _) rfl
    · intro _
      refine ob_plain [4] rfl rfl fun aa g h => ?_
      have yy0 := seen_out (v := .pointer (some ⟨w.heap.size + 1, 0, none⟩)) rfl rfl h.1
      have ee0 := getD_of yy0
      exact tupon_value (v := .pointer (some ⟨w.heap.size + 1, 1, none⟩)) (by simp [go_sem, ee0, yy0]) (Below.refl _ _) rfl
    · intro _
      refine ob_plain [30] rfl rfl fun aa g h => ?_
      obtain ⟨_, yy0, rfl⟩ := seen_in rfl h.1
      have ee0 := getD_of yy0
      exact tupon_value (v := .agg #[.int .i64 b0, .int .i64 b1]) (by simp [go_sem, ee0, yy0, j1 g, j2 g]) (Below.refl _ _) rfl
    · intro _
      refine ob_plain [29, 31] rfl rfl fun aa g h => ?_
      obtain ⟨_, yy0, rfl⟩ := seen_in rfl h.1
      have ee0 := getD_of yy0
      obtain ⟨_, yy1, rfl⟩ := seen_in rfl h.2.1
      have ee1 := getD_of yy1
      refine tupon_enter (f := 65) (args := #[.agg #[.int .i64 a0, .int .i64 a1], .agg #[.int .i64 b0, .int .i64 b1]]) (by simp [go_sem, ee0, yy0, ee1, yy1]) rfl ?_
      exact (K3.out g.w).mono fun e w' ⟨he, hB⟩ => ⟨_, he, hB, rfl⟩
    · intro _
      refine ob_plain [21, 27, 32] rfl rfl fun aa g h => ?_
      obtain ⟨_, yy0, rfl⟩ := seen_in rfl h.1
      have ee0 := getD_of yy0
      obtain ⟨_, yy1, rfl⟩ := seen_in rfl h.2.1
      have ee1 := getD_of yy1
      obtain ⟨_, yy2, rfl⟩ := seen_in rfl h.2.2.1
      have ee2 := getD_of yy2
      exact tupon_value (v := .slice (some ⟨g.w.heap.size, 0, none⟩) 3 3) (w1 := g.w.alloc (.cells #[.int .i64 x0, .int .i64 x1, .int .i64 y0, .int .i64 y1, .int .i64 z0, .int .i64 z1] 24)) (by simp [go_sem, ee0, yy0, ee1, yy1, ee2, yy2]) ((Below.refl _ _).alloc (Nat.le_refl _) _) (bx_l3 _ _ _ _ _ _ _ )
    · intro _
      refine ob_plain [15, 33] rfl rfl fun aa g h => ?_
      obtain ⟨_, yy0, ⟨r15, rfl, tx15, cp15⟩⟩ := seen_in rfl h.1
      have ee0 := getD_of yy0
      obtain ⟨v33, yy1, bx33⟩ := seen_in rfl h.2.1
      have ee1 := getD_of yy1
      refine tupon_enter (f := 96) (args := #[.agg #[r15, .int .i64 t0, .int .i64 t1], v33]) (by simp [go_sem, ee0, yy0, ee1, yy1, plusV]) rfl ?_
      exact (KP.out r15 v33 g.w tx15 cp15 bx33).mono fun e w' ⟨r, he, hx, hc, hB⟩ => ⟨_, he, hB, ⟨r, rfl, hx, hc⟩⟩
    · exact fun h => absurd rfl h
  rintro w5 hB5 _ rfl _ rfl _ rfl _ rfl _ rfl _ ⟨r12, rfl, tx12, cp12⟩ v13 ⟨tx13, cp13⟩ _ rfl _ ⟨r15, rfl, tx15, cp15⟩ _ rfl _ rfl _ rfl _ rfl _ rfl _ rfl _ rfl _ rfl _ rfl _ rfl _ rfl _ rfl _ rfl _ rfl _ rfl _ rfl _ rfl v33 bx33 _ ⟨r34, rfl, tx34, cp34⟩
  simp only [Act.put, List.setIfInBounds_toArray, List.set_cons_succ, List.set_cons_zero]
  have hB6 := below_then HBA.out hB5
  have hR5 := HC2.out.grow hB5
  have q0 := hR5.c0
  have q1 := hR5.c1
  have q2 := hR5.c2
  have z0 := hR5.frozen 0
  have z1 := hR5.frozen 1
  have z2 := hR5.frozen 2
  dsimp only at q0 q1 q2
  have hne := hR5.lt
  obtain ⟨pr, nr, cr, rfl, hle, hnil⟩ := cp34
  have HX := Lib.hid tx34
  have HCP : Hid (CapOk (.slice pr nr cr)) := Lib.hid ⟨pr, nr, cr, rfl, hle, hnil⟩
  clear hle hnil
  refine ⟨_, by simp [go_sem, q0, q1, q2, z0, z1, z2]; rfl, ?_⟩
  clear k0 k1 k2 j0 j1 j2
  go_wp2_with (fail)
  have hbe := ((hB6.setCell (p := ⟨w.heap.size + 2, 0, none⟩) (by dsimp only; omega) (.slice pr nr cr)).setCell (p := ⟨w.heap.size + 2, 1, none⟩) (by dsimp only; omega) (.int .i64 n0)).setCell (p := ⟨w.heap.size + 2, 2, none⟩) (by dsimp only; omega) (.int .i64 n1)
  refine bodyPost_ret (v := .agg #[.slice pr nr cr, .int .i64 n0, .int .i64 n1]) (by simp [results, Tryz.results23, go_sem, q0, q1, q2]) rfl ⟨_, rfl, ?_, HCP.out, hbe⟩
  exact tx_moff HX.out HTV.out hR5 _ _ _
end Go.Proofs.YthakeeinhgfbbaaGreat

namespace Go.Proofs.YthakeeinhgfbbaaGreat
open Go.ChangeShapes Go.WideShapes Go.ChangeAt Go.RowKit
set_option linter.unusedVariables false
set_option linter.unusedSimpArgs false
set_option maxRecDepth 100000
attribute [local irreducible] Calls
def OwnQ (B : Nat) (W : World) (q : Option Addr) (l : List Tm) : Prop := 0 < l.length → ∃ g cur, q = some ⟨g, 0, none⟩ ∧ B ≤ g ∧ W.heap[g]? = some (.cells cur 63 (0, 0))
set_option maxHeartbeats 4000000 in
theorem clone_tm (p : Option Addr) (c : Nat) (l : List Tm) (w : World) (hv : Tx w (.slice p l.length c) l) (h6 : ∀ t ∈ l, t.2.length = 6) (hc : p = none → c = 0) (hsm : l.length ≤ 1000) :
    Calls Tryz.prog 61 #[.slice p l.length c] w fun e W' => ∃ q cap, e = .returned (.slice q l.length cap) ∧ CapOk (.slice q l.length cap) ∧ OwnQ w.heap.size W' q l ∧ Tx W' (.slice q l.length cap) l ∧ Below w.heap.size w W' := by
  cases p with
  | none =>
    obtain rfl : c = 0 := hc rfl
    have hl : l = [] := by
      cases l with
      | nil => rfl
      | cons t l =>
        exfalso
        obtain ⟨_, q, c', e, h⟩ := hv
        obtain ⟨b, o, hq, _⟩ := h 0 t rfl
        simp only [Value.slice.injEq] at e
        rw [hq] at e
        exact absurd e.1 (by simp)
    subst hl
    clear hv h6 hc hsm
    have hcmp : (binOp BinOp.eql 22 (.slice none 0 0) (.slice none 0 0)).run Tryz.prog w = .ok (.bool true) w := by first | rfl | simp [binOp, go_sem]
    go_enter Tryz.func61, Tryz.ntmps61
    go_wp2_with (fail)
    go_ret
    exact ⟨none, 0, rfl, cap_nil, fun h => by simp at h, Tx.nil _ _ _, by go_grown⟩
  | some a =>
    obtain ⟨i0, hi, hz0, hz1, hz2⟩ := info_parts info_t
    have hcmp : (binOp BinOp.eql 22 (.slice (some a) l.length c) (.slice none 0 0)).run Tryz.prog w = .ok (.bool false) w := by first | rfl | simp [binOp, go_sem]
    have hown := own_empty w
    have hba : Below w.heap.size w (w.alloc (.cells #[] 63)) := (Below.refl _ _).alloc (Nat.le_refl _) _
    have htx := hv.grow hba
    have HB := Lib.hid hba
    have H6 := Lib.hid h6
    clear hv hc hba
    go_enter Tryz.func61, Tryz.ntmps61
    go_wp2_with (at_builtin; refine wpList_append_tx rfl (.tmp 5) (.tmp 6) rfl w.heap.size (.slice (some ⟨w.heap.size, 0, none⟩) 0 0) 0 [] rfl hown (some a) c l rfl htx H6.out (by simp) (by unfold maxLen; omega) (by omega) (by simp) ?_)
    intro v' w1 hown' hgrow
    try simp only [Nat.zero_add, List.nil_append] at hown'
    have htx1 := Tx.own hown' (by unfold maxLen; omega) H6.out
    have hBn : Below w.heap.size w w1 := Below.grown HB.out hgrow (by simp) (fun k hk => (hown.lt k hk).1)
    have hcap := capok_own hown'
    obtain ⟨q, cap, rfl, hq⟩ : ∃ q cap, v' = .slice q l.length cap ∧ OwnQ w.heap.size w1 q l := by
      rcases hown'.2 with ⟨e, h0⟩ | ⟨g, cap, cur, e, hg, hh, _⟩
      · exact ⟨none, 0, by rw [e, h0], fun h => by omega⟩
      · exact ⟨_, cap, e, fun _ => ⟨g, cur, rfl, hg, hh⟩⟩
    have HT := Lib.hid htx1
    have HQ := Lib.hid hq
    have HCP := Lib.hid hcap
    clear hown' hgrow htx htx1 hown hcmp hq hcap
    go_wp2_with (fail)
    go_ret
    exact ⟨q, cap, rfl, HCP.out, HQ.out, HT.out, hBn⟩
def mixN (l : List Tm) (k : Nat) : List Tm := negT (l.take k) ++ l.drop k
theorem mixN_len (l : List Tm) (k : Nat) : (mixN l k).length = l.length := by
  unfold mixN negT
  rw [List.length_append, List.length_map, List.length_take, List.length_drop]
  omega
theorem mixN_get {l : List Tm} {k : Nat} {t : Tm} (h : l[k]? = some t) : (mixN l k)[k]? = some t := by
  have hl := (List.getElem?_eq_some_iff.1 h).1
  unfold mixN negT
  rw [List.getElem?_append_right (by rw [List.length_map, List.length_take]; omega), List.length_map, List.length_take, List.getElem?_drop, show k + (k - min k l.length) = k by omega]
  exact h
theorem mixN_set {l : List Tm} {k : Nat} {t : Tm} (h : l[k]? = some t) : (mixN l k).set k (-t.1, t.2) = mixN l (k + 1) := by
  have hl := (List.getElem?_eq_some_iff.1 h).1
  have e : l[k]'hl = t := (List.getElem?_eq_some_iff.1 h).2
  unfold mixN negT
  rw [List.set_append, if_neg (by rw [List.length_map, List.length_take]; omega), List.length_map, List.length_take, show k - min k l.length = 0 by omega, List.drop_eq_getElem_cons hl, List.set_cons_zero, List.take_add_one, h]
  simp
theorem mixN_all {P : Tm → Prop} {l : List Tm} {k : Nat} (h : ∀ t ∈ l, P t) (hn : ∀ t, P t → P (-t.1, t.2)) : ∀ t ∈ mixN l k, P t := fun t ht => by
  unfold mixN negT at ht
  rcases List.mem_append.1 ht with q | q
  · obtain ⟨s, hs, rfl⟩ := List.mem_map.1 q
    exact hn s (h s (List.mem_of_mem_take hs))
  · exact h t (List.mem_of_mem_drop q)
theorem Tx.setc {W : World} {g n cap k : Nat} {l : List Tm} {t : Tm} (h : Tx W (.slice (some ⟨g, 0, none⟩) n cap) l) (hl : ∀ t ∈ l, TV t) (ht : l[k]? = some t) (x : Int) : Tx (W.setCell ⟨g, k * 7, none⟩ (.int .i64 x)) (.slice (some ⟨g, 0, none⟩) n cap) (l.set k (x, t.2)) := by
  obtain ⟨h1, p, c', e, h2⟩ := h
  refine ⟨by rw [List.length_set]; exact h1, p, c', by rw [List.length_set]; exact e, fun i s hs => ?_⟩
  simp only [Value.slice.injEq] at e
  obtain ⟨rfl, rfl, rfl⟩ := e
  have hil : i < l.length := by
    have := (List.getElem?_eq_some_iff.1 hs).1
    rwa [List.length_set] at this
  obtain ⟨t0, ht0⟩ : ∃ t0, l[i]? = some t0 := ⟨_, List.getElem?_eq_getElem hil⟩
  obtain ⟨b, o, hp, h3, h4⟩ := h2 i t0 ht0
  simp only [Option.some.injEq, Addr.mk.injEq, and_true] at hp
  obtain ⟨rfl, rfl⟩ := hp
  refine ⟨g, 0, rfl, by simpa [World.setCell] using h3, fun j u hu => ?_⟩
  by_cases hik : i = k
  · subst hik
    rw [List.getElem?_set_self hil] at hs
    simp only [Option.some.injEq] at hs
    subst hs
    obtain rfl : t0 = t := by rw [ht0] at ht; simpa using ht
    cases j with
    | zero =>
      simp only [encT, List.getElem?_cons_zero, Option.some.injEq] at hu
      subst hu
      have := h4 0 _ rfl
      simp only [Nat.zero_add, Nat.add_zero] at this ⊢
      exact World.cell?_setCell_same _ _ _ this
    | succ j =>
      have hu' : (encT t0)[j + 1]? = some u := by simpa [encT] using hu
      rw [World.cell?_setCell_other _ _ _ _ (by simp)]
      exact h4 (j + 1) u hu'
  · rw [List.getElem?_set_ne (by omega)] at hs
    obtain rfl : t0 = s := by rw [ht0] at hs; simpa using hs
    obtain ⟨kk, z0, z1, z2, z3, z4, z5, rfl⟩ := six_at (hl t0 (List.mem_of_getElem? ht0))
    have hj : j < 7 := by
      have := (List.getElem?_eq_some_iff.1 hu).1
      simpa [encT] using this
    rw [World.cell?_setCell_other _ _ _ _ (by simp <;> omega)]
    exact h4 j u hu
theorem neg_tn {l : List Tm} (h : ∀ t ∈ l, TV t ∧ Num t.1) : ∀ t ∈ negT l, TV t ∧ Num t.1 := fun t ht => by
  obtain ⟨s, hs, rfl⟩ := List.mem_map.1 ht
  obtain ⟨h1, h2⟩ := h s hs
  unfold Num at *
  exact ⟨⟨h1.1, by dsimp only; omega, by dsimp only; omega⟩, by dsimp only; omega, by dsimp only; omega⟩
theorem neg_len (l : List Tm) : (negT l).length = l.length := by unfold negT; rw [List.length_map]
theorem neg_vb {p : Int × Int} (h : VB2 p) : VB2 (negI2 p) := by
  unfold VB2 VI Ent Num negI2 at *
  dsimp only
  omega
theorem vb_bdY {p : Int × Int} (h : VB2 p) : -2147483648 ≤ p.1 ∧ p.1 ≤ 2147483648 ∧ -2147483648 ≤ p.2 ∧ p.2 ≤ 2147483648 := by
  unfold VB2 VI Ent Num at h
  omega
structure NgI (w : World) (q : Option Addr) (cap : Nat) (u : Value) (a : Int × Int) (l : List Tm) (k : Nat) (W : World) : Prop where
  tx : Tx W (.slice q l.length cap) (mixN l k)
  own : OwnQ (w.heap.size + 2) W q l
  arg : MoC W w.heap.size u a
  res : MoC W (w.heap.size + 1) (.slice none 0 0) (0, 0)
  bel : Below w.heap.size w W
set_option maxHeartbeats 8000000 in
theorem tneg_ok (u : Value) (a0 a1 : Int) (l : List Tm) (w : World) (hu : Tx w u l) (nu : ∀ t ∈ l, TV t ∧ Num t.1) (su : l.length ≤ 100) (hcu : CapOk u) (hv : VB2 (a0, a1)) :
    Calls Tryz.prog 21 #[.agg #[u, .int .i64 a0, .int .i64 a1]] w fun e w' => ∃ r, e = .returned (.agg #[r, .int .i64 (-a1), .int .i64 (-a0)]) ∧ Tx w' r (negT l) ∧ CapOk r ∧ Below w.heap.size w w' := by
  obtain ⟨pu, cu, rfl⟩ := hu.cut
  have hcu' : pu = none → cu = 0 := by
    obtain ⟨p, n, c, e, _, h⟩ := hcu
    simp only [Value.slice.injEq] at e
    rw [e.1, e.2.2]
    exact h
  have HU := Lib.hid hu
  have HN := Lib.hid nu
  have hbd := vb_bdY hv
  have KN := Lib.hid (fun w => iv_neg a0 a1 w hbd)
  have KC := Lib.hid (fun w h => clone_tm pu cu l w h (fun t ht => (nu t ht).1.1.1) hcu' (by omega))
  have hba : Below w.heap.size w ((w.alloc (.cells #[(.slice pu l.length cu), .int .i64 a0, .int .i64 a1] 26)).alloc (.cells #[.slice none 0 0, .int .i64 0, .int .i64 0] 26)) := (((Below.refl _ _).alloc (Nat.le_refl _) _).alloc (by simp) _)
  have hc0 : MoC ((w.alloc (.cells #[(.slice pu l.length cu), .int .i64 a0, .int .i64 a1] 26)).alloc (.cells #[.slice none 0 0, .int .i64 0, .int .i64 0] 26)) (w.heap.size) ((.slice pu l.length cu)) (a0, a1) := by
    have e := MoC.new w (.slice pu l.length cu) a0 a1
    exact (e.alloc _)
  have hc1 : MoC ((w.alloc (.cells #[(.slice pu l.length cu), .int .i64 a0, .int .i64 a1] 26)).alloc (.cells #[.slice none 0 0, .int .i64 0, .int .i64 0] 26)) (w.heap.size + 1) (.slice none 0 0) (0, 0) := by
    have e := MoC.new (w.alloc (.cells #[(.slice pu l.length cu), .int .i64 a0, .int .i64 a1] 26)) (.slice none 0 0) 0 0
    simp only [World.size_alloc] at e
    exact e
  have HC0 := Lib.hid hc0
  have HC1 := Lib.hid hc1
  have HBA := Lib.hid hba
  clear hba hc0 hc1 hu nu hcu hcu' hv hbd
  go_enter Tryz.func21, Tryz.ntmps21
  go_wp2_with (fail)
  generalize hW0 : World.alloc (World.alloc w _) _ = W0 at *
  clear hW0
  have k0 := HC0.out.c0
  try dsimp only at k0
  go_wp2_with (fail)
  refine (KC.out W0 (HU.out.grow HBA.out)).mono ?_
  rintro e w1 ⟨q, cap, rfl, hcp, hoq, htx, hB1⟩
  have hI : Hid (NgI w q cap (.slice pu l.length cu) (a0, a1) l 0 w1) := Lib.hid ⟨by simpa [mixN, negT] using htx, fun h => by
    obtain ⟨g, cur, e1, e2, e3⟩ := hoq h
    have := HC1.out.lt
    exact ⟨g, cur, e1, by omega, e3⟩, HC0.out.grow hB1, HC1.out.grow hB1, below_then HBA.out hB1⟩
  have HCP := Lib.hid hcp
  clear k0 hoq htx hB1 hcp
  go_wp2_with (fail)
  go_loopw [10] (fun i wr => ∃ k : Nat, i = .int .i64 k ∧ k ≤ l.length ∧ Hid (NgI w q cap (.slice pu l.length cu) (a0, a1) l k wr)) (fun i _ => l.length - (intOf i).toNat)
  case atStart => exact ⟨0, rfl, Nat.zero_le _, hI⟩
  case round =>
    clear hI
    obtain ⟨k, rfl, hk, HR⟩ := hrel
    by_cases hlt : k < l.length
    · have i1 : (k : Int) < l.length := by omega
      obtain ⟨g, cur, rfl, hg, hgc⟩ := HR.out.own (by omega)
      obtain ⟨t, hx⟩ : ∃ t, l[k]? = some t := ⟨_, List.getElem?_eq_getElem hlt⟩
      have htn := HN.out t (List.mem_of_getElem? hx)
      have hmx := mixN_get hx
      have hms := mixN_set hx
      have htvm : ∀ t ∈ mixN l k, TV t := fun t ht => (mixN_all (P := fun t => TV t ∧ Num t.1) HN.out (fun s hs => by
        obtain ⟨h1, h2⟩ := hs
        unfold Num at *
        exact ⟨⟨h1.1, by dsimp only; omega, by dsimp only; omega⟩, by dsimp only; omega, by dsimp only; omega⟩) t ht).1
      obtain ⟨ka, ee⟩ := t
      have hn := htn.2
      unfold Num at hn
      dsimp only at hn hms
      have Wn : IntKind.i64.wrap (-ka) = -ka := wrap_i64 _ (by omega) (by omega)
      obtain ⟨b, o, hp, hb, rd⟩ := HR.out.tx.rd hmx
      simp only [Option.some.injEq, Addr.mk.injEq, and_true] at hp
      obtain ⟨rfl, rfl⟩ := hp
      have f0 := rd ⟨wr, Below.refl _ _⟩ 0 (.int .i64 ka) rfl
      simp only [Nat.zero_add, Nat.add_zero] at f0
      have fz : wr.frozen? ⟨g, k * 7, none⟩ = false := by simp [World.frozen?, hgc]
      have HNX : Hid (NgI w (some ⟨g, 0, none⟩) cap (.slice pu l.length cu) (a0, a1) l (k + 1) (wr.setCell ⟨g, k * 7, none⟩ (.int .i64 (-ka)))) := Lib.hid ⟨by rw [← hms]; exact HR.out.tx.setc htvm hmx (-ka), fun _ => ⟨g, _, rfl, hg, cellsT_set hgc⟩, HR.out.arg.other (by omega), HR.out.res.other (by omega), HR.out.bel.setCell (p := ⟨g, k * 7, none⟩) (by dsimp only; omega) _⟩
      clear rd hmx hms htvm htn hx hgc hn
      go_wp2_with (fail)
      go_roundw
      case rel => exact ⟨k + 1, by go_num, by omega, HNX⟩
      case measure => simp [intOf]; omega
    · obtain rfl : k = l.length := by omega
      have i1 : ¬ (l.length : Int) < l.length := by omega
      have hmx : mixN l l.length = negT l := by simp [mixN]
      have htx := HR.out.tx
      rw [hmx] at htx
      have k1 := HR.out.arg.c1
      have k2 := HR.out.arg.c2
      dsimp only at k1 k2
      have htv : ∀ t ∈ negT l, TV t := fun t ht => (neg_tn HN.out t ht).1
      have HTX := Lib.hid htx
      have HTV := Lib.hid htv
      clear hmx htx htv
      go_wp2_with (fail)
      refine (KN.out _).mono ?_
      rintro e w5 ⟨rfl, h5⟩
      have hr5 := HR.out.res.grow h5
      have q0 := hr5.c0
      have q1 := hr5.c1
      have q2 := hr5.c2
      have z0 := hr5.frozen 0
      have z1 := hr5.frozen 1
      have z2 := hr5.frozen 2
      dsimp only at q0 q1 q2
      have hb5 : Below w.heap.size w w5 := HR.out.bel.trans (h5.mono HR.out.bel.size)
      clear k1 k2
      go_wp2_with (fail)
      refine bodyPost_ret (v := .agg #[.slice q l.length cap, .int .i64 (-a1), .int .i64 (-a0)]) (by simp [results, Tryz.results21, go_sem, q0, q1, q2]) rfl ⟨_, rfl, tx_moff (HTX.out.grow h5) HTV.out hr5 _ _ _, HCP.out, ?_⟩
      exact ((hb5.setCell (p := ⟨w.heap.size + 1, 0, none⟩) (Nat.le_succ _) _).setCell (p := ⟨w.heap.size + 1, 1, none⟩) (Nat.le_succ _) _).setCell (p := ⟨w.heap.size + 1, 2, none⟩) (Nat.le_succ _) _
set_option maxHeartbeats 8000000 in
theorem tsub_ok (u v : Value) (a0 a1 b0 b1 : Int) (l m : List Tm) (w : World) (hu : Tx w u l) (nu : ∀ t ∈ l, TV t ∧ Num t.1) (su : l.length ≤ 100) (hcu : CapOk u) (hv : Tx w v m) (nv : ∀ t ∈ m, TV t ∧ Num t.1) (sv : m.length ≤ 100) (hcv : CapOk v) (ha : VB2 (a0, a1)) (hb : VB2 (b0, b1)) :
    Calls Tryz.prog 19 #[.agg #[u, .int .i64 a0, .int .i64 a1], .agg #[v, .int .i64 b0, .int .i64 b1]] w fun e w' => ∃ r, e = .returned (.agg #[r, .int .i64 (addM (l, (a0, a1)) (negM (m, (b0, b1)))).2.1, .int .i64 (addM (l, (a0, a1)) (negM (m, (b0, b1)))).2.2]) ∧ Tx w' r (addM (l, (a0, a1)) (negM (m, (b0, b1)))).1 ∧ CapOk r ∧ Below w.heap.size w w' := by
  obtain ⟨pu, cu, rfl⟩ := hu.cut
  obtain ⟨pv, cv, rfl⟩ := hv.cut
  have HU := Lib.hid hu
  have HV := Lib.hid hv
  have KN := Lib.hid (fun w h => tneg_ok (.slice pv m.length cv) b0 b1 m w h nv sv hcv hb)
  have KA := Lib.hid (fun (r : Value) (w : World) h h2 hc => tadd_ok (.slice pu l.length cu) r a0 a1 (-b1) (-b0) l (negT m) w h nu su hcu h2 (neg_tn nv) (by rw [neg_len]; exact sv) hc ha (neg_vb hb))
  rw [show negM (m, (b0, b1)) = (negT m, (-b1, -b0)) from rfl]
  have htv0 : ∀ t ∈ (addM (l, (a0, a1)) (negT m, (-b1, -b0))).1, TV t := normM_tv (truncP_tvY (merge_tv nu (neg_tn nv)))
  obtain ⟨⟨N, n0, n1⟩, hn⟩ : ∃ R, addM (l, (a0, a1)) (negT m, (-b1, -b0)) = R := ⟨_, rfl⟩
  rw [hn] at KA htv0 ⊢
  dsimp only at KA htv0 ⊢
  have HTV := Lib.hid htv0
  have hba : Below w.heap.size w (((w.alloc (.cells #[(.slice pu l.length cu), .int .i64 a0, .int .i64 a1] 26)).alloc (.cells #[(.slice pv m.length cv), .int .i64 b0, .int .i64 b1] 26)).alloc (.cells #[.slice none 0 0, .int .i64 0, .int .i64 0] 26)) := ((((Below.refl _ _).alloc (Nat.le_refl _) _).alloc (by simp) _).alloc (by simp; omega) _)
  have hc0 : MoC (((w.alloc (.cells #[(.slice pu l.length cu), .int .i64 a0, .int .i64 a1] 26)).alloc (.cells #[(.slice pv m.length cv), .int .i64 b0, .int .i64 b1] 26)).alloc (.cells #[.slice none 0 0, .int .i64 0, .int .i64 0] 26)) (w.heap.size) ((.slice pu l.length cu)) (a0, a1) := by
    have e := MoC.new w (.slice pu l.length cu) a0 a1
    exact ((e.alloc _).alloc _)
  have hc1 : MoC (((w.alloc (.cells #[(.slice pu l.length cu), .int .i64 a0, .int .i64 a1] 26)).alloc (.cells #[(.slice pv m.length cv), .int .i64 b0, .int .i64 b1] 26)).alloc (.cells #[.slice none 0 0, .int .i64 0, .int .i64 0] 26)) (w.heap.size + 1) ((.slice pv m.length cv)) (b0, b1) := by
    have e := MoC.new (w.alloc (.cells #[(.slice pu l.length cu), .int .i64 a0, .int .i64 a1] 26)) (.slice pv m.length cv) b0 b1
    simp only [World.size_alloc] at e
    exact (e.alloc _)
  have hc2 : MoC (((w.alloc (.cells #[(.slice pu l.length cu), .int .i64 a0, .int .i64 a1] 26)).alloc (.cells #[(.slice pv m.length cv), .int .i64 b0, .int .i64 b1] 26)).alloc (.cells #[.slice none 0 0, .int .i64 0, .int .i64 0] 26)) (w.heap.size + 2) (.slice none 0 0) (0, 0) := by
    have e := MoC.new ((w.alloc (.cells #[(.slice pu l.length cu), .int .i64 a0, .int .i64 a1] 26)).alloc (.cells #[(.slice pv m.length cv), .int .i64 b0, .int .i64 b1] 26)) (.slice none 0 0) 0 0
    simp only [World.size_alloc] at e
    exact e
  have HC0 := Lib.hid hc0
  have HC1 := Lib.hid hc1
  have HC2 := Lib.hid hc2
  have HBA := Lib.hid hba
  clear hba hc0 hc1 hc2 hu nu su hv nv sv hcu hcv ha hb hn htv0
  go_enter Tryz.func19, Tryz.ntmps19
  go_wp2_with (fail)
  generalize hW0 : World.alloc (World.alloc (World.alloc w _) _) _ = W0 at *
  clear hW0
  have k0 := fun g : Grown W0 => (HC0.out.grow g.h).c0
  have k1 := fun g : Grown W0 => (HC0.out.grow g.h).c1
  have k2 := fun g : Grown W0 => (HC0.out.grow g.h).c2
  dsimp only at k0 k1 k2
  have j0 := fun g : Grown W0 => (HC1.out.grow g.h).c0
  have j1 := fun g : Grown W0 => (HC1.out.grow g.h).c1
  have j2 := fun g : Grown W0 => (HC1.out.grow g.h).c2
  dsimp only at j0 j1 j2
  refine region_pred_l (lk [(5, fun z_ _ => z_ = .agg #[(.slice pu l.length cu), .int .i64 a0, .int .i64 a1]), (6, fun z_ _ => z_ = .agg #[(.slice pv m.length cv), .int .i64 b0, .int .i64 b1]), (7, fun z_ w' => ∃ r, z_ = .agg #[r, .int .i64 (-b1), .int .i64 (-b0)] ∧ Tx w' r (negT m) ∧ CapOk r), (8, fun z_ w' => ∃ r, z_ = .agg #[r, .int .i64 n0, .int .i64 n1] ∧ Tx w' r N ∧ CapOk r)]) 4 _ rfl (by kernel_rfl) (by kernel_rfl) (by kernel_rfl) (lk_steady _ ⟨steady_eq _, steady_eq _, fun u w1 w2 hb ⟨r, h1, h2, h3⟩ => ⟨r, h1, h2.grow hb, h3⟩, fun u w1 w2 hb ⟨r, h1, h2, h3⟩ => ⟨r, h1, h2.grow hb, h3⟩, trivial⟩) ?_ ?_
  · refine ⟨?_, ?_, ?_, ?_, ?_, trivial⟩
    · intro _
      refine ob_plain [2] rfl rfl fun aa g h => ?_
      have yy0 := seen_out (v := .pointer (some ⟨w.heap.size, 0, none⟩)) rfl rfl h.1
      have ee0 := getD_of yy0
      exact tupon_value (v := .agg #[(.slice pu l.length cu), .int .i64 a0, .int .i64 a1]) (by simp [go_sem, ee0, yy0, k0 g, k1 g, k2 g]) (Below.refl _ _) rfl
    · intro _
      refine ob_plain [3] rfl rfl fun aa g h => ?_
      have yy0 := seen_out (v := .pointer (some ⟨w.heap.size + 1, 0, none⟩)) rfl rfl h.1
      have ee0 := getD_of yy0
      exact tupon_value (v := .agg #[(.slice pv m.length cv), .int .i64 b0, .int .i64 b1]) (by simp [go_sem, ee0, yy0, j0 g, j1 g, j2 g]) (Below.refl _ _) rfl
    · intro _
      refine ob_plain [6] rfl rfl fun aa g h => ?_
      obtain ⟨_, yy0, rfl⟩ := seen_in rfl h.1
      have ee0 := getD_of yy0
      refine tupon_enter (f := 21) (args := #[.agg #[(.slice pv m.length cv), .int .i64 b0, .int .i64 b1]]) (by simp [go_sem, ee0, yy0]) rfl ?_
      exact (KN.out g.w (HV.out.grow (below_then HBA.out g.h))).mono fun e w' ⟨r, he, hx, hc, hB⟩ => ⟨_, he, hB, ⟨r, rfl, hx, hc⟩⟩
    · intro _
      refine ob_plain [5, 7] rfl rfl fun aa g h => ?_
      obtain ⟨_, yy0, rfl⟩ := seen_in rfl h.1
      have ee0 := getD_of yy0
      obtain ⟨_, yy1, ⟨r7, rfl, tx7, cp7⟩⟩ := seen_in rfl h.2.1
      have ee1 := getD_of yy1
      refine tupon_enter (f := 17) (args := #[.agg #[(.slice pu l.length cu), .int .i64 a0, .int .i64 a1], .agg #[r7, .int .i64 (-b1), .int .i64 (-b0)]]) (by simp [go_sem, ee0, yy0, ee1, yy1]) rfl ?_
      exact (KA.out r7 g.w (HU.out.grow (below_then HBA.out g.h)) tx7 cp7).mono fun e w' ⟨r, he, hx, hc, hB⟩ => ⟨_, he, hB, ⟨r, rfl, hx, hc⟩⟩
    · exact fun h => absurd rfl h
  rintro w5 hB5 _ rfl _ rfl _ ⟨r7, rfl, tx7, cp7⟩ _ ⟨r8, rfl, tx8, cp8⟩
  simp only [Act.put, List.setIfInBounds_toArray, List.set_cons_succ, List.set_cons_zero]
  have hB6 := below_then HBA.out hB5
  have hR5 := HC2.out.grow hB5
  have q0 := hR5.c0
  have q1 := hR5.c1
  have q2 := hR5.c2
  have z0 := hR5.frozen 0
  have z1 := hR5.frozen 1
  have z2 := hR5.frozen 2
  dsimp only at q0 q1 q2
  have hne := hR5.lt
  obtain ⟨pr, nr, cr, rfl, hle, hnil⟩ := cp8
  have HX := Lib.hid tx8
  have HCP : Hid (CapOk (.slice pr nr cr)) := Lib.hid ⟨pr, nr, cr, rfl, hle, hnil⟩
  clear hle hnil
  refine ⟨_, by simp [go_sem, q0, q1, q2, z0, z1, z2]; rfl, ?_⟩
  clear k0 k1 k2 j0 j1 j2
  go_wp2_with (fail)
  have hbe := ((hB6.setCell (p := ⟨w.heap.size + 2, 0, none⟩) (by dsimp only; omega) (.slice pr nr cr)).setCell (p := ⟨w.heap.size + 2, 1, none⟩) (by dsimp only; omega) (.int .i64 n0)).setCell (p := ⟨w.heap.size + 2, 2, none⟩) (by dsimp only; omega) (.int .i64 n1)
  refine bodyPost_ret (v := .agg #[.slice pr nr cr, .int .i64 n0, .int .i64 n1]) (by simp [results, Tryz.results19, go_sem, q0, q1, q2]) rfl ⟨_, rfl, ?_, HCP.out, hbe⟩
  exact tx_moff HX.out HTV.out hR5 _ _ _
theorem const_cap (c : Int) (w : World) :
    Calls Tryz.prog 74 #[.int .i64 c] w fun e w' => ∃ u, e = .returned u ∧ Tx w' u (constT c) ∧ CapOk u ∧ Below w.heap.size w w' := by
  unfold constT
  by_cases h : c = 0
  · rw [if_pos h]
    have hd : (c == 0) = true := by simpa using h
    clear h
    go_enter Tryz.func74, Tryz.ntmps74
    go_wp2_with (fail)
    go_ret
    exact ⟨_, rfl, Tx.nil _ _ _, cap_nil, by go_grown⟩
  · rw [if_neg h]
    have hd : (c == 0) = false := by simpa using h
    clear h
    go_enter Tryz.func74, Tryz.ntmps74
    go_wp2_with (fail)
    go_ret
    exact ⟨_, rfl, tx_lit w c 0 0 0 0 0 0, ⟨_, _, _, rfl, Nat.le_refl _, by simp⟩, by go_grown⟩
theorem mid_num {p : Int × Int} (h : VB2 p) : Num (midI p) := by
  unfold VB2 VI Ent Num at h
  unfold midI Num
  omega
set_option maxHeartbeats 8000000 in
theorem tconst_ok (a0 a1 : Int) (w : World) (hv : VB2 (a0, a1)) :
    Calls Tryz.prog 33 #[.agg #[.int .i64 a0, .int .i64 a1]] w fun e w' => ∃ r, e = .returned (.agg #[r, .int .i64 (constM (a0, a1)).2.1, .int .i64 (constM (a0, a1)).2.2]) ∧ Tx w' r (constM (a0, a1)).1 ∧ CapOk r ∧ Below w.heap.size w w' := by
  have hbd := vb_bdY hv
  have hmn := mid_num hv
  have KM := Lib.hid (fun w => iv_mid a0 a1 w hbd)
  unfold constM
  unfold midI at hmn ⊢
  dsimp only at hmn ⊢
  obtain ⟨m, hm⟩ : ∃ m, (a0 + a1) / 2 = m := ⟨_, rfl⟩
  rw [hm] at KM hmn ⊢
  have KC := Lib.hid (const_cap m)
  have KP := Lib.hid (iv_point m)
  have hpv : VB2 (ptI m) := mk_vi (Int.le_refl m)
  have HTV : Hid (∀ t ∈ constT m, TV t) := Lib.hid (fun t ht => (constT_tv hmn t ht).1)
  rw [show ptI m = (mkLo m m, mkHi m m) from rfl] at hpv ⊢
  obtain ⟨p0, h0⟩ : ∃ z, mkLo m m = z := ⟨_, rfl⟩
  obtain ⟨p1, h1⟩ : ∃ z, mkHi m m = z := ⟨_, rfl⟩
  rw [h0, h1] at KP hpv ⊢
  have KS := Lib.hid (fun w => iv_sub a0 a1 p0 p1 w hv hpv)
  rw [show addI2 (a0, a1) (negI2 (p0, p1)) = (addLo a0 a1 (-p1) (-p0), addHi a0 a1 (-p1) (-p0)) from rfl]
  obtain ⟨n0, h2⟩ : ∃ z, addLo a0 a1 (-p1) (-p0) = z := ⟨_, rfl⟩
  obtain ⟨n1, h3⟩ : ∃ z, addHi a0 a1 (-p1) (-p0) = z := ⟨_, rfl⟩
  rw [h2, h3] at KS ⊢
  obtain ⟨N, hN⟩ : ∃ z, constT m = z := ⟨_, rfl⟩
  rw [hN] at KC HTV ⊢
  have hba : Below w.heap.size w ((w.alloc (.cells #[.int .i64 a0, .int .i64 a1] 24)).alloc (.cells #[.slice none 0 0, .int .i64 0, .int .i64 0] 26)) := (((Below.refl _ _).alloc (Nat.le_refl _) _).alloc (by simp) _)
  have hc0 : IvC ((w.alloc (.cells #[.int .i64 a0, .int .i64 a1] 24)).alloc (.cells #[.slice none 0 0, .int .i64 0, .int .i64 0] 26)) (w.heap.size) (a0, a1) := by
    have e := IvC.new w a0 a1
    exact (e.alloc _)
  have hc1 : MoC ((w.alloc (.cells #[.int .i64 a0, .int .i64 a1] 24)).alloc (.cells #[.slice none 0 0, .int .i64 0, .int .i64 0] 26)) (w.heap.size + 1) (.slice none 0 0) (0, 0) := by
    have e := MoC.new (w.alloc (.cells #[.int .i64 a0, .int .i64 a1] 24)) (.slice none 0 0) 0 0
    simp only [World.size_alloc] at e
    exact e
  have HC0 := Lib.hid hc0
  have HC1 := Lib.hid hc1
  have HBA := Lib.hid hba
  clear hba hc0 hc1 hv hbd hmn hm hpv h0 h1 h2 h3 hN
  go_enter Tryz.func33, Tryz.ntmps33
  go_wp2_with (fail)
  generalize hW0 : World.alloc (World.alloc w _) _ = W0 at *
  clear hW0
  have k0 := HC0.out.c0
  have k1 := HC0.out.c1
  dsimp only at k0 k1
  go_wp2_with (fail)
  refine (KM.out _).mono ?_
  rintro e w1 ⟨rfl, hB1⟩
  have HX0 := Lib.hid (HC0.out.grow hB1)
  have HX1 := Lib.hid (HC1.out.grow hB1)
  have HBB := Lib.hid (below_then HBA.out hB1)
  clear k0 k1 hB1 HC0 HC1 HBA
  go_wp2_with (fail)
  have k0 := fun g : Grown w1 => (HX0.out.grow g.h).c0
  have k1 := fun g : Grown w1 => (HX0.out.grow g.h).c1
  dsimp only at k0 k1
  obtain ⟨HC1, hq1⟩ : ∃ z : Hid (MoC w1 (w.heap.size + 1) (.slice none 0 0) (0, 0)), z = HX1 := ⟨_, rfl⟩
  obtain ⟨HBA, hq2⟩ : ∃ z : Hid (Below w.heap.size w w1), z = HBB := ⟨_, rfl⟩
  clear hq1 hq2
  refine region_pred_l (lk [(6, fun z_ _ => z_ = .int .i64 m), (7, fun z_ w' => ∃ p n c, z_ = .slice p n c ∧ Tx w' z_ N ∧ CapOk z_), (8, fun z_ _ => z_ = .agg #[.int .i64 a0, .int .i64 a1]), (9, fun z_ _ => z_ = .int .i64 m), (10, fun z_ _ => z_ = .agg #[.int .i64 p0, .int .i64 p1]), (11, fun z_ _ => z_ = .agg #[.int .i64 n0, .int .i64 n1]), (12, fun z_ w' => ∃ r, z_ = .agg #[r, .int .i64 n0, .int .i64 n1] ∧ Tx w' r N ∧ CapOk r)]) 7 _ rfl (by kernel_rfl) (by kernel_rfl) (by kernel_rfl) (lk_steady _ ⟨steady_eq _, fun u w1 w2 hb ⟨p, n, c, e, h1, h2⟩ => ⟨p, n, c, e, h1.grow hb, h2⟩, steady_eq _, steady_eq _, steady_eq _, steady_eq _, fun u w1 w2 hb ⟨r, h1, h2, h3⟩ => ⟨r, h1, h2.grow hb, h3⟩, trivial⟩) ?_ ?_
  · refine ⟨?_, ?_, ?_, ?_, ?_, ?_, ?_, ?_, trivial⟩
    · intro _
      refine ob_plain [3] rfl rfl fun aa g h => ?_
      have yy0 := seen_out (v := .int .i64 m) rfl rfl h.1
      have ee0 := getD_of yy0
      exact tupon_value (v := .int .i64 m) (by simp [go_sem, ee0, yy0]) (Below.refl _ _) rfl
    · intro _
      refine ob_plain [6] rfl rfl fun aa g h => ?_
      obtain ⟨_, yy0, rfl⟩ := seen_in rfl h.1
      have ee0 := getD_of yy0
      refine tupon_enter (f := 74) (args := #[.int .i64 m]) (by simp [go_sem, ee0, yy0]) rfl ?_
      exact (KC.out g.w).mono fun e w' ⟨r, he, hx, hc, hB⟩ => ⟨_, he, hB, (by obtain ⟨p, n, c, e1, e2⟩ := hc; exact ⟨p, n, c, e1, hx, ⟨p, n, c, e1, e2⟩⟩)⟩
    · intro _
      refine ob_plain [1] rfl rfl fun aa g h => ?_
      have yy0 := seen_out (v := .pointer (some ⟨w.heap.size, 0, none⟩)) rfl rfl h.1
      have ee0 := getD_of yy0
      exact tupon_value (v := .agg #[.int .i64 a0, .int .i64 a1]) (by simp [go_sem, ee0, yy0, k0 g, k1 g]) (Below.refl _ _) rfl
    · intro _
      refine ob_plain [3] rfl rfl fun aa g h => ?_
      have yy0 := seen_out (v := .int .i64 m) rfl rfl h.1
      have ee0 := getD_of yy0
      exact tupon_value (v := .int .i64 m) (by simp [go_sem, ee0, yy0]) (Below.refl _ _) rfl
    · intro _
      refine ob_plain [9] rfl rfl fun aa g h => ?_
      obtain ⟨_, yy0, rfl⟩ := seen_in rfl h.1
      have ee0 := getD_of yy0
      refine tupon_enter (f := 76) (args := #[.int .i64 m]) (by simp [go_sem, ee0, yy0]) rfl ?_
      exact (KP.out g.w).mono fun e w' ⟨he, hB⟩ => ⟨_, he, hB, rfl⟩
    · intro _
      refine ob_plain [8, 10] rfl rfl fun aa g h => ?_
      obtain ⟨_, yy0, rfl⟩ := seen_in rfl h.1
      have ee0 := getD_of yy0
      obtain ⟨_, yy1, rfl⟩ := seen_in rfl h.2.1
      have ee1 := getD_of yy1
      refine tupon_enter (f := 75) (args := #[.agg #[.int .i64 a0, .int .i64 a1], .agg #[.int .i64 p0, .int .i64 p1]]) (by simp [go_sem, ee0, yy0, ee1, yy1]) rfl ?_
      exact (KS.out g.w).mono fun e w' ⟨he, hB⟩ => ⟨_, he, hB, rfl⟩
    · intro _
      refine ob_plain [7, 11] rfl rfl fun aa g h => ?_
      obtain ⟨_, yy0, ⟨p7, n7, c7, rfl, tx7, cp7⟩⟩ := seen_in rfl h.1
      have ee0 := getD_of yy0
      obtain ⟨_, yy1, rfl⟩ := seen_in rfl h.2.1
      have ee1 := getD_of yy1
      exact tupon_value (v := .agg #[.slice p7 n7 c7, .int .i64 n0, .int .i64 n1]) (by simp [go_sem, ee0, yy0, ee1, yy1]) (Below.refl _ _) ⟨_, rfl, tx7, cp7⟩
    · exact fun h => absurd rfl h
  rintro w5 hB5 _ rfl _ ⟨p7, n7, c7, rfl, tx7, cp7⟩ _ rfl _ rfl _ rfl _ rfl _ ⟨r12, rfl, tx12, cp12⟩
  simp only [Act.put, List.setIfInBounds_toArray, List.set_cons_succ, List.set_cons_zero]
  have hB6 := below_then HBA.out hB5
  have hR5 := HC1.out.grow hB5
  have q0 := hR5.c0
  have q1 := hR5.c1
  have q2 := hR5.c2
  have z0 := hR5.frozen 0
  have z1 := hR5.frozen 1
  have z2 := hR5.frozen 2
  dsimp only at q0 q1 q2
  have hne := hR5.lt
  obtain ⟨pr, nr, cr, rfl, hle, hnil⟩ := cp12
  have HX := Lib.hid tx12
  have HCP : Hid (CapOk (.slice pr nr cr)) := Lib.hid ⟨pr, nr, cr, rfl, hle, hnil⟩
  clear hle hnil
  refine ⟨_, by simp [go_sem, q0, q1, q2, z0, z1, z2]; rfl, ?_⟩
  clear k0 k1
  go_wp2_with (fail)
  have hbe := ((hB6.setCell (p := ⟨w.heap.size + 1, 0, none⟩) (by dsimp only; omega) (.slice pr nr cr)).setCell (p := ⟨w.heap.size + 1, 1, none⟩) (by dsimp only; omega) (.int .i64 n0)).setCell (p := ⟨w.heap.size + 1, 2, none⟩) (by dsimp only; omega) (.int .i64 n1)
  refine bodyPost_ret (v := .agg #[.slice pr nr cr, .int .i64 n0, .int .i64 n1]) (by simp [results, Tryz.results33, go_sem, q0, q1, q2]) rfl ⟨_, rfl, ?_, HCP.out, hbe⟩
  exact tx_moff HX.out HTV.out hR5 _ _ _
theorem const_tn {p : Int × Int} (h : VB2 p) : ∀ t ∈ (constM p).1, TV t ∧ Num t.1 := constT_tv (mid_num h)
theorem constM_len (p : Int × Int) : (constM p).1.length ≤ 100 := Nat.le_trans (constT_len _) (by decide)
theorem constM_vb {p : Int × Int} (h : VB2 p) : VB2 (constM p).2 := addI2_vb h (neg_vb (mk_vi (Int.le_refl _)))
theorem mulM_tv {a b : Mo} {deg : Int} (ha : ∀ t ∈ a.1, TV t ∧ Num t.1) (hb : ∀ t ∈ b.1, TV t ∧ Num t.1) (h1 : a.1.length ≤ 100) (h2 : b.1.length ≤ 100) : ∀ t ∈ (mulM a b deg).1, TV t :=
  normM_tv (truncP_tvY (mulP_tv ha hb (Nat.le_trans (Nat.mul_le_mul h1 h2) (by decide))))
set_option maxHeartbeats 8000000 in
theorem tmuli_ok (u : Value) (a0 a1 c0 c1 : Int) (l : List Tm) (w : World) (hu : Tx w u l) (nu : ∀ t ∈ l, TV t ∧ Num t.1) (su : l.length ≤ 100) (ha : VB2 (a0, a1)) (hc : VB2 (c0, c1)) :
    Calls Tryz.prog 25 #[.agg #[u, .int .i64 a0, .int .i64 a1], .agg #[.int .i64 c0, .int .i64 c1]] w fun e w' => ∃ r, e = .returned (.agg #[r, .int .i64 (mulM (l, (a0, a1)) (constM (c0, c1)) 6).2.1, .int .i64 (mulM (l, (a0, a1)) (constM (c0, c1)) 6).2.2]) ∧ Tx w' r (mulM (l, (a0, a1)) (constM (c0, c1)) 6).1 ∧ CapOk r ∧ Below w.heap.size w w' := by
  obtain ⟨pu, cu, rfl⟩ := hu.cut
  have HU := Lib.hid hu
  have KC := Lib.hid (fun w => tconst_ok c0 c1 w hc)
  have ctn := const_tn hc
  have cln := constM_len (c0, c1)
  have cvb := constM_vb hc
  obtain ⟨⟨C, d0, d1⟩, hC⟩ : ∃ R, constM (c0, c1) = R := ⟨_, rfl⟩
  rw [hC] at KC ctn cln cvb ⊢
  dsimp only at KC ctn cln cvb
  have KM := Lib.hid (fun (r : Value) (w : World) h h2 => tmul_ok (.slice pu l.length cu) r a0 a1 d0 d1 6 l C w h nu su h2 ctn cln ha cvb)
  have htv0 : ∀ t ∈ (mulM (l, (a0, a1)) (C, (d0, d1)) 6).1, TV t := mulM_tv nu ctn su cln
  obtain ⟨⟨N, n0, n1⟩, hn⟩ : ∃ R, mulM (l, (a0, a1)) (C, (d0, d1)) 6 = R := ⟨_, rfl⟩
  rw [hn] at KM htv0 ⊢
  dsimp only at KM htv0 ⊢
  have HTV := Lib.hid htv0
  have hba : Below w.heap.size w (((w.alloc (.cells #[(.slice pu l.length cu), .int .i64 a0, .int .i64 a1] 26)).alloc (.cells #[.int .i64 c0, .int .i64 c1] 24)).alloc (.cells #[.slice none 0 0, .int .i64 0, .int .i64 0] 26)) := ((((Below.refl _ _).alloc (Nat.le_refl _) _).alloc (by simp) _).alloc (by simp; omega) _)
  have hc0 : MoC (((w.alloc (.cells #[(.slice pu l.length cu), .int .i64 a0, .int .i64 a1] 26)).alloc (.cells #[.int .i64 c0, .int .i64 c1] 24)).alloc (.cells #[.slice none 0 0, .int .i64 0, .int .i64 0] 26)) (w.heap.size) ((.slice pu l.length cu)) (a0, a1) := by
    have e := MoC.new w (.slice pu l.length cu) a0 a1
    exact ((e.alloc _).alloc _)
  have hc1 : IvC (((w.alloc (.cells #[(.slice pu l.length cu), .int .i64 a0, .int .i64 a1] 26)).alloc (.cells #[.int .i64 c0, .int .i64 c1] 24)).alloc (.cells #[.slice none 0 0, .int .i64 0, .int .i64 0] 26)) (w.heap.size + 1) (c0, c1) := by
    have e := IvC.new (w.alloc (.cells #[(.slice pu l.length cu), .int .i64 a0, .int .i64 a1] 26)) c0 c1
    simp only [World.size_alloc] at e
    exact (e.alloc _)
  have hc2 : MoC (((w.alloc (.cells #[(.slice pu l.length cu), .int .i64 a0, .int .i64 a1] 26)).alloc (.cells #[.int .i64 c0, .int .i64 c1] 24)).alloc (.cells #[.slice none 0 0, .int .i64 0, .int .i64 0] 26)) (w.heap.size + 2) (.slice none 0 0) (0, 0) := by
    have e := MoC.new ((w.alloc (.cells #[(.slice pu l.length cu), .int .i64 a0, .int .i64 a1] 26)).alloc (.cells #[.int .i64 c0, .int .i64 c1] 24)) (.slice none 0 0) 0 0
    simp only [World.size_alloc] at e
    exact e
  have HC0 := Lib.hid hc0
  have HC1 := Lib.hid hc1
  have HC2 := Lib.hid hc2
  have HBA := Lib.hid hba
  clear hba hc0 hc1 hc2 hu nu su ha hc hn htv0 ctn cln cvb hC
  go_enter Tryz.func25, Tryz.ntmps25
  go_wp2_with (fail)
  generalize hW0 : World.alloc (World.alloc (World.alloc w _) _) _ = W0 at *
  clear hW0
  have k0 := fun g : Grown W0 => (HC0.out.grow g.h).c0
  have k1 := fun g : Grown W0 => (HC0.out.grow g.h).c1
  have k2 := fun g : Grown W0 => (HC0.out.grow g.h).c2
  dsimp only at k0 k1 k2
  have j0 := fun g : Grown W0 => (HC1.out.grow g.h).c0
  have j1 := fun g : Grown W0 => (HC1.out.grow g.h).c1
  dsimp only at j0 j1
  refine region_pred_l (lk [(5, fun z_ _ => z_ = .agg #[(.slice pu l.length cu), .int .i64 a0, .int .i64 a1]), (6, fun z_ _ => z_ = .agg #[.int .i64 c0, .int .i64 c1]), (7, fun z_ w' => ∃ r, z_ = .agg #[r, .int .i64 d0, .int .i64 d1] ∧ Tx w' r C ∧ CapOk r), (8, fun z_ w' => ∃ r, z_ = .agg #[r, .int .i64 n0, .int .i64 n1] ∧ Tx w' r N ∧ CapOk r)]) 4 _ rfl (by kernel_rfl) (by kernel_rfl) (by kernel_rfl) (lk_steady _ ⟨steady_eq _, steady_eq _, fun u w1 w2 hb ⟨r, h1, h2, h3⟩ => ⟨r, h1, h2.grow hb, h3⟩, fun u w1 w2 hb ⟨r, h1, h2, h3⟩ => ⟨r, h1, h2.grow hb, h3⟩, trivial⟩) ?_ ?_
  · refine ⟨?_, ?_, ?_, ?_, ?_, trivial⟩
    · intro _
      refine ob_plain [2] rfl rfl fun aa g h => ?_
      have yy0 := seen_out (v := .pointer (some ⟨w.heap.size, 0, none⟩)) rfl rfl h.1
      have ee0 := getD_of yy0
      exact tupon_value (v := .agg #[(.slice pu l.length cu), .int .i64 a0, .int .i64 a1]) (by simp [go_sem, ee0, yy0, k0 g, k1 g, k2 g]) (Below.refl _ _) rfl
    · intro _
      refine ob_plain [3] rfl rfl fun aa g h => ?_
      have yy0 := seen_out (v := .pointer (some ⟨w.heap.size + 1, 0, none⟩)) rfl rfl h.1
      have ee0 := getD_of yy0
      exact tupon_value (v := .agg #[.int .i64 c0, .int .i64 c1]) (by simp [go_sem, ee0, yy0, j0 g, j1 g]) (Below.refl _ _) rfl
    · intro _
      refine ob_plain [6] rfl rfl fun aa g h => ?_
      obtain ⟨_, yy0, rfl⟩ := seen_in rfl h.1
      have ee0 := getD_of yy0
      refine tupon_enter (f := 33) (args := #[.agg #[.int .i64 c0, .int .i64 c1]]) (by simp [go_sem, ee0, yy0]) rfl ?_
      exact (KC.out g.w).mono fun e w' ⟨r, he, hx, hc, hB⟩ => ⟨_, he, hB, ⟨r, rfl, hx, hc⟩⟩
    · intro _
      refine ob_plain [5, 7] rfl rfl fun aa g h => ?_
      obtain ⟨_, yy0, rfl⟩ := seen_in rfl h.1
      have ee0 := getD_of yy0
      obtain ⟨_, yy1, ⟨r7, rfl, tx7, cp7⟩⟩ := seen_in rfl h.2.1
      have ee1 := getD_of yy1
      refine tupon_enter (f := 23) (args := #[.agg #[(.slice pu l.length cu), .int .i64 a0, .int .i64 a1], .agg #[r7, .int .i64 d0, .int .i64 d1], .int .i64 6]) (by simp [go_sem, ee0, yy0, ee1, yy1]) rfl ?_
      exact (KM.out r7 g.w (HU.out.grow (below_then HBA.out g.h)) tx7).mono fun e w' ⟨r, he, hx, hc, hB⟩ => ⟨_, he, hB, ⟨r, rfl, hx, hc⟩⟩
    · exact fun h => absurd rfl h
  rintro w5 hB5 _ rfl _ rfl _ ⟨r7, rfl, tx7, cp7⟩ _ ⟨r8, rfl, tx8, cp8⟩
  simp only [Act.put, List.setIfInBounds_toArray, List.set_cons_succ, List.set_cons_zero]
  have hB6 := below_then HBA.out hB5
  have hR5 := HC2.out.grow hB5
  have q0 := hR5.c0
  have q1 := hR5.c1
  have q2 := hR5.c2
  have z0 := hR5.frozen 0
  have z1 := hR5.frozen 1
  have z2 := hR5.frozen 2
  dsimp only at q0 q1 q2
  have hne := hR5.lt
  obtain ⟨pr, nr, cr, rfl, hle, hnil⟩ := cp8
  have HX := Lib.hid tx8
  have HCP : Hid (CapOk (.slice pr nr cr)) := Lib.hid ⟨pr, nr, cr, rfl, hle, hnil⟩
  clear hle hnil
  refine ⟨_, by simp [go_sem, q0, q1, q2, z0, z1, z2]; rfl, ?_⟩
  clear k0 k1 k2 j0 j1
  go_wp2_with (fail)
  have hbe := ((hB6.setCell (p := ⟨w.heap.size + 2, 0, none⟩) (by dsimp only; omega) (.slice pr nr cr)).setCell (p := ⟨w.heap.size + 2, 1, none⟩) (by dsimp only; omega) (.int .i64 n0)).setCell (p := ⟨w.heap.size + 2, 2, none⟩) (by dsimp only; omega) (.int .i64 n1)
  refine bodyPost_ret (v := .agg #[.slice pr nr cr, .int .i64 n0, .int .i64 n1]) (by simp [results, Tryz.results25, go_sem, q0, q1, q2]) rfl ⟨_, rfl, ?_, HCP.out, hbe⟩
  exact tx_moff HX.out HTV.out hR5 _ _ _
end Go.Proofs.YthakeeinhgfbbaaGreat

namespace Go.Proofs.YthakeeinhgfbbaaGreat
open Go.ChangeShapes Go.WideShapes Go.ChangeAt Go.RowKit
set_option linter.unusedVariables false
set_option linter.unusedSimpArgs false
set_option maxRecDepth 100000
attribute [local irreducible] Calls
theorem varT_tn (i : Int) : ∀ t ∈ varT i, TV t ∧ Num t.1 := by
  unfold varT
  split
  · rename_i h
    rcases (show i = 0 ∨ i = 1 ∨ i = 2 ∨ i = 3 ∨ i = 4 ∨ i = 5 by omega) with rfl | rfl | rfl | rfl | rfl | rfl
    all_goals
      intro t ht
      simp only [List.mem_singleton] at ht
      subst ht
      exact ⟨⟨⟨rfl, by decide⟩, by decide, by decide⟩, by unfold Num; decide⟩
  · simp
theorem varT_len (i : Int) : (varT i).length ≤ 1 := by unfold varT; split <;> simp
theorem trunc_num {l : List Tm} {D : Int} {m : Int × Int} : ∀ t ∈ (truncP l D m).1, Num t.1 := by
  unfold truncP
  split
  · simp
  · rename_i hn
    split
    · simp
    · intro t ht
      by_cases q : Num t.1
      · exact q
      · exact absurd (List.any_eq_true.2 ⟨t, (List.mem_filter.1 ht).1, by simp [noNum, q]⟩) hn
theorem trunc_len (l : List Tm) (D : Int) (m : Int × Int) : (truncP l D m).1.length ≤ 100 := by
  unfold truncP
  split
  · simp
  · split
    · simp
    · rename_i h
      dsimp only
      omega
set_option maxHeartbeats 16000000 in
theorem tvar_ok (i a0 a1 : Int) (w : World) (hv : VB2 (a0, a1)) :
    Calls Tryz.prog 35 #[.int .i64 i, .agg #[.int .i64 a0, .int .i64 a1]] w fun e w' => ∃ r, e = .returned (.agg #[r, .int .i64 (varM i (a0, a1)).2.1, .int .i64 (varM i (a0, a1)).2.2]) ∧ Tx w' r (varM i (a0, a1)).1 ∧ CapOk r ∧ Below w.heap.size w w' := by
  have hbd := vb_bdY hv
  have hmn := mid_num hv
  have KM := Lib.hid (fun w => iv_mid a0 a1 w hbd)
  obtain ⟨⟨N, n0, n1⟩, hN⟩ : ∃ R, varM i (a0, a1) = R := ⟨_, rfl⟩
  rw [hN]
  dsimp only
  unfold varM at hN
  unfold midI at hmn hN
  dsimp only at hmn hN
  obtain ⟨m, hm⟩ : ∃ m, (a0 + a1) / 2 = m := ⟨_, rfl⟩
  rw [hm] at KM hmn hN
  obtain ⟨rad, hrad⟩ : ∃ r, a1 - m = r := ⟨_, rfl⟩
  have Wr : IntKind.i64.wrap (a1 - m) = rad := by unfold Num at hmn; dsimp only at hbd; rw [wrap_i64 _ (by omega) (by omega)]; exact hrad
  rw [hrad] at hN
  have KP := Lib.hid (iv_point rad)
  rw [show ptI rad = (mkLo rad rad, mkHi rad rad) from rfl] at hN
  have hpr : entR (mkLo rad rad, mkHi rad rad) = false → Num rad := fun h => by
    by_cases q : Num rad
    · exact q
    · exfalso
      simp [entR, mkLo, mkHi, q] at h
  obtain ⟨p0, h0⟩ : ∃ z, mkLo rad rad = z := ⟨_, rfl⟩
  obtain ⟨p1, h1⟩ : ∃ z, mkHi rad rad = z := ⟨_, rfl⟩
  rw [h0, h1] at KP hN hpr
  have hba : Below w.heap.size w ((w.alloc (.cells #[.int .i64 a0, .int .i64 a1] 24)).alloc (.cells #[.slice none 0 0, .int .i64 0, .int .i64 0] 26)) := (((Below.refl _ _).alloc (Nat.le_refl _) _).alloc (by simp) _)
  have hc0 : IvC ((w.alloc (.cells #[.int .i64 a0, .int .i64 a1] 24)).alloc (.cells #[.slice none 0 0, .int .i64 0, .int .i64 0] 26)) (w.heap.size) (a0, a1) := by
    have e := IvC.new w a0 a1
    exact (e.alloc _)
  have hc1 : MoC ((w.alloc (.cells #[.int .i64 a0, .int .i64 a1] 24)).alloc (.cells #[.slice none 0 0, .int .i64 0, .int .i64 0] 26)) (w.heap.size + 1) (.slice none 0 0) (0, 0) := by
    have e := MoC.new (w.alloc (.cells #[.int .i64 a0, .int .i64 a1] 24)) (.slice none 0 0) 0 0
    simp only [World.size_alloc] at e
    exact e
  have HC0 := Lib.hid hc0
  have HC1 := Lib.hid hc1
  have HBA := Lib.hid hba
  clear hba hc0 hc1 hv hbd hm hrad h0 h1
  go_enter Tryz.func35, Tryz.ntmps35
  go_wp2_with (fail)
  generalize hW0 : World.alloc (World.alloc w _) _ = W0 at *
  clear hW0
  have k0 := HC0.out.c0
  have k1 := HC0.out.c1
  dsimp only at k0 k1
  go_wp2_with (fail)
  refine (KM.out _).mono ?_
  rintro e w1 ⟨rfl, hB1⟩
  have hA1 := HC0.out.grow hB1
  have hM1 := HC1.out.grow hB1
  have hb1 := below_then HBA.out hB1
  clear k0 k1 hB1 HC0 HC1 HBA
  have k0 := hA1.c0
  have k1 := hA1.c1
  dsimp only at k0 k1
  go_wp2_with (fail)
  refine (KP.out _).mono ?_
  rintro e w2 ⟨rfl, hB2⟩
  have hM2 := hM1.grow hB2
  have hb2 := below_then hb1 hB2
  clear k0 k1 hA1 hM1 hb1 hB2
  cases hent : entR (p0, p1) with
  | true =>
    have KE := Lib.hid (fun w => iv_isent p0 p1 true w hent)
    rw [if_pos hent] at hN
    simp only [Prod.mk.injEq] at hN
    obtain ⟨rfl, rfl, rfl⟩ := hN
    clear hent hpr hmn
    go_wp2_with (fail)
    refine (KE.out _).mono ?_
    rintro e w3 ⟨rfl, hB3⟩
    have hM3 := hM2.grow hB3
    have hb3 := below_then hb2 hB3
    go_wp2_with (fail)
    refine (iv_entire _).mono ?_
    rintro e w4 ⟨rfl, hB4⟩
    have hM4 := hM3.grow hB4
    have hb4 := below_then hb3 hB4
    have q0 := hM4.c0
    have q1 := hM4.c1
    have q2 := hM4.c2
    have z0 := hM4.frozen 0
    have z1 := hM4.frozen 1
    have z2 := hM4.frozen 2
    dsimp only at q0 q1 q2
    go_wp2_with (fail)
    refine bodyPost_ret (v := .agg #[.slice none 0 0, .int .i64 (-2147483648), .int .i64 2147483648]) (by simp [results, Tryz.results35, go_sem, q0, q1, q2]) rfl ⟨_, rfl, Tx.nil _ _ _, cap_nil, ?_⟩
    exact ((hb4.setCell (p := ⟨w.heap.size + 1, 0, none⟩) (Nat.le_succ _) _).setCell (p := ⟨w.heap.size + 1, 1, none⟩) (Nat.le_succ _) _).setCell (p := ⟨w.heap.size + 1, 2, none⟩) (Nat.le_succ _) _
  | false =>
    have hnr := hpr hent
    have KE := Lib.hid (fun w => iv_isent p0 p1 false w hent)
    rw [if_neg (by rw [hent]; decide)] at hN
    have hlen : (varT i).length * (constT rad).length ≤ 10000 := Nat.le_trans (Nat.mul_le_mul (varT_len i) (constT_len rad)) (by decide)
    have htn := mulP_tv (varT_tn i) (constT_tv hnr) hlen
    have KV := Lib.hid (fun w => var_ok i w)
    have KS := Lib.hid (fun (v : Value) (w : World) h => scale_ok v (varT i) rad w h (varT_tn i) hnr (by have := varT_len i; omega))
    have hsv := mulR_vb (varT i) (constT rad) 6
    have htl : ∀ t ∈ (mulR (varT i) (constT rad) 6).1, TV t := truncP_tvY htn
    have hnl : ∀ t ∈ (mulR (varT i) (constT rad) 6).1, Num t.1 := trunc_num
    have hll : (mulR (varT i) (constT rad) 6).1.length ≤ 100 := trunc_len _ _ _
    unfold linM at hN
    obtain ⟨⟨S, s0, s1⟩, hS⟩ : ∃ R, mulR (varT i) (constT rad) 6 = R := ⟨_, rfl⟩
    rw [hS] at KS hsv htl hnl hll hN
    dsimp only at KS hsv htl hnl hll hN
    have ctn := constT_tv hmn
    have mtv := merge_tv ctn (fun t ht => ⟨htl t ht, hnl t ht⟩)
    have mln := merge_len (constT m) S
    have cln := constT_len m
    have s62 : ∀ {k : List Tm}, (∀ t ∈ k, TV t ∧ Num t.1) → ∀ t ∈ k, TV t ∧ Small62 t := fun h t ht => ⟨(h t ht).1, by have := (h t ht).2; unfold Num at this; unfold Small62; omega⟩
    have KC := Lib.hid (const_cap m)
    have KA := Lib.hid (fun (u v : Value) (w : World) h1 h2 c1 c2 => add_ok u v (constT m) S w h1 h2 c1 c2 (s62 ctn) (s62 (fun t ht => ⟨htl t ht, hnl t ht⟩)) mtv (by omega) (by omega))
    have hrv := merge_vb (constT m) S
    have htv0 : ∀ t ∈ (truncP (mergeP (constT m) S) 6 (0, 0)).1, TV t := truncP_tvY mtv
    obtain ⟨⟨T, t0, t1⟩, hr⟩ : ∃ R, truncP (mergeP (constT m) S) 6 (0, 0) = R := ⟨_, rfl⟩
    rw [hr] at KA hrv hN htv0
    dsimp only at KA hrv hN htv0
    have KPL := Lib.hid (fun (r v : Value) (w : World) h1 h2 h3 => tplus_ok r v t0 t1 T [(s0, s1)] w h1 h2 h3 hrv (by simpa using hsv))
    unfold foldA at KPL
    simp only [List.foldl_cons, List.foldl_nil] at KPL
    rw [hN] at KPL
    dsimp only at KPL
    have HTV : Hid (∀ t ∈ N, TV t) := Lib.hid (fun t ht => normM_tv htv0 t (by rw [hN]; exact ht))
    obtain ⟨KPx, hkp⟩ : ∃ z : _, z = KPL := ⟨_, rfl⟩
    clear hent hpr hnr hmn hlen htn hsv htl hnl hll hS ctn mtv mln cln s62 hrv hr htv0 hN hkp KPx
    go_wp2_with (fail)
    refine (KE.out _).mono ?_
    rintro e w3 ⟨rfl, hB3⟩
    have hM3 := hM2.grow hB3
    have hb3 := below_then hb2 hB3
    clear hM2 hb2 hB3
    go_wp2_with (fail)
    refine (KV.out _).mono ?_
    rintro e w4 ⟨uv, rfl, hxv, hB4⟩
    have KS2 := Lib.hid (KS.out uv w4 hxv)
    have hM4 := hM3.grow hB4
    have hb4 := below_then hb3 hB4
    obtain ⟨pv, cv, rfl⟩ := hxv.cut
    clear hxv hM3 hb3 hB4
    go_wp2_with (fail)
    refine KS2.out.mono ?_
    rintro e w5 ⟨us, rfl, hxs, hns, hB5⟩
    have hcs := hns.1
    obtain ⟨ps, cs, rfl⟩ := hxs.cut
    have hc5 := IvC.new w5 s0 s1
    have hg5 := (Below.refl w5.heap.size w5).alloc (Nat.le_refl _) (.cells #[.int .i64 s0, .int .i64 s1] 24)
    have HX := Lib.hid (hxs.grow hg5)
    have HCS := Lib.hid hcs
    have HC1 := Lib.hid ((hM4.grow hB5).grow hg5)
    have HBA := Lib.hid (below_then (below_then hb4 hB5) hg5)
    have HC2 := Lib.hid hc5
    clear hxs hns hcs hM4 hb4 hB5 hg5 hc5 KS2
    go_wp2_with (fail)
    generalize hW0 : World.alloc w5 _ = W0 at *
    clear hW0
    have k0 := fun g : Grown W0 => (HC2.out.grow g.h).c0
    have k1 := fun g : Grown W0 => (HC2.out.grow g.h).c1
    dsimp only at k0 k1
    have KP := KPL
    refine region_pred_l (lk [(27, fun z_ _ => z_ = .int .i64 m), (28, fun z_ w' => ∃ p n c, z_ = .slice p n c ∧ Tx w' z_ (constT m) ∧ CapOk z_), (29, fun z_ _ => z_ = (.slice ps S.length cs)), (30, fun z_ w' => ∃ r, z_ = .tuple #[r, .agg #[.int .i64 t0, .int .i64 t1]] ∧ Tx w' r T ∧ CapOk r), (31, fun z_ w' => Tx w' z_ T ∧ CapOk z_), (32, fun z_ _ => z_ = .agg #[.int .i64 t0, .int .i64 t1]), (33, fun z_ w' => ∃ r, z_ = plusV r t0 t1 ∧ Tx w' r T ∧ CapOk r), (34, fun z_ _ => z_ = .agg #[.int .i64 s0, .int .i64 s1]), (35, fun z_ w' => Bx w' z_ [(s0, s1)]), (36, fun z_ w' => ∃ r, z_ = .agg #[r, .int .i64 n0, .int .i64 n1] ∧ Tx w' r N ∧ CapOk r)]) 10 _ rfl (by kernel_rfl) (by kernel_rfl) (by kernel_rfl) (lk_steady _ ⟨steady_eq _, fun u w1 w2 hb ⟨p, n, c, e, h1, h2⟩ => ⟨p, n, c, e, h1.grow hb, h2⟩, steady_eq _, fun u w1 w2 hb ⟨r, h1, h2, h3⟩ => ⟨r, h1, h2.grow hb, h3⟩, fun u w1 w2 hb ⟨h2, h3⟩ => ⟨h2.grow hb, h3⟩, steady_eq _, fun u w1 w2 hb ⟨r, h1, h2, h3⟩ => ⟨r, h1, h2.grow hb, h3⟩, steady_eq _, fun u w1 w2 hb h => h.grow hb, fun u w1 w2 hb ⟨r, h1, h2, h3⟩ => ⟨r, h1, h2.grow hb, h3⟩, trivial⟩) ?_ ?_
    · refine ⟨?_, ?_, ?_, ?_, ?_, ?_, ?_, ?_, ?_, ?_, ?_, trivial⟩
      · intro _
        refine ob_plain [5] rfl rfl fun aa g h => ?_
        have yy0 := seen_out (v := .int .i64 m) rfl rfl h.1
        have ee0 := getD_of yy0
        exact tupon_value (v := .int .i64 m) (by simp [go_sem, ee0, yy0]) (Below.refl _ _) rfl
      · intro _
        refine ob_plain [27] rfl rfl fun aa g h => ?_
        obtain ⟨_, yy0, rfl⟩ := seen_in rfl h.1
        have ee0 := getD_of yy0
        refine tupon_enter (f := 74) (args := #[.int .i64 m]) (by simp [go_sem, ee0, yy0]) rfl ?_
        exact (KC.out g.w).mono fun e w' ⟨r, he, hx, hc, hB⟩ => ⟨_, he, hB, (by obtain ⟨p, n, c, e1, e2⟩ := hc; exact ⟨p, n, c, e1, hx, ⟨p, n, c, e1, e2⟩⟩)⟩
      · intro _
        refine ob_plain [7] rfl rfl fun aa g h => ?_
        have yy0 := seen_out (v := (.slice ps S.length cs)) rfl rfl h.1
        have ee0 := getD_of yy0
        exact tupon_value (v := (.slice ps S.length cs)) (by simp [go_sem, ee0, yy0]) (Below.refl _ _) rfl
      · intro _
        refine ob_plain [28, 29] rfl rfl fun aa g h => ?_
        obtain ⟨_, yy0, ⟨p28, n28, c28, rfl, tx28, cp28⟩⟩ := seen_in rfl h.1
        have ee0 := getD_of yy0
        obtain ⟨_, yy1, rfl⟩ := seen_in rfl h.2.1
        have ee1 := getD_of yy1
        refine tupon_enter (f := 56) (args := #[.slice p28 n28 c28, (.slice ps S.length cs)]) (by simp [go_sem, ee0, yy0, ee1, yy1]) rfl ?_
        exact (KA.out (.slice p28 n28 c28) (.slice ps S.length cs) g.w tx28 (HX.out.grow g.h) cp28 HCS.out).mono fun e w' ⟨r, he, hx, hn, hB⟩ => ⟨_, he, hB, ⟨r, rfl, hx, hn.1⟩⟩
      · intro _
        refine ob_plain [30] rfl rfl fun aa g h => ?_
        obtain ⟨_, yy0, ⟨r30, rfl, tx30, cp30⟩⟩ := seen_in rfl h.1
        have ee0 := getD_of yy0
        exact tupon_value (v := r30) (by simp [go_sem, ee0, yy0]) (Below.refl _ _) ⟨tx30, cp30⟩
      · intro _
        refine ob_plain [30] rfl rfl fun aa g h => ?_
        obtain ⟨_, yy0, ⟨r30, rfl, tx30, cp30⟩⟩ := seen_in rfl h.1
        have ee0 := getD_of yy0
        exact tupon_value (v := .agg #[.int .i64 t0, .int .i64 t1]) (by simp [go_sem, ee0, yy0]) (Below.refl _ _) rfl
      · intro _
        refine ob_plain [31, 32] rfl rfl fun aa g h => ?_
        obtain ⟨v31, yy0, ⟨tx31, cp31⟩⟩ := seen_in rfl h.1
        have ee0 := getD_of yy0
        obtain ⟨_, yy1, rfl⟩ := seen_in rfl h.2.1
        have ee1 := getD_of yy1
        refine tupon_enter (f := 55) (args := #[v31, .agg #[.int .i64 t0, .int .i64 t1]]) (by simp [go_sem, ee0, yy0, ee1, yy1]) rfl ?_
        exact (wr_ok v31 t0 t1 g.w cp31).mono fun e w' ⟨he, hB⟩ => ⟨_, he, hB, ⟨_, rfl, tx31.grow hB, cp31⟩⟩
      · intro _
        refine ob_plain [8] rfl rfl fun aa g h => ?_
        have yy0 := seen_out (v := .pointer (some ⟨w5.heap.size, 0, none⟩)) rfl rfl h.1
        have ee0 := getD_of yy0
        exact tupon_value (v := .agg #[.int .i64 s0, .int .i64 s1]) (by simp [go_sem, ee0, yy0, k0 g, k1 g]) (Below.refl _ _) rfl
      · intro _
        refine ob_plain [34] rfl rfl fun aa g h => ?_
        obtain ⟨_, yy0, rfl⟩ := seen_in rfl h.1
        have ee0 := getD_of yy0
        exact tupon_value (v := .slice (some ⟨g.w.heap.size, 0, none⟩) 1 1) (w1 := g.w.alloc (.cells #[.int .i64 s0, .int .i64 s1] 24)) (by simp [go_sem, ee0, yy0]) ((Below.refl _ _).alloc (Nat.le_refl _) _) (bx_l1 _ _ _ )
      · intro _
        refine ob_plain [33, 35] rfl rfl fun aa g h => ?_
        obtain ⟨_, yy0, ⟨r33, rfl, tx33, cp33⟩⟩ := seen_in rfl h.1
        have ee0 := getD_of yy0
        obtain ⟨v35, yy1, bx35⟩ := seen_in rfl h.2.1
        have ee1 := getD_of yy1
        refine tupon_enter (f := 96) (args := #[.agg #[r33, .int .i64 t0, .int .i64 t1], v35]) (by simp [go_sem, ee0, yy0, ee1, yy1, plusV]) rfl ?_
        exact (KP.out r33 v35 g.w tx33 cp33 bx35).mono fun e w' ⟨r, he, hx, hc, hB⟩ => ⟨_, he, hB, ⟨r, rfl, hx, hc⟩⟩
      · exact fun h => absurd rfl h
    rintro wq hB5 _ rfl _ ⟨p28, n28, c28, rfl, tx28, cp28⟩ _ rfl _ ⟨r30, rfl, tx30, cp30⟩ v31 ⟨tx31, cp31⟩ _ rfl _ ⟨r33, rfl, tx33, cp33⟩ _ rfl v35 bx35 _ ⟨r36, rfl, tx36, cp36⟩
    simp only [Act.put, List.setIfInBounds_toArray, List.set_cons_succ, List.set_cons_zero]
    have hB6 := below_then HBA.out hB5
    have hR5 := HC1.out.grow hB5
    have q0 := hR5.c0
    have q1 := hR5.c1
    have q2 := hR5.c2
    have z0 := hR5.frozen 0
    have z1 := hR5.frozen 1
    have z2 := hR5.frozen 2
    dsimp only at q0 q1 q2
    have hne := hR5.lt
    obtain ⟨pr, nr, cr, rfl, hle, hnil⟩ := cp36
    have HX := Lib.hid tx36
    have HCP : Hid (CapOk (.slice pr nr cr)) := Lib.hid ⟨pr, nr, cr, rfl, hle, hnil⟩
    clear hle hnil
    refine ⟨_, by simp [go_sem, q0, q1, q2, z0, z1, z2]; rfl, ?_⟩
    clear k0 k1
    go_wp2_with (fail)
    have hbe := ((hB6.setCell (p := ⟨w.heap.size + 1, 0, none⟩) (by dsimp only; omega) (.slice pr nr cr)).setCell (p := ⟨w.heap.size + 1, 1, none⟩) (by dsimp only; omega) (.int .i64 n0)).setCell (p := ⟨w.heap.size + 1, 2, none⟩) (by dsimp only; omega) (.int .i64 n1)
    refine bodyPost_ret (v := .agg #[.slice pr nr cr, .int .i64 n0, .int .i64 n1]) (by simp [results, Tryz.results35, go_sem, q0, q1, q2]) rfl ⟨_, rfl, ?_, HCP.out, hbe⟩
    exact tx_moff HX.out HTV.out hR5 _ _ _
set_option maxHeartbeats 8000000 in
theorem tvalid_ok (u : Value) (a0 a1 : Int) (l : List Tm) (R : Bool) (w : World) (hu : Tx w u l) (hl : ∀ t ∈ l, TV t) (hR : R = true ↔ VP l ∧ VI a0 a1 ∧ (l = [] ∨ ¬ Ent a0 a1)) :
    Calls Tryz.prog 14 #[.agg #[u, .int .i64 a0, .int .i64 a1]] w fun e w' => e = .returned (.bool R) ∧ Below w.heap.size w w' := by
  obtain ⟨pu, cu, rfl⟩ := hu.cut
  have HU := Lib.hid hu
  have HL := Lib.hid hl
  obtain ⟨V, hV⟩ : ∃ V : Bool, V = true ↔ VP l := ⟨vpB l, vpB_iff l⟩
  have KV := Lib.hid (fun w h => pvalid_ok (.slice pu l.length cu) l V w h HL.out hV)
  have KI := Lib.hid (fun w => iv_valid a0 a1 (decide (VI a0 a1)) w rfl)
  have KE := Lib.hid (fun w => iv_isent a0 a1 ((a0 == -2147483648) && (a1 == 2147483648)) w rfl)
  have hEE : ((a0 == -2147483648) && (a1 == 2147483648)) = true ↔ Ent a0 a1 := by unfold Ent; simp
  obtain ⟨E, hE⟩ : ∃ E, ((a0 == -2147483648) && (a1 == 2147483648)) = E := ⟨_, rfl⟩
  obtain ⟨I, hI⟩ : ∃ I, decide (VI a0 a1) = I := ⟨_, rfl⟩
  have hII : I = true ↔ VI a0 a1 := by rw [← hI]; simp
  rw [hE] at KE hEE
  rw [hI] at KI
  have hRR : R = (V && I && (decide (l.length = 0) || !E)) := by
    rw [Bool.eq_iff_iff, hR]
    simp only [Bool.and_eq_true, Bool.or_eq_true, decide_eq_true_eq, List.length_eq_zero_iff, hV, hII, Bool.not_eq_true', and_assoc]
    have : E = false ↔ ¬ Ent a0 a1 := by rw [← hEE]; simp
    rw [this]
  subst hRR
  have l0 : ((l.length : Int) == 0) = decide (l.length = 0) := by
    by_cases h : l.length = 0
    · rw [h]; rfl
    · have : ¬ (l.length : Int) = 0 := by omega
      simp [h, this]
  obtain ⟨Z, hZ⟩ : ∃ Z, decide (l.length = 0) = Z := ⟨_, rfl⟩
  rw [hZ] at l0
  rw [hZ]
  have hba : Below w.heap.size w (w.alloc (.cells #[(.slice pu l.length cu), .int .i64 a0, .int .i64 a1] 26)) := ((Below.refl _ _).alloc (Nat.le_refl _) _)
  have hc0 : MoC (w.alloc (.cells #[(.slice pu l.length cu), .int .i64 a0, .int .i64 a1] 26)) (w.heap.size) ((.slice pu l.length cu)) (a0, a1) := by
    have e := MoC.new w (.slice pu l.length cu) a0 a1
    exact e
  have HC0 := Lib.hid hc0
  have HBA := Lib.hid hba
  clear hba hc0 hu hl hV hE hEE hI hII hZ hR
  go_enter Tryz.func14, Tryz.ntmps14
  go_wp2_with (fail)
  generalize hW0 : World.alloc w _ = W0 at *
  clear hW0
  have k0 := HC0.out.c0
  try dsimp only at k0
  go_wp2_with (fail)
  refine (KV.out _ (HU.out.grow HBA.out)).mono ?_
  rintro e w1 ⟨rfl, hB1⟩
  have hM1 := HC0.out.grow hB1
  have hb1 := below_then HBA.out hB1
  have q1 := hM1.c1
  have q2 := hM1.c2
  dsimp only at q1 q2
  clear k0 hB1
  cases V with
  | false =>
    go_wp2_with (fail)
    go_ret
    exact ⟨rfl, hb1⟩
  | true =>
    go_wp2_with (fail)
    refine (KI.out _).mono ?_
    rintro e w2 ⟨rfl, hB2⟩
    have hM2 := hM1.grow hB2
    have hb2 := below_then hb1 hB2
    have r0 := hM2.c0
    have r1 := hM2.c1
    have r2 := hM2.c2
    dsimp only at r0 r1 r2
    clear q1 q2 hB2
    cases I with
    | false =>
      go_wp2_with (fail)
      go_ret
      exact ⟨rfl, hb2⟩
    | true =>
      cases Z with
      | true =>
        go_wp2_with (fail)
        go_ret
        exact ⟨rfl, hb2⟩
      | false =>
        go_wp2_with (fail)
        refine (KE.out _).mono ?_
        rintro e w3 ⟨rfl, hB3⟩
        have hb3 := below_then hb2 hB3
        clear r0 r1 r2
        go_wp2_with (fail)
        go_ret
        exact ⟨by cases E <;> rfl, hb3⟩
theorem span_ok (a b : Int) (w : World) (ha : -1000000 ≤ a ∧ a ≤ 1000000) (hb : -1000000 ≤ b ∧ b ≤ 1000000) :
    Calls Tryz.prog 43 #[.int .i64 a, .int .i64 b] w fun e w' => e = .returned (.agg #[.int .i64 (a * 65536), .int .i64 (b * 65536)]) ∧ Below w.heap.size w w' := by
  have W1 : IntKind.i64.wrap (a * 65536) = a * 65536 := wrap_i64 _ (by omega) (by omega)
  have W2 : IntKind.i64.wrap (b * 65536) = b * 65536 := wrap_i64 _ (by omega) (by omega)
  clear ha hb
  go_enter Tryz.func43, Tryz.ntmps43
  go_wp2_with (fail)
  refine bodyPost_ret (v := .agg #[.int .i64 (a * 65536), .int .i64 (b * 65536)]) (by simp [results, Tryz.results43, go_sem, W1, W2]) rfl ⟨rfl, ?_⟩
  go_grown
theorem term_ok (c a b : Int) (w : World) (hc : -1000000 ≤ c ∧ c ≤ 1000000) :
    Calls Tryz.prog 47 #[.int .i64 c, .int .u8 a, .int .u8 b] w fun e w' => e = .returned (.agg #[.int .i64 (c * 65536), .int .u8 a, .int .u8 b, .int .u8 0, .int .u8 0, .int .u8 0, .int .u8 0]) ∧ Below w.heap.size w w' := by
  have W1 : IntKind.i64.wrap (c * 65536) = c * 65536 := wrap_i64 _ (by omega) (by omega)
  clear hc
  go_enter Tryz.func47, Tryz.ntmps47
  go_wp2_with (fail)
  refine bodyPost_ret (v := .agg #[.int .i64 (c * 65536), .int .u8 a, .int .u8 b, .int .u8 0, .int .u8 0, .int .u8 0, .int .u8 0]) (by simp [results, Tryz.results47, go_sem, W1]) rfl ⟨rfl, ?_⟩
  go_grown
set_option maxHeartbeats 4000000 in
theorem rsame_ok (u v : Value) (a0 a1 b0 b1 : Int) (l m : List Tm) (w : World) (hu : Tx w u l) (hv : Tx w v m) (hl : ∀ t ∈ l, TV t) (hm : ∀ t ∈ m, TV t) :
    Calls Tryz.prog 16 #[.agg #[u, .int .i64 a0, .int .i64 a1], .agg #[v, .int .i64 b0, .int .i64 b1]] w fun e w' => e = .returned (.bool (((a0 == b0) && (a1 == b1)) && decide (l = m))) ∧ Below w.heap.size w w' := by
  obtain ⟨pu, cu, rfl⟩ := hu.cut
  obtain ⟨pv, cv, rfl⟩ := hv.cut
  have HU := Lib.hid hu
  have HV := Lib.hid hv
  have KS := Lib.hid (fun w h1 h2 => r5same (.slice pu l.length cu) (.slice pv m.length cv) l m w h1 h2 hl hm)
  obtain ⟨D, hD⟩ : ∃ D, decide (l = m) = D := ⟨_, rfl⟩
  rw [hD] at KS ⊢
  have HB0 : Hid (Below w.heap.size w ((w.alloc (.cells #[.slice pu l.length cu, .int .i64 a0, .int .i64 a1] 26)).alloc (.cells #[.slice pv m.length cv, .int .i64 b0, .int .i64 b1] 26))) := Lib.hid (((Below.refl _ _).alloc (Nat.le_refl _) _).alloc (by simp) _)
  clear hu hv hl hm hD
  go_enter Tryz.func16, Tryz.ntmps16
  go_wp2_with (fail)
  · rename_i h0 h1 _ _
    subst h0 h1
    refine (KS.out _ (HU.out.grow HB0.out) (HV.out.grow HB0.out)).mono ?_
    rintro e w1 ⟨rfl, hB1⟩
    have hb1 := below_then HB0.out hB1
    go_wp2_with (fail)
    go_ret
    exact ⟨by cases D <;> simp, hb1⟩
  · rename_i h0 h1
    exact bodyPost_ret (v := .bool false) (by simp [results, Tryz.results16, go_sem]) rfl ⟨by simp [h0, h1], by subst h0; exact HB0.out⟩
  · rename_i h0
    exact bodyPost_ret (v := .bool false) (by simp [results, Tryz.results16, go_sem]) rfl ⟨by simp [h0], HB0.out⟩
/-- The cells of a slice of intervals. -/
def cz : List (Int × Int) → List Value
  | [] => []
  | p :: l => .int .i64 p.1 :: .int .i64 p.2 :: cz l
theorem cz_app : ∀ (l m : List (Int × Int)), cz (l ++ m) = cz l ++ cz m
  | [], _ => rfl
  | p :: l, m => by simp [cz, cz_app l m]
theorem cz_len : ∀ (l : List (Int × Int)), (cz l).length = l.length * 2
  | [] => rfl
  | p :: l => by simp [cz, cz_len l]; omega
theorem cz_get : ∀ (l : List (Int × Int)) (k : Nat) (x : Int × Int), l[k]? = some x → (cz l)[k * 2]? = some (.int .i64 x.1) ∧ (cz l)[k * 2 + 1]? = some (.int .i64 x.2)
  | [], k, x, h => by simp at h
  | p :: l, 0, x, h => by simp at h; subst h; simp [cz]
  | p :: l, k + 1, x, h => by
    have := cz_get l k x (by simpa using h)
    rw [show (k + 1) * 2 = k * 2 + 1 + 1 by omega]
    simpa [cz] using this
/-- A row of its own that holds intervals is a box. -/
theorem Bx.own {W : World} {B : Nat} {v : Value} {l : List (Int × Int)} (h : W.ownsRow B 24 2 v l.length (cz l)) (hl : l.length ≤ maxLen) : Bx W v l := by
  rcases h.2 with ⟨rfl, h0⟩ | ⟨g, cap, cur, rfl, hb, hg, hrest⟩
  · have : l = [] := List.length_eq_zero_iff.1 h0
    subst this
    exact Bx.nil
  · refine ⟨hl, _, cap, rfl, fun k x hx => ⟨g, 0, rfl, (Array.getElem?_eq_some_iff.1 hg).1, ?_, ?_⟩⟩
    · have hk := (List.getElem?_eq_some_iff.1 hx).1
      rw [Nat.zero_add, h.cellAt (k * 2) (by omega)]
      exact (cz_get l k x hx).1
    · have hk := (List.getElem?_eq_some_iff.1 hx).1
      rw [Nat.zero_add, h.cellAt (k * 2 + 1) (by omega)]
      exact (cz_get l k x hx).2
theorem info_iv : (Tryz.prog.info? 24).map (fun i => (i.zero, i.size, i.bytes)) = some (some (.agg #[.int .i64 0, .int .i64 0]), 2, 16) := by kernel_rfl
theorem two_new (w : World) (x y : Value) (t : TypeId) : ∀ j u, [x, y][j]? = some u → (w.alloc (.cells #[x, y] t)).cell? ((⟨w.heap.size, 0, none⟩ : Addr).add j) = some u := by
  intro j u hj
  match j, hj with
  | 0, hj => simp at hj; subst hj; simp [Addr.add]
  | 1, hj => simp at hj; subst hj; simp [Addr.add]
theorem two_one (x y : Int) : ∀ u ∈ [Value.int .i64 x, Value.int .i64 y], u.oneCell' = true := by
  intro u hu
  simp at hu
  rcases hu with rfl | rfl <;> rfl
theorem cz_snocY (l : List (Int × Int)) (x y : Int) : cz (l ++ [(x, y)]) = cz l ++ [.int .i64 x, .int .i64 y] := by rw [cz_app]; rfl
/-- The slice v holds the numbers l, of eight bits. -/
def S8 (w : World) (v : Value) (l : List Int) : Prop := l.length ≤ maxLen ∧ ∃ p cap, v = .slice p l.length cap ∧
  ∀ k x, l[k]? = some x → ∃ b o, p = some ⟨b, o, none⟩ ∧ b < w.heap.size ∧ w.cell? ⟨b, o + k, none⟩ = some (.int .i8 x)
theorem S8.grow {w w' : World} {v : Value} {l : List Int} (h : S8 w v l) (hb : Below w.heap.size w w') : S8 w' v l := by
  obtain ⟨hl, p, cap, rfl, h⟩ := h
  refine ⟨hl, p, cap, rfl, fun k x hx => ?_⟩
  obtain ⟨b, o, rfl, h1, h2⟩ := h k x hx
  exact ⟨b, o, rfl, Nat.lt_of_lt_of_le h1 hb.size, (hb.cell (p := ⟨b, o + k, none⟩) h1).trans h2⟩
def cnr (l : List Int) (k : Nat) : Int := match l[k]? with | some x => x.tmod 2 | none => 0
def cornerB (l : List Int) : List (Int × Int) := (List.range 6).map fun k => ptI (cnr l k * 65536)
theorem corner_snoc (l : List Int) {k : Nat} (h : k < 6) : (cornerB l).take (k + 1) = (cornerB l).take k ++ [ptI (cnr l k * 65536)] := by
  unfold cornerB
  rw [List.take_add_one, List.getElem?_map, List.getElem?_range h]
  rfl
theorem cnr_bd (l : List Int) (k : Nat) : -1 ≤ cnr l k ∧ cnr l k ≤ 1 := by
  unfold cnr
  split
  · rename_i x _
    have h1 := Int.tmod_lt_of_pos x (b := 2) (by decide)
    have h2 := Int.tmod_lt_of_pos (-x) (b := 2) (by decide)
    rw [Int.neg_tmod] at h2
    omega
  · decide
theorem own_emptyC (W : World) : (W.alloc (.cells #[] 24)).ownsRow W.heap.size 24 2 (.slice (some ⟨W.heap.size, 0, none⟩) 0 0) 0 [] :=
  ⟨rfl, .inr ⟨W.heap.size, 0, #[], rfl, Nat.le_refl _, World.alloc_heap_new W _, Nat.le_refl _, Nat.zero_le _, rfl, rfl⟩⟩
set_option maxHeartbeats 8000000 in
theorem corner_ok (v : Value) (l : List Int) (w : World) (hv : S8 w v l) (hl : ∀ x ∈ l, -128 ≤ x ∧ x ≤ 127) :
    Calls Tryz.prog 44 #[v] w fun e w' => ∃ r, e = .returned r ∧ Bx w' r (cornerB l) ∧ Below w.heap.size w w' := by
  obtain ⟨hm1, p, cap, rfl, hcl⟩ := hv
  unfold maxLen at hm1
  obtain ⟨i0, hi, hz0, hz1, hz2⟩ := info_parts info_iv
  have HCL := Lib.hid hcl
  have HL := Lib.hid hl
  have ho := own_emptyC w
  have hba : Below w.heap.size w (w.alloc (.cells #[] 24)) := (Below.refl _ _).alloc (Nat.le_refl _) _
  have HO := Lib.hid ho
  clear hcl hl ho
  go_enter Tryz.func44, Tryz.ntmps44
  go_wp2_with (fail)
  go_loopw [3, 4] (fun u i wr => ∃ k : Nat, i = .int .i64 k ∧ k ≤ 6 ∧ Hid (wr.ownsRow w.heap.size 24 2 u k (cz ((cornerB l).take k))) ∧ Below w.heap.size w wr) (fun _ i _ => 6 - (intOf i).toNat)
  case atStart => exact ⟨0, rfl, by decide, HO, hba⟩
  case round =>
    clear HO hba
    obtain ⟨k, rfl, hk, HR, hB⟩ := hrel
    by_cases hk6 : k < 6
    · have i1 : (k : Int) < 6 := by omega
      have hcb := cnr_bd l k
      have hsn := corner_snoc l hk6
      have HPT := Lib.hid (fun c w => r2point c w)
      obtain ⟨C, hC⟩ : ∃ C, cnr l k = C := ⟨_, rfl⟩
      rw [hC] at hcb hsn
      have Wc : IntKind.i64.wrap (C * 65536) = C * 65536 := wrap_i64 _ (by omega) (by omega)
      have KP := HPT.out (C * 65536)
      rw [show ptI (C * 65536) = (mkLo (C * 65536) (C * 65536), mkHi (C * 65536) (C * 65536)) from rfl] at hsn
      obtain ⟨p0, h0⟩ : ∃ z, mkLo (C * 65536) (C * 65536) = z := ⟨_, rfl⟩
      obtain ⟨p1, h1⟩ : ∃ z, mkHi (C * 65536) (C * 65536) = z := ⟨_, rfl⟩
      rw [h0, h1] at hsn KP
      have KPH := Lib.hid KP
      have HSN := Lib.hid hsn
      have hsz := hB.size
      clear h0 h1 hsn KP HPT
      by_cases hkl : k < l.length
      · have i2 : (k : Int) < l.length := by omega
        obtain ⟨x, hx⟩ : ∃ x, l[k]? = some x := ⟨_, List.getElem?_eq_getElem hkl⟩
        have hxb := HL.out x (List.mem_of_getElem? hx)
        obtain ⟨b, o, rfl, hb, hcell⟩ := HCL.out k x hx
        have f0 := (hB.cell (p := ⟨b, o + k, none⟩) hb).trans hcell
        have Wx : IntKind.i64.wrap x = x := wrap_i64 _ (by omega) (by omega)
        have Tx2 : x.tmod 2 = C := by rw [← hC]; simp [cnr, hx]
        clear hx hcell hC hxb
        go_wp2_with (fail)
        refine (KPH.out _).mono ?_
        rintro e w5 ⟨rfl, hB5⟩
        have hrow := (own_keptT HR.out hB5).alloc (.cells #[.int .i64 p0, .int .i64 p1] 24)
        have hB6 : Below w.heap.size w (w5.alloc (.cells #[.int .i64 p0, .int .i64 p1] 24)) := (hB.trans (hB5.mono hsz)).alloc (by have := hB5.size; omega) _
        clear f0
        go_wp2_with (at_builtin; refine wpList_append_own _ rfl (.tmp 22) (.tmp 25) 44 rfl w.heap.size 24 i0 (.agg #[.int .i64 0, .int .i64 0]) 2 16 Tryz.underlying44 hi hz0 hz1 hz2 rfl (by decide) _ k _ rfl hrow ⟨w5.heap.size, 0, none⟩ 1 1 [.int .i64 p0, .int .i64 p1] rfl rfl (two_new w5 (.int .i64 p0) (.int .i64 p1) 24) (two_one _ _) (by unfold maxLen; omega) (by omega) (by simp; have := hB5.size; omega) ?_)
        intro v6 w6 hown6 hg6 _
        have hB7 : Below w.heap.size w w6 := Below.grown hB6 hg6 (by simp; have := hB5.size; omega) (fun j hj => (hrow.lt j hj).1)
        have HO6 : Hid (w6.ownsRow w.heap.size 24 2 v6 (k + 1) (cz ((cornerB l).take (k + 1)))) := Lib.hid (by rw [HSN.out, cz_snocY]; exact hown6)
        clear hown6 hg6 hrow hB6 hB5
        go_wp2_with (fail)
        exact ⟨⟨k + 1, by go_num, by omega, HO6, hB7⟩, by simp [intOf]; omega⟩
      · have i2 : ¬ (k : Int) < l.length := by omega
        obtain rfl : C = 0 := by rw [← hC]; simp [cnr, List.getElem?_eq_none (Nat.le_of_not_lt hkl)]
        simp only [Int.zero_mul] at KPH
        clear hC
        go_wp2_with (fail)
        refine (KPH.out _).mono ?_
        rintro e w5 ⟨rfl, hB5⟩
        have hrow := (own_keptT HR.out hB5).alloc (.cells #[.int .i64 p0, .int .i64 p1] 24)
        have hB6 : Below w.heap.size w (w5.alloc (.cells #[.int .i64 p0, .int .i64 p1] 24)) := (hB.trans (hB5.mono hsz)).alloc (by have := hB5.size; omega) _
        go_wp2_with (at_builtin; refine wpList_append_own _ rfl (.tmp 22) (.tmp 25) 44 rfl w.heap.size 24 i0 (.agg #[.int .i64 0, .int .i64 0]) 2 16 Tryz.underlying44 hi hz0 hz1 hz2 rfl (by decide) _ k _ rfl hrow ⟨w5.heap.size, 0, none⟩ 1 1 [.int .i64 p0, .int .i64 p1] rfl rfl (two_new w5 (.int .i64 p0) (.int .i64 p1) 24) (two_one _ _) (by unfold maxLen; omega) (by omega) (by simp; have := hB5.size; omega) ?_)
        intro v6 w6 hown6 hg6 _
        have hB7 : Below w.heap.size w w6 := Below.grown hB6 hg6 (by simp; have := hB5.size; omega) (fun j hj => (hrow.lt j hj).1)
        have HO6 : Hid (w6.ownsRow w.heap.size 24 2 v6 (k + 1) (cz ((cornerB l).take (k + 1)))) := Lib.hid (by rw [HSN.out, cz_snocY]; exact hown6)
        clear hown6 hg6 hrow hB6 hB5
        go_wp2_with (fail)
        exact ⟨⟨k + 1, by go_num, by omega, HO6, hB7⟩, by simp [intOf]; omega⟩
    · obtain rfl : k = 6 := by omega
      have hbx := Bx.own (l := cornerB l) (by have := HR.out; rwa [List.take_of_length_le (by simp [cornerB])] at this) (by simp [cornerB, maxLen])
      have HBX := Lib.hid hbx
      clear hbx
      have i1 : ¬ ((6 : Nat) : Int) < 6 := by omega
      go_wp2_with (fail)
      go_ret
      exact ⟨_, rfl, HBX.out, hB⟩
end Go.Proofs.YthakeeinhgfbbaaGreat
