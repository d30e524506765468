/-
  Package poly: variable, the function that powers returns, powers.
-/
import Derived.Test.YtcamjoddaeefdaaPa
namespace Go.Proofs.Ytcamjoddaeefdaa
open Go.ChangeShapes Go.WideShapes Go.ChangeAt Go.RowKit
set_option linter.unusedVariables false
set_option linter.unusedSimpArgs false
set_option maxRecDepth 100000

attribute [local irreducible] Calls
theorem heap_grownT {W W' : World} {b c : Nat} {o : Obj} (hg : W.grownBy W' (some b)) (hne : c ≠ b) (h : W.heap[c]? = some o) : W'.heap[c]? = some o :=
  (hg.block c (Array.getElem?_eq_some_iff.1 h).1 (fun e => hne (Option.some.inj e))).trans h
theorem _root_.Go.World.grownBy.thenG {A B C : World} {r : Option Nat} (h : A.grownBy B r) (k : B.grownBy C r) : A.grownBy C r :=
  ⟨k.os.trans h.os, k.tape.trans h.tape, k.output.trans h.output, Nat.le_trans h.size k.size, fun i hi hr => (k.block i (Nat.lt_of_lt_of_le hi h.size) hr).trans (h.block i hi hr)⟩
theorem _root_.Go.World.grownBy.newset {A B : World} {r : Option Nat} (h : A.grownBy B r) {b : Nat} (hb : A.heap.size ≤ b) (o : Nat) (v : Value) : A.grownBy (B.setCell ⟨b, o, none⟩ v) r :=
  ⟨h.os, h.tape, h.output, by simpa using h.size, fun i hi hr => (Below.heap_setCell _ _ _ i (by dsimp only; omega)).trans (h.block i hi hr)⟩
theorem grown_any {W W' : World} (h : Below W.heap.size W W') (r : Option Nat) : W.grownBy W' r := ⟨h.os, h.tape, h.output, h.size, fun k hk _ => h.block k hk⟩
set_option maxHeartbeats 2000000 in
theorem variable_ok (vb : Value) (l : List (Int × Int)) (i : Nat) (w : World) (hb : Bx w vb l) :
    Calls Try.prog 70 #[vb, .int .i64 i] w fun e w' => e = .returned (.agg #[.int .i64 (varX l i).1, .int .i64 (varX l i).2]) ∧ Below w.heap.size w w' := by
  obtain ⟨hl, p, c, rfl, hp⟩ := hb
  unfold maxLen at hl
  by_cases h : i < l.length
  · have hi : (i : Int) < l.length := by omega
    obtain ⟨b, o, x, y, rfl, hx, hb, c1, c2⟩ := Bx.at (c := 0) (n := 0) hp h (Below.refl _ _)
    have hv : varX l i = (x, y) := by unfold varX; rw [hx]; rfl
    rw [hv]
    dsimp only
    clear hv hx hp
    go_enter Try.func70, Try.ntmps70
    go_wp2_with (fail)
    refine bodyPost_ret (v := .agg #[.int .i64 x, .int .i64 y]) (by simp [results, Try.results70, go_sem]) rfl ⟨rfl, ?_⟩
    go_grown
  · have hi : (l.length : Int) ≤ i := by omega
    have hv : varX l i = (-65536, 65536) := by unfold varX; rw [List.getElem?_eq_none (by omega)]; rfl
    rw [hv]
    dsimp only
    have HC := Lib.hid (fun w => iv_new (-65536) 65536 w (by decide))
    rw [show mkLo (-65536) 65536 = -65536 by decide, show mkHi (-65536) 65536 = 65536 by decide] at HC
    clear hv hp
    go_enter Try.func70, Try.ntmps70
    go_wp2_with (fail)
    refine (HC.out _).mono ?_
    rintro e w1 ⟨rfl, hB⟩
    obtain ⟨kc, kf⟩ := bcell hB
    have hz := hB.size
    simp only [World.size_alloc] at hz
    have hs0 : w.heap.size < w1.heap.size := by omega
    have hB' := below_then ((Below.refl w.heap.size w).alloc (Nat.le_refl _) _) hB
    have q0 := kc w.heap.size 0 (by simp)
    have q1 := kc w.heap.size 1 (by simp)
    have z0 := kf w.heap.size 0 (by simp)
    have z1 := kf w.heap.size 1 (by simp)
    simp [go_sem] at q0 q1 z0 z1
    go_wp2_with (fail)
    refine bodyPost_ret (v := .agg #[.int .i64 (-65536), .int .i64 65536]) (by simp [results, Try.results70, go_sem, q0, q1]) rfl ⟨rfl, ?_⟩
    go_grown
theorem IvC.new (W : World) (x y : Int) : IvC (W.alloc (.cells #[.int .i64 x, .int .i64 y] 33)) W.heap.size (x, y) := World.alloc_heap_new W _
theorem IvC.alloc {W : World} {b : Nat} {p : Int × Int} (h : IvC W b p) (o : Obj) : IvC (W.alloc o) b p := (Below.heap_alloc W o b h.lt).trans h
set_option maxHeartbeats 16000000 in
theorem power_ok (w : World) (vb : Value) (l : List (Int × Int)) (hbx : Bx w vb l) (hl : ∀ p ∈ l, VB2 p) : ∀ n : Nat, 1 ≤ n → n ≤ 255 → ∀ i : Nat, i < 6 → ∀ (N : Nat) (W : World), N + 2 * n ≤ 10000000 → PwI w vb l N W →
    Calls Try.prog 69 #[.int .i64 i, .int .u8 n, .pointer (some ⟨w.heap.size + 2, 0, none⟩), .pointer (some ⟨w.heap.size, 0, none⟩), .pointer (some ⟨w.heap.size + 3, 0, none⟩)] W fun e w' => e = .returned (.agg #[.int .i64 (powX (varX l i) n).1, .int .i64 (powX (varX l i) n).2]) ∧ (∃ N', N' + 1 ≤ N + 2 * n ∧ PwI w vb l N' w') ∧ W.grownBy w' (some (w.heap.size + 1)) := by
  intro n
  induction n using Nat.strongRecOn with
  | _ n ih =>
  intro hn1 hn2 i hi N W hN hP
  have hv := varX_vb hl i
  obtain ⟨⟨p, q⟩, hpq⟩ : ∃ R, powX (varX l i) n = R := ⟨_, rfl⟩
  rw [hpq]
  dsimp only
  have HPQ := Lib.hid hpq
  have HBX := Lib.hid hbx
  have hsz := hP.siz
  have hb0 : Below W.heap.size W (W.alloc (.cells #[.int .i64 0, .int .i64 0] 33)) := (Below.refl _ _).alloc (Nat.le_refl _) _
  have hP0 := hP.grow hb0
  obtain ⟨a, b, ok, hlk, hok⟩ := hP0.look hi hn2
  rw [show aV i n = .agg #[.int .i64 i, .int .u8 n] from rfl] at hlk
  have k0 := hP0.kb.cell
  have hb1 : Below W.heap.size W ((W.alloc (.cells #[.int .i64 0, .int .i64 0] 33)).alloc (.cells #[.int .i64 a, .int .i64 b] 33)) := hb0.alloc (by simp) _
  have HP1 := Lib.hid (hP.grow hb1)
  have HG1 := Lib.hid (grown_any hb1 (some (w.heap.size + 1)))
  have HR1 : Hid (IvC ((W.alloc (.cells #[.int .i64 0, .int .i64 0] 33)).alloc (.cells #[.int .i64 a, .int .i64 b] 33)) W.heap.size (0, 0)) := Lib.hid ((IvC.new W 0 0).alloc _)
  have HX1 : Hid (IvC ((W.alloc (.cells #[.int .i64 0, .int .i64 0] 33)).alloc (.cells #[.int .i64 a, .int .i64 b] 33)) (W.heap.size + 1) (a, b)) := Lib.hid (by have := IvC.new (W.alloc (.cells #[.int .i64 0, .int .i64 0] 33)) a b; rwa [World.size_alloc] at this)
  have HPP := Lib.hid hP
  clear hpq hbx hP hP0 hb0 hb1
  cases ok with
  | true =>
    have e := hok rfl
    rw [HPQ.out] at e
    simp only [Prod.mk.injEq] at e
    obtain ⟨rfl, rfl⟩ := e
    clear hok ih
    go_enter Try.func69, Try.ntmps69
    go_wp2_with (fail)
    have hbf : Below W.heap.size W ((W.alloc (.cells #[.int .i64 a, .int .i64 b] 33)).alloc (.cells #[.int .i64 a, .int .i64 b] 33)) := ((Below.refl _ _).alloc (Nat.le_refl _) _).alloc (by simp) _
    refine bodyPost_ret (v := .agg #[.int .i64 a, .int .i64 b]) (by simp [results, Try.results69, go_sem]) rfl ⟨rfl, ⟨N, by omega, HPP.out.grow hbf⟩, grown_any hbf _⟩
  | false =>
    clear hok
    by_cases h1 : n = 1
    · subst h1
      have e := HPQ.out
      rw [powX_one] at e
      have HV := Lib.hid (fun W (h : Bx W vb l) => variable_ok vb l i W h)
      rw [e] at HV
      dsimp only at HV
      have b1 := HP1.out.bb.cell
      rw [show (((1 : Nat) : Nat) : Int) = 1 from rfl] at hlk ⊢
      clear ih e hv
      go_enter Try.func69, Try.ntmps69
      go_wp2_with (fail)
      refine (HV.out _ (HBX.out.grow HP1.out.bel)).mono ?_
      rintro e w2 ⟨rfl, hB2⟩
      have ix2 := HX1.out.grow hB2
      have HR2 := Lib.hid (HR1.out.grow hB2)
      have HP2 := Lib.hid (HP1.out.grow hB2)
      have HG2 := Lib.hid (HG1.out.thenG (grown_any hB2 _))
      have y0 := ix2.c0
      have y1 := ix2.c1
      have z0 := ix2.frozen 0
      have z1 := ix2.frozen 1
      dsimp only at y0 y1
      have hs2 := HP2.out.siz
      have HX3 := Lib.hid (ix2.set p q)
      have HR3 := Lib.hid (HR2.out.other (c := W.heap.size + 1) (by omega) (.int .i64 p) (.int .i64 q))
      have HP3 := Lib.hid ((HP2.out.set (b := W.heap.size + 1) (by omega) 0 (.int .i64 p)).set (b := W.heap.size + 1) (by omega) 1 (.int .i64 q))
      have HG3 := Lib.hid ((HG2.out.newset (b := W.heap.size + 1) (by omega) 0 (.int .i64 p)).newset (b := W.heap.size + 1) (by omega) 1 (.int .i64 q))
      clear ix2 hB2
      obtain ⟨W6, hup, hP6, hg6⟩ := (HP3.out).store (i := i) (n := 1) (a := p) (b := q) hi hn2 (by omega) HPQ.out.symm
      rw [show aV i (1 : Nat) = .agg #[.int .i64 i, .int .u8 1] from rfl] at hup
      have k5 := (HP3.out).kb.cell
      have x50 := (HX3.out).c0
      have x51 := (HX3.out).c1
      dsimp only at x50 x51
      have ix6 : IvC W6 (W.heap.size + 1) (p, q) := heap_grownT hg6 (by omega) (HX3.out)
      have ir6 : IvC W6 W.heap.size (0, 0) := heap_grownT hg6 (by omega) (HR3.out)
      have x60 := ix6.c0
      have x61 := ix6.c1
      have r60 := ir6.frozen 0
      have r61 := ir6.frozen 1
      have r62 := ir6.c0
      have r63 := ir6.c1
      dsimp only at x60 x61 r62 r63
      have HP6 := Lib.hid hP6
      have HG6 := Lib.hid ((HG3.out).thenG hg6)
      clear hP6 hg6 ix6 ir6
      go_wp2_with (fail)
      refine bodyPost_ret (v := .agg #[.int .i64 p, .int .i64 q]) (by simp [results, Try.results69, go_sem, r62, r63]) rfl ⟨rfl, ⟨N + 1, by omega, (HP6.out.set (by omega) 0 _).set (by omega) 1 _⟩, ?_⟩
      exact (HG6.out.newset (Nat.le_refl _) 0 _).newset (Nat.le_refl _) 1 _
    · have hne : ((n : Int) == 1) = false := by simp; omega
      by_cases h2 : n % 2 = 0
      · have e := HPQ.out
        rw [powX_even _ (by omega) h2] at e
        have heq : ((n : Int) % 2 == 0) = true := by simp; omega
        have hih := fun (N : Nat) (W : World) => ih (n / 2) (by omega) (by omega) (by omega) i hi N W
        have ecast : ((n / 2 : Nat) : Int) = (n : Int) / 2 := by omega
        rw [ecast] at hih
        have hvb := powX_vb hv (n / 2)
        generalize powX (varX l i) (n / 2) = R at *
        obtain ⟨r1, r2⟩ := R
        have HIH := Lib.hid hih
        have HSQ := Lib.hid (fun W => iv_square r1 r2 W hvb)
        unfold sqI2 at e
        simp only [Prod.mk.injEq] at e
        rw [e.1, e.2] at HSQ
        have p1 := HP1.out.pb.cell
        clear ih hih e hvb hv
        go_enter Try.func69, Try.ntmps69
        go_wp2_with (fail)
        refine (HIH.out N _ (by omega) HP1.out).mono ?_
        rintro e2 w2 ⟨rfl, ⟨N2, hN2, hP2⟩, hg2⟩
        have ix2 : IvC w2 (W.heap.size + 1) (a, b) := heap_grownT hg2 (by omega) HX1.out
        have ir2 : IvC w2 W.heap.size (0, 0) := heap_grownT hg2 (by omega) HR1.out
        have HP2 := Lib.hid hP2
        have HIX2 := Lib.hid ix2
        have HIR2 := Lib.hid ir2
        have HG2 := Lib.hid (HG1.out.thenG hg2)
        clear hP2 ix2 ir2 hg2
        go_wp2_with (fail)
        refine (HSQ.out _).mono ?_
        rintro e3 w3 ⟨rfl, hB3⟩
        have ix3 := HIX2.out.grow hB3
        have y0 := ix3.c0
        have y1 := ix3.c1
        have z0 := ix3.frozen 0
        have z1 := ix3.frozen 1
        dsimp only at y0 y1
        have HP3 := Lib.hid (((HP2.out.grow hB3).set (b := W.heap.size + 1) (by omega) 0 (.int .i64 p)).set (b := W.heap.size + 1) (by omega) 1 (.int .i64 q))
        have HX3 := Lib.hid (ix3.set p q)
        have HR3 := Lib.hid ((HIR2.out.grow hB3).other (c := W.heap.size + 1) (by omega) (.int .i64 p) (.int .i64 q))
        have HG3 := Lib.hid (((HG2.out.thenG (grown_any hB3 _)).newset (b := W.heap.size + 1) (by omega) 0 (.int .i64 p)).newset (b := W.heap.size + 1) (by omega) 1 (.int .i64 q))
        clear ix3 hB3
        obtain ⟨W6, hup, hP6, hg6⟩ := (HP3.out).store (i := i) (n := n) (a := p) (b := q) hi hn2 (by omega) HPQ.out.symm
        rw [show aV i (n : Nat) = .agg #[.int .i64 i, .int .u8 (n : Nat)] from rfl] at hup
        have k5 := (HP3.out).kb.cell
        have x50 := (HX3.out).c0
        have x51 := (HX3.out).c1
        dsimp only at x50 x51
        have ix6 : IvC W6 (W.heap.size + 1) (p, q) := heap_grownT hg6 (by omega) (HX3.out)
        have ir6 : IvC W6 W.heap.size (0, 0) := heap_grownT hg6 (by omega) (HR3.out)
        have x60 := ix6.c0
        have x61 := ix6.c1
        have r60 := ir6.frozen 0
        have r61 := ir6.frozen 1
        have r62 := ir6.c0
        have r63 := ir6.c1
        dsimp only at x60 x61 r62 r63
        have HP6 := Lib.hid hP6
        have HG6 := Lib.hid ((HG3.out).thenG hg6)
        clear hP6 hg6 ix6 ir6
        go_wp2_with (fail)
        refine bodyPost_ret (v := .agg #[.int .i64 p, .int .i64 q]) (by simp [results, Try.results69, go_sem, r62, r63]) rfl ⟨rfl, ⟨N2 + 1, by omega, (HP6.out.set (by omega) 0 _).set (by omega) 1 _⟩, ?_⟩
        exact (HG6.out.newset (Nat.le_refl _) 0 _).newset (Nat.le_refl _) 1 _
      · have e := HPQ.out
        rw [powX_odd _ (by omega) h2] at e
        have heq : ((n : Int) % 2 == 0) = false := by simp; omega
        have hiha := fun (N : Nat) (W : World) => ih (n - 1) (by omega) (by omega) (by omega) i hi N W
        have hihb := fun (N : Nat) (W : World) => ih 1 (by omega) (by omega) (by omega) i hi N W
        have ecast : ((n - 1 : Nat) : Int) = (n : Int) - 1 := by omega
        rw [ecast] at hiha
        rw [powX_one, show ((1 : Nat) : Int) = 1 from rfl] at hihb
        have hvb := powX_vb hv (n - 1)
        generalize powX (varX l i) (n - 1) = R at *
        obtain ⟨r1, r2⟩ := R
        obtain ⟨⟨v1, v2⟩, hvx⟩ : ∃ X, varX l i = X := ⟨_, rfl⟩
        rw [hvx] at hihb hv e
        have HIA := Lib.hid hiha
        have HIB := Lib.hid hihb
        have HML := Lib.hid (fun W => iv_mul r1 r2 v1 v2 W hvb hv)
        unfold mulI2 at e
        simp only [Prod.mk.injEq] at e
        rw [e.1, e.2] at HML
        dsimp only at HIA HIB HML
        have p1 := HP1.out.pb.cell
        have Wn : IntKind.u8.wrap ((n : Int) - 1) = (n : Int) - 1 := by rw [wrap_u8 ((n : Int) - 1) (by omega)]; omega
        clear ih hiha hihb e hvb hv hvx
        go_enter Try.func69, Try.ntmps69
        go_wp2_with (fail)
        generalize (W.alloc (.cells #[.int .i64 0, .int .i64 0] 33)).alloc (.cells #[.int .i64 a, .int .i64 b] 33) = W1 at *
        have HP1d := Lib.hid HP1.out.drew
        have HIX : Hid (∀ w2 w3 w4 : World, W1.drew.grownBy w2 (some (w.heap.size + 1)) → w2.grownBy w3 (some (w.heap.size + 1)) → Below w3.heap.size w3 w4 → IvC w4 (W.heap.size + 1) (a, b) ∧ IvC w4 W.heap.size (0, 0) ∧ W.grownBy w4 (some (w.heap.size + 1))) := Lib.hid fun w2 w3 w4 h2 h3 h4 => by
          have x1 : IvC W1.drew (W.heap.size + 1) (a, b) := HX1.out.grow ((Below.refl _ _).drew)
          have x2 : IvC w2 (W.heap.size + 1) (a, b) := heap_grownT h2 (by omega) x1
          have x3 : IvC w3 (W.heap.size + 1) (a, b) := heap_grownT h3 (by omega) x2
          have r1 : IvC W1.drew W.heap.size (0, 0) := HR1.out.grow ((Below.refl _ _).drew)
          have r2 : IvC w2 W.heap.size (0, 0) := heap_grownT h2 (by omega) r1
          have r3 : IvC w3 W.heap.size (0, 0) := heap_grownT h3 (by omega) r2
          exact ⟨x3.grow h4, r3.grow h4, ((HG1.out.thenG (grown_any ((Below.refl _ _).drew) _)).thenG h2).thenG (h3.thenG (grown_any h4 _))⟩
        go_region_with (first
          | (go_at_call 69; refine (HIB.out N2 _ (by omega) hP2).mono ?_; rintro e3 w3 ⟨rfl, ⟨N3, hN3, hP3⟩, hg3⟩)
          | (go_at_call 69; refine (HIA.out N _ (by omega) HP1d.out).mono ?_; rintro e2 w2 ⟨rfl, ⟨N2, hN2, hP2⟩, hg2⟩; have k22 := hP2.pb.cell)
          | (go_at_call 49; refine (HML.out _).mono ?_; rintro e4 w4 ⟨rfl, hB4⟩; have HI4 := Lib.hid (HIX.out w2 w3 w4 hg2 hg3 hB4); have ix4 := HI4.out.1; have y0 := ix4.c0; have y1 := ix4.c1; have z0 := ix4.frozen 0; have z1 := ix4.frozen 1; dsimp only at y0 y1))
        all_goals
          have HP5 := Lib.hid (((hP3.grow hB4).set (b := W.heap.size + 1) (by omega) 0 (.int .i64 p)).set (b := W.heap.size + 1) (by omega) 1 (.int .i64 q))
          have HX5 := Lib.hid (HI4.out.1.set p q)
          have HR5 := Lib.hid (HI4.out.2.1.other (c := W.heap.size + 1) (by omega) (.int .i64 p) (.int .i64 q))
          have HG5 := Lib.hid ((HI4.out.2.2.newset (b := W.heap.size + 1) (by omega) 0 (.int .i64 p)).newset (b := W.heap.size + 1) (by omega) 1 (.int .i64 q))
          clear ix4 hB4 hP3 hg3 hP2 hg2 k22 y0 y1 z0 z1
          obtain ⟨W6, hup, hP6, hg6⟩ := (HP5.out).store (i := i) (n := n) (a := p) (b := q) hi hn2 (by omega) HPQ.out.symm
          rw [show aV i (n : Nat) = .agg #[.int .i64 i, .int .u8 (n : Nat)] from rfl] at hup
          have k5 := (HP5.out).kb.cell
          have x50 := (HX5.out).c0
          have x51 := (HX5.out).c1
          dsimp only at x50 x51
          have ix6 : IvC W6 (W.heap.size + 1) (p, q) := heap_grownT hg6 (by omega) (HX5.out)
          have ir6 : IvC W6 W.heap.size (0, 0) := heap_grownT hg6 (by omega) (HR5.out)
          have x60 := ix6.c0
          have x61 := ix6.c1
          have r60 := ir6.frozen 0
          have r61 := ir6.frozen 1
          have r62 := ir6.c0
          have r63 := ir6.c1
          dsimp only at x60 x61 r62 r63
          have HP6 := Lib.hid hP6
          have HG6 := Lib.hid ((HG5.out).thenG hg6)
          clear hP6 hg6 ix6 ir6
          go_wp2_with (fail)
          refine bodyPost_ret (v := .agg #[.int .i64 p, .int .i64 q]) (by simp [results, Try.results69, go_sem, r62, r63]) rfl ⟨rfl, ⟨N3 + 1, by omega, (HP6.out.set (by omega) 0 _).set (by omega) 1 _⟩, ?_⟩
          exact (HG6.out.newset (Nat.le_refl _) 0 _).newset (Nat.le_refl _) 1 _
end Go.Proofs.Ytcamjoddaeefdaa
