/-
  Package poly: powers: the memo, a map keyed by a variable and an exponent, its elements intervals.
  Package poly: variable, the function that powers returns, powers.
  Package poly: powers, Eval.
-/
import Derived.Test.YthakeeinhgfbbaaGreatTA
import Derived.Test.YthakeeinhgfbbaaGreatBox
import Derived.Test.YthakeeinhgfbbaaGreatIvMath
import Derived.DeepKeys4
import Derived.Maps.OwnSet
import Derived.Maps.AppendAt
namespace Go.Proofs.YthakeeinhgfbbaaGreat
open Go.ChangeShapes Go.WideShapes Go.ChangeAt Go.RowKit Go.Maps
set_option linter.unusedVariables false
set_option linter.unusedSimpArgs false
set_option maxRecDepth 100000

def mulI2 (p q : Int × Int) : Int × Int := (mulLo p.1 p.2 q.1 q.2, mulHi p.1 p.2 q.1 q.2)
def sqI2 (p : Int × Int) : Int × Int := (sqLo p.1 p.2, sqHi p.1 p.2)
def VB2 (p : Int × Int) : Prop := VI p.1 p.2
/-- The power n of an interval. -/
def powX (x : Int × Int) (n : Nat) : Int × Int := if h : n ≤ 1 then x else if n % 2 = 0 then sqI2 (powX x (n / 2)) else mulI2 (powX x (n - 1)) x
termination_by n
decreasing_by all_goals omega
theorem powX_one (x : Int × Int) : powX x 1 = x := by rw [powX]; simp
theorem powX_even (x : Int × Int) {n : Nat} (h1 : 1 < n) (h : n % 2 = 0) : powX x n = sqI2 (powX x (n / 2)) := by rw [powX, dif_neg (by omega), if_pos h]
theorem powX_odd (x : Int × Int) {n : Nat} (h1 : 1 < n) (h : ¬ n % 2 = 0) : powX x n = mulI2 (powX x (n - 1)) x := by rw [powX, dif_neg (by omega), if_neg h]
theorem powX_vb {x : Int × Int} (h : VB2 x) (n : Nat) : VB2 (powX x n) := by
  rw [powX]
  split
  · exact h
  · split
    · exact sq_vi _ _
    · exact mul_vi _ _ _ _
/-- What variable i ranges over. -/
def varX (l : List (Int × Int)) (i : Nat) : Int × Int := (l[i]?).getD (-65536, 65536)
theorem varX_vb {l : List (Int × Int)} (h : ∀ p ∈ l, VB2 p) (i : Nat) : VB2 (varX l i) := by
  unfold varX
  cases hx : l[i]? with
  | none => exact .inr (by unfold Num; decide)
  | some p => exact h p (List.mem_of_getElem? hx)
/-! ### the keys -/
def kA (i n : Int) : Lit := .string (keyBytes [.int .i64 i, .int .u8 n])
def aV (i n : Int) : Value := .agg #[.int .i64 i, .int .u8 n]
theorem keyA {i n : Int} (hi : -9223372036854775808 ≤ i ∧ i ≤ 9223372036854775807) (hn : 0 ≤ n ∧ n ≤ 255) : keyOf Tryz.prog 128 (aV i n) = some (kA i n) := by
  have w0 : (Lit.int .i64 i).wf = true := WalkArith.wf_i64 (by omega)
  have w1 : (Lit.int .u8 n).wf = true := by
    have e1 : IntKind.u8.min = 0 := rfl
    have e2 : IntKind.u8.max = 255 := rfl
    simp [Lit.wf, e1, e2]
    omega
  have hkt : Tryz.prog.keyType 128 = true := by kernel_rfl
  have hce : Tryz.prog.cellsOf 128 = 2 := by kernel_rfl
  have hc1 : Tryz.prog.cellsOf 3 = 1 := by kernel_rfl
  have hc2 : Tryz.prog.cellsOf 5 = 1 := by kernel_rfl
  have hts : ∃ m, Tryz.prog.types.size = m + 1 := ⟨Tryz.prog.types.size - 1, by have : 0 < Tryz.prog.types.size := of_decide_eq_true (by kernel_rfl); omega⟩
  obtain ⟨m, hm⟩ := hts
  unfold keyOf aV
  simp only [Tryz.underlying128]
  rw [if_pos (by simp [hkt, Value.formed, Tryz.underlying128, hce]), hm]
  unfold Program.keyLits
  simp only [Tryz.underlying128, Value.cells]
  rw [if_pos ⟨by rw [hce]; rfl, by kernel_rfl⟩]
  simp [List.mapM_cons, hc1, hc2, Program.keyLits, Tryz.underlying3, Tryz.underlying5, w0, w1, kA]
theorem lawA : Keyed Tryz.prog 128 := Keyed.of_law (deep_law (m := 2) (by omega) (by kernel_rfl) (by kernel_rfl) (by kernel_rfl))
theorem aV_inj {i n j m : Int} (h : aV i n = aV j m) : i = j ∧ n = m := by
  simp [aV] at h
  exact h
theorem kA_inj {i n j m : Int} (hi : -9223372036854775808 ≤ i ∧ i ≤ 9223372036854775807) (hn : 0 ≤ n ∧ n ≤ 255) (hj : -9223372036854775808 ≤ j ∧ j ≤ 9223372036854775807) (hm : 0 ≤ m ∧ m ≤ 255) (h : kA i n = kA j m) : i = j ∧ n = m := aV_inj (lawA.inj (keyA hi hn) (h ▸ keyA hj hm))
/-! ### the elements -/
def dI (p : Int × Int) : DataW Unit := .agg [.lit (.int .i64 p.1), .lit (.int .i64 p.2)]
def elI : Value → Option (DataW Unit × List MemPlace)
  | .agg ⟨[.int .i64 a, .int .i64 b]⟩ => some (dI (a, b), [])
  | _ => none
theorem elI_inv {v : Value} {x : DataW Unit} {p : List MemPlace} (h : elI v = some (x, p)) : ∃ a b, v = .agg #[.int .i64 a, .int .i64 b] ∧ x = dI (a, b) := by
  unfold elI at h
  split at h
  · rename_i a b
    simp only [Option.some.injEq, Prod.mk.injEq] at h
    exact ⟨a, b, rfl, h.1.symm⟩
  · cases h
theorem dI_inj {p q : Int × Int} (h : dI p = dI q) : p = q := by
  simp [dI] at h
  exact Prod.ext h.1 h.2
/-- What the memo holds is right. -/
def Know (l : List (Int × Int)) (D : DataW Unit) : Prop := IsMap D ∧ ∀ i n : Nat, i < 6 → n ≤ 255 → Maps.has D (kA i n) = true → ∀ z, D.atKey (kA i n) z = dI (powX (varX l i) n)
theorem know_start (l : List (Int × Int)) : Know l (.map []) := ⟨isMap_empty, fun i n _ _ h => by simp [Maps.has] at h⟩
theorem know_put {l : List (Int × Int)} {D : DataW Unit} (h : Know l D) {i n : Nat} (hi : i < 6) (hn : n ≤ 255) : Know l (D.put (kA i n) (dI (powX (varX l i) n))) := by
  have hk : WideAt.IsKeyLit (kA i n) := trivial
  refine ⟨h.1.put _ _, fun j m hj hm hh z => ?_⟩
  by_cases q : kA j m = kA i n
  · obtain ⟨e1, e2⟩ := kA_inj (by omega) (by omega) (by omega) (by omega) q
    have e1 : j = i := by omega
    have e2 : m = n := by omega
    subst e1; subst e2
    rw [atKey_put_same h.1 hk]
  · rw [has_put_other q] at hh
    rw [atKey_put_other q]
    exact h.2 j m hj hm hh z
/-- The state that a call of power finds: w is the world as 'powers' found it. -/
structure PwI (w : World) (vb : Value) (l : List (Int × Int)) (N : Nat) (W : World) : Prop where
  bel : Below w.heap.size w W
  siz : w.heap.size + 4 ≤ W.heap.size
  bb : Boxed W w.heap.size 44 vb
  kb : Boxed W (w.heap.size + 2) 125 (.map (some (w.heap.size + 1)))
  pb : Boxed W (w.heap.size + 3) 106 (.func (.func 130) #[] #[.pointer (some ⟨w.heap.size + 2, 0, none⟩), .pointer (some ⟨w.heap.size, 0, none⟩), .pointer (some ⟨w.heap.size + 3, 0, none⟩)])
  map : ∃ D, W.ownsMap Tryz.prog 128 elI (w.heap.size + 1) N D ∧ Know l D
theorem PwI.of {w W W' : World} {vb : Value} {l : List (Int × Int)} {N N' : Nat} (h : PwI w vb l N W) (hg : W.grownBy W' (some (w.heap.size + 1))) (hm : ∃ D, W'.ownsMap Tryz.prog 128 elI (w.heap.size + 1) N' D ∧ Know l D) : PwI w vb l N' W' :=
  ⟨h.bel.grown hg h.bel.size (fun j hj => by cases hj; omega), Nat.le_trans h.siz hg.size, h.bb.kept hg (by simp), h.kb.kept hg (by simp), h.pb.kept hg (by simp), hm⟩
theorem PwI.grow {w W W' : World} {vb : Value} {l : List (Int × Int)} {N : Nat} (h : PwI w vb l N W) (hB : Below W.heap.size W W') : PwI w vb l N W' := by
  obtain ⟨D, h1, h2⟩ := h.map
  have hg := grown_belowT hB
  exact h.of ⟨hg.os, hg.tape, hg.output, hg.size, fun i hi _ => hg.block i hi (by simp)⟩ ⟨D, h1.kept hg (by simp), h2⟩
theorem grownBy_setT (W : World) (a : Addr) (v : Value) : W.grownBy (W.setCell a v) (some a.block) := ⟨rfl, rfl, rfl, (KeepsWalks.setCell W _ v).size, fun k _ hk => Below.heap_setCell _ _ _ k (fun e => hk (by rw [e]))⟩
theorem PwI.set {w W : World} {vb : Value} {l : List (Int × Int)} {N : Nat} (h : PwI w vb l N W) {b : Nat} (hb : w.heap.size + 4 ≤ b) (o : Nat) (v : Value) : PwI w vb l N (W.setCell ⟨b, o, none⟩ v) := by
  obtain ⟨D, h1, h2⟩ := h.map
  have hg := grownBy_setT W ⟨b, o, none⟩ v
  have ne : ∀ {k : Nat}, k < w.heap.size + 4 → some k ≠ some b := fun hk e => by cases e; omega
  exact ⟨h.bel.setCell (p := ⟨b, o, none⟩) (by dsimp only; omega) _, by simpa using h.siz, h.bb.kept hg (ne (by omega)), h.kb.kept hg (ne (by omega)), h.pb.kept hg (ne (by omega)), D, h1.kept hg (ne (by omega)), h2⟩
theorem PwI.drew {w W : World} {vb : Value} {l : List (Int × Int)} {N : Nat} (h : PwI w vb l N W) : PwI w vb l N W.drew := h.grow ((Below.refl _ _).drew)
/-- The look-up: what is there is right. -/
theorem PwI.look {w W : World} {vb : Value} {l : List (Int × Int)} {N : Nat} (h : PwI w vb l N W) {i n : Nat} (hi : i < 6) (hn : n ≤ 255) : ∃ a b ok, (Instr.lookup 125 (.map (some (w.heap.size + 1))) (aV i n) true).run Tryz.prog W = .ok (.tuple #[.agg #[.int .i64 a, .int .i64 b], .bool ok]) W ∧ (ok = true → (a, b) = powX (varX l i) n) := by
  obtain ⟨D, h1, h2⟩ := h.map
  obtain ⟨v, ps, hrun, hv⟩ := h1.look_ok lawA Tryz.underlying125 (z := .agg #[.int .i64 0, .int .i64 0]) (by kernel_rfl) (zd := dI (0, 0)) (zp := []) rfl (keyA (i := i) (n := n) (by omega) (by omega))
  obtain ⟨a, b, rfl, hx⟩ := elI_inv hv
  refine ⟨a, b, _, hrun, fun hh => ?_⟩
  rw [h2.2 i n hi hn hh] at hx
  exact (dI_inj hx).symm
/-- The store. -/
theorem PwI.store {w W : World} {vb : Value} {l : List (Int × Int)} {N : Nat} (h : PwI w vb l N W) {i n : Nat} {a b : Int} (hi : i < 6) (hn : n ≤ 255) (hN : N ≤ 100000000) (hp : (a, b) = powX (varX l i) n) : ∃ w', (Instr.mapUpdate 125 (.map (some (w.heap.size + 1))) (aV i n) (.agg #[.int .i64 a, .int .i64 b])).run Tryz.prog W = .ok () w' ∧ PwI w vb l (N + 1) w' ∧ W.grownBy w' (some (w.heap.size + 1)) := by
  obtain ⟨D, h1, h2⟩ := h.map
  obtain ⟨w', hrun, ho, hg⟩ := h1.update (val := .agg #[.int .i64 a, .int .i64 b]) lawA Tryz.underlying125 (by unfold maxLen; omega) (keyA (i := i) (n := n) (by omega) (by omega)) (d := dI (a, b)) (ps := []) rfl
  refine ⟨w', hrun, h.of hg ⟨_, ho, ?_⟩, hg⟩
  rw [hp]
  exact know_put h2 hi hn
end Go.Proofs.YthakeeinhgfbbaaGreat

namespace Go.Proofs.YthakeeinhgfbbaaGreat
open Go.ChangeShapes Go.WideShapes Go.ChangeAt Go.RowKit
set_option linter.unusedVariables false
set_option linter.unusedSimpArgs false
set_option maxRecDepth 100000

attribute [local irreducible] Calls
theorem heap_grownT {W W' : World} {b c : Nat} {o : Obj} (hg : W.grownBy W' (some b)) (hne : c ≠ b) (h : W.heap[c]? = some o) : W'.heap[c]? = some o :=
  (hg.block c (Array.getElem?_eq_some_iff.1 h).1 (fun e => hne (Option.some.inj e))).trans h
theorem _root_.Go.World.grownBy.thenG {A B C : World} {r : Option Nat} (h : A.grownBy B r) (k : B.grownBy C r) : A.grownBy C r :=
  ⟨k.os.trans h.os, k.tape.trans h.tape, k.output.trans h.output, Nat.le_trans h.size k.size, fun i hi hr => (k.block i (Nat.lt_of_lt_of_le hi h.size) hr).trans (h.block i hi hr)⟩
theorem _root_.Go.World.grownBy.newset {A B : World} {r : Option Nat} (h : A.grownBy B r) {b : Nat} (hb : A.heap.size ≤ b) (o : Nat) (v : Value) : A.grownBy (B.setCell ⟨b, o, none⟩ v) r :=
  ⟨h.os, h.tape, h.output, by simpa using h.size, fun i hi hr => (Below.heap_setCell _ _ _ i (by dsimp only; omega)).trans (h.block i hi hr)⟩
theorem grown_any {W W' : World} (h : Below W.heap.size W W') (r : Option Nat) : W.grownBy W' r := ⟨h.os, h.tape, h.output, h.size, fun k hk _ => h.block k hk⟩
set_option maxHeartbeats 2000000 in
theorem variable_ok (vb : Value) (l : List (Int × Int)) (i : Nat) (w : World) (hb : Bx w vb l) :
    Calls Tryz.prog 131 #[vb, .int .i64 i] w fun e w' => e = .returned (.agg #[.int .i64 (varX l i).1, .int .i64 (varX l i).2]) ∧ Below w.heap.size w w' := by
  obtain ⟨hl, p, c, rfl, hp⟩ := hb
  unfold maxLen at hl
  by_cases h : i < l.length
  · have hi : (i : Int) < l.length := by omega
    obtain ⟨b, o, x, y, rfl, hx, hb, c1, c2⟩ := Bx.at (c := 0) (n := 0) hp h (Below.refl _ _)
    have hv : varX l i = (x, y) := by unfold varX; rw [hx]; rfl
    rw [hv]
    dsimp only
    clear hv hx hp
    go_enter Tryz.func131, Tryz.ntmps131
    go_wp2_with (fail)
    refine bodyPost_ret (v := .agg #[.int .i64 x, .int .i64 y]) (by simp [results, Tryz.results131, go_sem]) rfl ⟨rfl, ?_⟩
    go_grown
  · have hi : (l.length : Int) ≤ i := by omega
    have hv : varX l i = (-65536, 65536) := by unfold varX; rw [List.getElem?_eq_none (by omega)]; rfl
    rw [hv]
    dsimp only
    have HC := Lib.hid (fun w => iv_new (-65536) 65536 w (by decide))
    rw [show mkLo (-65536) 65536 = -65536 by decide, show mkHi (-65536) 65536 = 65536 by decide] at HC
    clear hv hp
    go_enter Tryz.func131, Tryz.ntmps131
    go_wp2_with (fail)
    refine (HC.out _).mono ?_
    rintro e w1 ⟨rfl, hB⟩
    obtain ⟨kc, kf⟩ := bcell hB
    have hz := hB.size
    simp only [World.size_alloc] at hz
    have hs0 : w.heap.size < w1.heap.size := by omega
    have hB' := below_then ((Below.refl w.heap.size w).alloc (Nat.le_refl _) _) hB
    have q0 := kc w.heap.size 0 (by simp)
    have q1 := kc w.heap.size 1 (by simp)
    have z0 := kf w.heap.size 0 (by simp)
    have z1 := kf w.heap.size 1 (by simp)
    simp [go_sem] at q0 q1 z0 z1
    go_wp2_with (fail)
    refine bodyPost_ret (v := .agg #[.int .i64 (-65536), .int .i64 65536]) (by simp [results, Tryz.results131, go_sem, q0, q1]) rfl ⟨rfl, ?_⟩
    go_grown
theorem IvC.new (W : World) (x y : Int) : IvC (W.alloc (.cells #[.int .i64 x, .int .i64 y] 24)) W.heap.size (x, y) := World.alloc_heap_new W _
theorem IvC.alloc {W : World} {b : Nat} {p : Int × Int} (h : IvC W b p) (o : Obj) : IvC (W.alloc o) b p := (Below.heap_alloc W o b h.lt).trans h
set_option maxHeartbeats 16000000 in
theorem power_ok (w : World) (vb : Value) (l : List (Int × Int)) (hbx : Bx w vb l) (hl : ∀ p ∈ l, VB2 p) : ∀ n : Nat, 1 ≤ n → n ≤ 255 → ∀ i : Nat, i < 6 → ∀ (N : Nat) (W : World), N + 2 * n ≤ 10000000 → PwI w vb l N W →
    Calls Tryz.prog 130 #[.int .i64 i, .int .u8 n, .pointer (some ⟨w.heap.size + 2, 0, none⟩), .pointer (some ⟨w.heap.size, 0, none⟩), .pointer (some ⟨w.heap.size + 3, 0, none⟩)] W fun e w' => e = .returned (.agg #[.int .i64 (powX (varX l i) n).1, .int .i64 (powX (varX l i) n).2]) ∧ (∃ N', N' + 1 ≤ N + 2 * n ∧ PwI w vb l N' w') ∧ W.grownBy w' (some (w.heap.size + 1)) := by
  intro n
  induction n using Nat.strongRecOn with
  | _ n ih =>
  intro hn1 hn2 i hi N W hN hP
  have hv := varX_vb hl i
  obtain ⟨⟨p, q⟩, hpq⟩ : ∃ R, powX (varX l i) n = R := ⟨_, rfl⟩
  rw [hpq]
  dsimp only
  have HPQ := Lib.hid hpq
  have HBX := Lib.hid hbx
  have hsz := hP.siz
  have hb0 : Below W.heap.size W (W.alloc (.cells #[.int .i64 0, .int .i64 0] 24)) := (Below.refl _ _).alloc (Nat.le_refl _) _
  have hP0 := hP.grow hb0
  obtain ⟨a, b, ok, hlk, hok⟩ := hP0.look hi hn2
  rw [show aV i n = .agg #[.int .i64 i, .int .u8 n] from rfl] at hlk
  have k0 := hP0.kb.cell
  have hb1 : Below W.heap.size W ((W.alloc (.cells #[.int .i64 0, .int .i64 0] 24)).alloc (.cells #[.int .i64 a, .int .i64 b] 24)) := hb0.alloc (by simp) _
  have HP1 := Lib.hid (hP.grow hb1)
  have HG1 := Lib.hid (grown_any hb1 (some (w.heap.size + 1)))
  have HR1 : Hid (IvC ((W.alloc (.cells #[.int .i64 0, .int .i64 0] 24)).alloc (.cells #[.int .i64 a, .int .i64 b] 24)) W.heap.size (0, 0)) := Lib.hid ((IvC.new W 0 0).alloc _)
  have HX1 : Hid (IvC ((W.alloc (.cells #[.int .i64 0, .int .i64 0] 24)).alloc (.cells #[.int .i64 a, .int .i64 b] 24)) (W.heap.size + 1) (a, b)) := Lib.hid (by have := IvC.new (W.alloc (.cells #[.int .i64 0, .int .i64 0] 24)) a b; rwa [World.size_alloc] at this)
  have HPP := Lib.hid hP
  clear hpq hbx hP hP0 hb0 hb1
  cases ok with
  | true =>
    have e := hok rfl
    rw [HPQ.out] at e
    simp only [Prod.mk.injEq] at e
    obtain ⟨rfl, rfl⟩ := e
    clear hok ih
    go_enter Tryz.func130, Tryz.ntmps130
    go_wp2_with (fail)
    have hbf : Below W.heap.size W ((W.alloc (.cells #[.int .i64 a, .int .i64 b] 24)).alloc (.cells #[.int .i64 a, .int .i64 b] 24)) := ((Below.refl _ _).alloc (Nat.le_refl _) _).alloc (by simp) _
    refine bodyPost_ret (v := .agg #[.int .i64 a, .int .i64 b]) (by simp [results, Tryz.results130, go_sem]) rfl ⟨rfl, ⟨N, by omega, HPP.out.grow hbf⟩, grown_any hbf _⟩
  | false =>
    clear hok
    by_cases h1 : n = 1
    · subst h1
      have e := HPQ.out
      rw [powX_one] at e
      have HV := Lib.hid (fun W (h : Bx W vb l) => variable_ok vb l i W h)
      rw [e] at HV
      dsimp only at HV
      have b1 := HP1.out.bb.cell
      rw [show (((1 : Nat) : Nat) : Int) = 1 from rfl] at hlk ⊢
      clear ih e hv
      go_enter Tryz.func130, Tryz.ntmps130
      go_wp2_with (fail)
      refine (HV.out _ (HBX.out.grow HP1.out.bel)).mono ?_
      rintro e w2 ⟨rfl, hB2⟩
      have ix2 := HX1.out.grow hB2
      have HR2 := Lib.hid (HR1.out.grow hB2)
      have HP2 := Lib.hid (HP1.out.grow hB2)
      have HG2 := Lib.hid (HG1.out.thenG (grown_any hB2 _))
      have y0 := ix2.c0
      have y1 := ix2.c1
      have z0 := ix2.frozen 0
      have z1 := ix2.frozen 1
      dsimp only at y0 y1
      have hs2 := HP2.out.siz
      have HX3 := Lib.hid (ix2.set p q)
      have HR3 := Lib.hid (HR2.out.other (c := W.heap.size + 1) (by omega) (.int .i64 p) (.int .i64 q))
      have HP3 := Lib.hid ((HP2.out.set (b := W.heap.size + 1) (by omega) 0 (.int .i64 p)).set (b := W.heap.size + 1) (by omega) 1 (.int .i64 q))
      have HG3 := Lib.hid ((HG2.out.newset (b := W.heap.size + 1) (by omega) 0 (.int .i64 p)).newset (b := W.heap.size + 1) (by omega) 1 (.int .i64 q))
      clear ix2 hB2
      obtain ⟨W6, hup, hP6, hg6⟩ := (HP3.out).store (i := i) (n := 1) (a := p) (b := q) hi hn2 (by omega) HPQ.out.symm
      rw [show aV i (1 : Nat) = .agg #[.int .i64 i, .int .u8 1] from rfl] at hup
      have k5 := (HP3.out).kb.cell
      have x50 := (HX3.out).c0
      have x51 := (HX3.out).c1
      dsimp only at x50 x51
      have ix6 : IvC W6 (W.heap.size + 1) (p, q) := heap_grownT hg6 (by omega) (HX3.out)
      have ir6 : IvC W6 W.heap.size (0, 0) := heap_grownT hg6 (by omega) (HR3.out)
      have x60 := ix6.c0
      have x61 := ix6.c1
      have r60 := ir6.frozen 0
      have r61 := ir6.frozen 1
      have r62 := ir6.c0
      have r63 := ir6.c1
      dsimp only at x60 x61 r62 r63
      have HP6 := Lib.hid hP6
      have HG6 := Lib.hid ((HG3.out).thenG hg6)
      clear hP6 hg6 ix6 ir6
      go_wp2_with (fail)
      refine bodyPost_ret (v := .agg #[.int .i64 p, .int .i64 q]) (by simp [results, Tryz.results130, go_sem, r62, r63]) rfl ⟨rfl, ⟨N + 1, by omega, (HP6.out.set (by omega) 0 _).set (by omega) 1 _⟩, ?_⟩
      exact (HG6.out.newset (Nat.le_refl _) 0 _).newset (Nat.le_refl _) 1 _
    · have hne : ((n : Int) == 1) = false := by simp; omega
      by_cases h2 : n % 2 = 0
      · have e := HPQ.out
        rw [powX_even _ (by omega) h2] at e
        have heq : ((n : Int) % 2 == 0) = true := by simp; omega
        have hih := fun (N : Nat) (W : World) => ih (n / 2) (by omega) (by omega) (by omega) i hi N W
        have ecast : ((n / 2 : Nat) : Int) = (n : Int) / 2 := by omega
        rw [ecast] at hih
        have hvb := powX_vb hv (n / 2)
        generalize powX (varX l i) (n / 2) = R at *
        obtain ⟨r1, r2⟩ := R
        have HIH := Lib.hid hih
        have HSQ := Lib.hid (fun W => iv_square r1 r2 W hvb)
        unfold sqI2 at e
        simp only [Prod.mk.injEq] at e
        rw [e.1, e.2] at HSQ
        have p1 := HP1.out.pb.cell
        clear ih hih e hvb hv
        go_enter Tryz.func130, Tryz.ntmps130
        go_wp2_with (fail)
        refine (HIH.out N _ (by omega) HP1.out).mono ?_
        rintro e2 w2 ⟨rfl, ⟨N2, hN2, hP2⟩, hg2⟩
        have ix2 : IvC w2 (W.heap.size + 1) (a, b) := heap_grownT hg2 (by omega) HX1.out
        have ir2 : IvC w2 W.heap.size (0, 0) := heap_grownT hg2 (by omega) HR1.out
        have HP2 := Lib.hid hP2
        have HIX2 := Lib.hid ix2
        have HIR2 := Lib.hid ir2
        have HG2 := Lib.hid (HG1.out.thenG hg2)
        clear hP2 ix2 ir2 hg2
        go_wp2_with (fail)
        refine (HSQ.out _).mono ?_
        rintro e3 w3 ⟨rfl, hB3⟩
        have ix3 := HIX2.out.grow hB3
        have y0 := ix3.c0
        have y1 := ix3.c1
        have z0 := ix3.frozen 0
        have z1 := ix3.frozen 1
        dsimp only at y0 y1
        have HP3 := Lib.hid (((HP2.out.grow hB3).set (b := W.heap.size + 1) (by omega) 0 (.int .i64 p)).set (b := W.heap.size + 1) (by omega) 1 (.int .i64 q))
        have HX3 := Lib.hid (ix3.set p q)
        have HR3 := Lib.hid ((HIR2.out.grow hB3).other (c := W.heap.size + 1) (by omega) (.int .i64 p) (.int .i64 q))
        have HG3 := Lib.hid (((HG2.out.thenG (grown_any hB3 _)).newset (b := W.heap.size + 1) (by omega) 0 (.int .i64 p)).newset (b := W.heap.size + 1) (by omega) 1 (.int .i64 q))
        clear ix3 hB3
        obtain ⟨W6, hup, hP6, hg6⟩ := (HP3.out).store (i := i) (n := n) (a := p) (b := q) hi hn2 (by omega) HPQ.out.symm
        rw [show aV i (n : Nat) = .agg #[.int .i64 i, .int .u8 (n : Nat)] from rfl] at hup
        have k5 := (HP3.out).kb.cell
        have x50 := (HX3.out).c0
        have x51 := (HX3.out).c1
        dsimp only at x50 x51
        have ix6 : IvC W6 (W.heap.size + 1) (p, q) := heap_grownT hg6 (by omega) (HX3.out)
        have ir6 : IvC W6 W.heap.size (0, 0) := heap_grownT hg6 (by omega) (HR3.out)
        have x60 := ix6.c0
        have x61 := ix6.c1
        have r60 := ir6.frozen 0
        have r61 := ir6.frozen 1
        have r62 := ir6.c0
        have r63 := ir6.c1
        dsimp only at x60 x61 r62 r63
        have HP6 := Lib.hid hP6
        have HG6 := Lib.hid ((HG3.out).thenG hg6)
        clear hP6 hg6 ix6 ir6
        go_wp2_with (fail)
        refine bodyPost_ret (v := .agg #[.int .i64 p, .int .i64 q]) (by simp [results, Tryz.results130, go_sem, r62, r63]) rfl ⟨rfl, ⟨N2 + 1, by omega, (HP6.out.set (by omega) 0 _).set (by omega) 1 _⟩, ?_⟩
        exact (HG6.out.newset (Nat.le_refl _) 0 _).newset (Nat.le_refl _) 1 _
      · have e := HPQ.out
        rw [powX_odd _ (by omega) h2] at e
        have heq : ((n : Int) % 2 == 0) = false := by simp; omega
        have hiha := fun (N : Nat) (W : World) => ih (n - 1) (by omega) (by omega) (by omega) i hi N W
        have hihb := fun (N : Nat) (W : World) => ih 1 (by omega) (by omega) (by omega) i hi N W
        have ecast : ((n - 1 : Nat) : Int) = (n : Int) - 1 := by omega
        rw [ecast] at hiha
        rw [powX_one, show ((1 : Nat) : Int) = 1 from rfl] at hihb
        have hvb := powX_vb hv (n - 1)
        generalize powX (varX l i) (n - 1) = R at *
        obtain ⟨r1, r2⟩ := R
        obtain ⟨⟨v1, v2⟩, hvx⟩ : ∃ X, varX l i = X := ⟨_, rfl⟩
        rw [hvx] at hihb hv e
        have HIA := Lib.hid hiha
        have HIB := Lib.hid hihb
        have HML := Lib.hid (fun W => iv_mul r1 r2 v1 v2 W hvb hv)
        unfold mulI2 at e
        simp only [Prod.mk.injEq] at e
        rw [e.1, e.2] at HML
        dsimp only at HIA HIB HML
        have p1 := HP1.out.pb.cell
        have Wn : IntKind.u8.wrap ((n : Int) - 1) = (n : Int) - 1 := by rw [wrap_u8 ((n : Int) - 1) (by omega)]; omega
        clear ih hiha hihb e hvb hv hvx
        go_enter Tryz.func130, Tryz.ntmps130
        go_wp2_with (fail)
        generalize (W.alloc (.cells #[.int .i64 0, .int .i64 0] 24)).alloc (.cells #[.int .i64 a, .int .i64 b] 24) = W1 at *
        have HP1d := Lib.hid HP1.out.drew
        have HIX : Hid (∀ w2 w3 w4 : World, W1.drew.grownBy w2 (some (w.heap.size + 1)) → w2.grownBy w3 (some (w.heap.size + 1)) → Below w3.heap.size w3 w4 → IvC w4 (W.heap.size + 1) (a, b) ∧ IvC w4 W.heap.size (0, 0) ∧ W.grownBy w4 (some (w.heap.size + 1))) := Lib.hid fun w2 w3 w4 h2 h3 h4 => by
          have x1 : IvC W1.drew (W.heap.size + 1) (a, b) := HX1.out.grow ((Below.refl _ _).drew)
          have x2 : IvC w2 (W.heap.size + 1) (a, b) := heap_grownT h2 (by omega) x1
          have x3 : IvC w3 (W.heap.size + 1) (a, b) := heap_grownT h3 (by omega) x2
          have r1 : IvC W1.drew W.heap.size (0, 0) := HR1.out.grow ((Below.refl _ _).drew)
          have r2 : IvC w2 W.heap.size (0, 0) := heap_grownT h2 (by omega) r1
          have r3 : IvC w3 W.heap.size (0, 0) := heap_grownT h3 (by omega) r2
          exact ⟨x3.grow h4, r3.grow h4, ((HG1.out.thenG (grown_any ((Below.refl _ _).drew) _)).thenG h2).thenG (h3.thenG (grown_any h4 _))⟩
        go_region_with (first
          | (go_at_call 130; refine (HIB.out N2 _ (by omega) hP2).mono ?_; rintro e3 w3 ⟨rfl, ⟨N3, hN3, hP3⟩, hg3⟩)
          | (go_at_call 130; refine (HIA.out N _ (by omega) HP1d.out).mono ?_; rintro e2 w2 ⟨rfl, ⟨N2, hN2, hP2⟩, hg2⟩; have k22 := hP2.pb.cell)
          | (go_at_call 65; refine (HML.out _).mono ?_; rintro e4 w4 ⟨rfl, hB4⟩; have HI4 := Lib.hid (HIX.out w2 w3 w4 hg2 hg3 hB4); have ix4 := HI4.out.1; have y0 := ix4.c0; have y1 := ix4.c1; have z0 := ix4.frozen 0; have z1 := ix4.frozen 1; dsimp only at y0 y1))
        all_goals
          have HP5 := Lib.hid (((hP3.grow hB4).set (b := W.heap.size + 1) (by omega) 0 (.int .i64 p)).set (b := W.heap.size + 1) (by omega) 1 (.int .i64 q))
          have HX5 := Lib.hid (HI4.out.1.set p q)
          have HR5 := Lib.hid (HI4.out.2.1.other (c := W.heap.size + 1) (by omega) (.int .i64 p) (.int .i64 q))
          have HG5 := Lib.hid ((HI4.out.2.2.newset (b := W.heap.size + 1) (by omega) 0 (.int .i64 p)).newset (b := W.heap.size + 1) (by omega) 1 (.int .i64 q))
          clear ix4 hB4 hP3 hg3 hP2 hg2 k22 y0 y1 z0 z1
          obtain ⟨W6, hup, hP6, hg6⟩ := (HP5.out).store (i := i) (n := n) (a := p) (b := q) hi hn2 (by omega) HPQ.out.symm
          rw [show aV i (n : Nat) = .agg #[.int .i64 i, .int .u8 (n : Nat)] from rfl] at hup
          have k5 := (HP5.out).kb.cell
          have x50 := (HX5.out).c0
          have x51 := (HX5.out).c1
          dsimp only at x50 x51
          have ix6 : IvC W6 (W.heap.size + 1) (p, q) := heap_grownT hg6 (by omega) (HX5.out)
          have ir6 : IvC W6 W.heap.size (0, 0) := heap_grownT hg6 (by omega) (HR5.out)
          have x60 := ix6.c0
          have x61 := ix6.c1
          have r60 := ir6.frozen 0
          have r61 := ir6.frozen 1
          have r62 := ir6.c0
          have r63 := ir6.c1
          dsimp only at x60 x61 r62 r63
          have HP6 := Lib.hid hP6
          have HG6 := Lib.hid ((HG5.out).thenG hg6)
          clear hP6 hg6 ix6 ir6
          go_wp2_with (fail)
          refine bodyPost_ret (v := .agg #[.int .i64 p, .int .i64 q]) (by simp [results, Tryz.results130, go_sem, r62, r63]) rfl ⟨rfl, ⟨N3 + 1, by omega, (HP6.out.set (by omega) 0 _).set (by omega) 1 _⟩, ?_⟩
          exact (HG6.out.newset (Nat.le_refl _) 0 _).newset (Nat.le_refl _) 1 _
end Go.Proofs.YthakeeinhgfbbaaGreat

namespace Go.Proofs.YthakeeinhgfbbaaGreat
open Go.ChangeShapes Go.WideShapes Go.ChangeAt Go.RowKit
set_option linter.unusedVariables false
set_option linter.unusedSimpArgs false
set_option maxRecDepth 100000

attribute [local irreducible] Calls
theorem heapT_cell {W : World} {b k : Nat} {cs : Array Value} {t : TypeId} {z : Nat × Nat} {u : Value} (h : W.heap[b]? = some (.cells cs t z)) (hk : cs[k]? = some u) : W.cell? ⟨b, k, none⟩ = some u := by
  simp [World.cell?, h, hk]
def PFV (A : Nat) : Value := .func (.func 130) #[] #[.pointer (some ⟨A + 2, 0, none⟩), .pointer (some ⟨A, 0, none⟩), .pointer (some ⟨A + 3, 0, none⟩)]
set_option maxHeartbeats 2000000 in
theorem powers_ok (p : Option Addr) (n c : Nat) (l : List (Int × Int)) (w : World) :
    Calls Tryz.prog 111 #[.slice p n c] w fun e w' => e = .returned (PFV w.heap.size) ∧ PwI w (.slice p n c) l 0 w' ∧ Below w.heap.size w w' := by
  have hmm := @run_makeMap Tryz.prog
  unfold PFV
  go_enter Tryz.func111, Tryz.ntmps111
  go_wp2_with (fail)
  go_ret
  have h1 := Boxed.new w 44 (.slice p n c)
  have h2 := World.ownsMap_made (H := Unit) (w.alloc (.cells #[.slice p n c] 44)) Tryz.prog 128 elI
  have h3 := Boxed.new ((w.alloc (.cells #[.slice p n c] 44)).alloc (.map #[] 0)) 125 (.map (some (w.heap.size + 1)))
  have h4 := Boxed.new (((w.alloc (.cells #[.slice p n c] 44)).alloc (.map #[] 0)).alloc (.cells #[.map (some (w.heap.size + 1))] 125)) 106 (.func (.func 130) #[] #[.pointer (some ⟨w.heap.size + 2, 0, none⟩), .pointer (some ⟨w.heap.size, 0, none⟩), .pointer (some ⟨w.heap.size + 3, 0, none⟩)])
  simp only [World.size_alloc] at h1 h2 h3 h4
  have hB : Below w.heap.size w ((((w.alloc (.cells #[.slice p n c] 44)).alloc (.map #[] 0)).alloc (.cells #[.map (some (w.heap.size + 1))] 125)).alloc (.cells #[.func (.func 130) #[] #[.pointer (some ⟨w.heap.size + 2, 0, none⟩), .pointer (some ⟨w.heap.size, 0, none⟩), .pointer (some ⟨w.heap.size + 3, 0, none⟩)]] 106)) := ((((Below.refl _ w).alloc (Nat.le_refl _) _).alloc (by simp) _).alloc (by simp; omega) _).alloc (by simp; omega) _
  exact ⟨rfl, ⟨hB, by simp, ((h1.alloc _).alloc _).alloc _, h3.alloc _, h4, _, (h2.alloc _).alloc _, know_start l⟩, hB⟩
def ptI (c : Int) : Int × Int := (mkLo c c, mkHi c c)
def addI2 (p q : Int × Int) : Int × Int := (addLo p.1 p.2 q.1 q.2, addHi p.1 p.2 q.1 q.2)
/-- The value of a term, behind j variables. -/
def valI (box : List (Int × Int)) (t : Tm) (j : Nat) : Int × Int := (List.range j).foldl (fun v i => if 0 < t.2.getD i 0 then mulI2 v (powX (varX box i) (t.2.getD i 0).toNat) else v) (ptI t.1)
theorem valI_zero (box : List (Int × Int)) (t : Tm) : valI box t 0 = ptI t.1 := rfl
theorem valI_in {box : List (Int × Int)} {t : Tm} {j n : Nat} (hx : t.2[j]? = some (n : Int)) (h : 0 < n) : valI box t (j + 1) = mulI2 (valI box t j) (powX (varX box j) n) := by
  unfold valI
  rw [List.range_succ, List.foldl_append]
  have e : t.2.getD j 0 = (n : Int) := by rw [List.getD_eq_getElem?_getD, hx]; rfl
  simp only [List.foldl_cons, List.foldl_nil, e]
  rw [if_pos (by omega)]
  rfl
theorem valI_out {box : List (Int × Int)} {t : Tm} {j : Nat} (hx : t.2[j]? = some (0 : Int)) : valI box t (j + 1) = valI box t j := by
  unfold valI
  rw [List.range_succ, List.foldl_append]
  have e : t.2.getD j 0 = (0 : Int) := by rw [List.getD_eq_getElem?_getD, hx]; rfl
  simp only [List.foldl_cons, List.foldl_nil, e]
  rw [if_neg (by omega)]
theorem ptI_vb (c : Int) : VB2 (ptI c) := mk_vi (Int.le_refl c)
theorem valI_vb (box : List (Int × Int)) (t : Tm) (j : Nat) : VB2 (valI box t j) := by
  induction j with
  | zero => exact ptI_vb _
  | succ j ih =>
    unfold valI at *
    rw [List.range_succ, List.foldl_append]
    simp only [List.foldl_cons, List.foldl_nil]
    split
    · exact mul_vi _ _ _ _
    · exact ih
theorem vb_le {p : Int × Int} (h : VB2 p) : p.1 ≤ p.2 := by
  rcases h with h | h
  · unfold Ent at h; omega
  · exact h.2.2
def evalP (box : List (Int × Int)) (l : List Tm) : Int × Int := l.foldl (fun a t => addI2 a (valI box t 6)) (0, 0)
theorem evalP_snoc {box : List (Int × Int)} {l : List Tm} {k : Nat} {t : Tm} (hx : l[k]? = some t) : evalP box (l.take (k + 1)) = addI2 (evalP box (l.take k)) (valI box t 6) := by
  unfold evalP
  rw [List.take_add_one, hx, List.foldl_append]
  rfl
theorem evalP_vb (box : List (Int × Int)) (l : List Tm) : VB2 (evalP box l) := by
  have : ∀ (l : List Tm) (a : Int × Int), VB2 a → VB2 (l.foldl (fun a t => addI2 a (valI box t 6)) a) := by
    intro l
    induction l with
    | nil => exact fun a h => h
    | cons t l ih => exact fun a h => ih _ (add_vi (vb_le h) (vb_le (valI_vb box t 6)))
  exact this l (0, 0) (.inr (by unfold Num; decide))
/-- The loops' state. -/
structure EvI (w w1 : World) (vb : Value) (box : List (Int × Int)) (S : Nat) (acc : Int × Int) (N : Nat) (W : World) : Prop where
  pw : ∃ N', N' ≤ N ∧ PwI w1 vb box N' W
  sum : IvC W S acc
  res : IvC W w.heap.size (0, 0)
  bel : Below w.heap.size w W
theorem EvI.grow {w w1 W W' : World} {vb : Value} {box : List (Int × Int)} {S N : Nat} {acc : Int × Int} (h : EvI w w1 vb box S acc N W) (hB : Below W.heap.size W W') : EvI w w1 vb box S acc N W' := by
  obtain ⟨N', h1, h2⟩ := h.pw
  exact ⟨⟨N', h1, h2.grow hB⟩, h.sum.grow hB, h.res.grow hB, h.bel.trans (hB.mono h.bel.size)⟩
theorem EvI.mono {w w1 W : World} {vb : Value} {box : List (Int × Int)} {S N N' : Nat} {acc : Int × Int} (h : EvI w w1 vb box S acc N W) (hN : N ≤ N') : EvI w w1 vb box S acc N' W := by
  obtain ⟨N1, h1, h2⟩ := h.pw
  exact ⟨⟨N1, Nat.le_trans h1 hN, h2⟩, h.sum, h.res, h.bel⟩
set_option maxHeartbeats 16000000 in
theorem eval_ok (v vb : Value) (l : List Tm) (box : List (Int × Int)) (w : World) (hv : Tx w v l) (hb : Bx w vb box) (ht : ∀ t ∈ l, TV t) (hbv : ∀ p ∈ box, VB2 p) (hsm : l.length ≤ 1000) :
    Calls Tryz.prog 85 #[v, vb] w fun e w' => e = .returned (.agg #[.int .i64 (evalP box l).1, .int .i64 (evalP box l).2]) ∧ Below w.heap.size w w' := by
  obtain ⟨⟨R1, R2⟩, hR⟩ : ∃ R, evalP box l = R := ⟨_, rfl⟩
  rw [hR]
  have HRR := Lib.hid hR
  dsimp only
  clear hR
  obtain ⟨p, c, rfl⟩ := hv.cut
  have hb' := hb
  obtain ⟨_, pb, cb, rfl, _⟩ := hb'
  have HV := Lib.hid hv
  have HT := Lib.hid ht
  have HBV := Lib.hid hbv
  have hba : Below w.heap.size w (w.alloc (.cells #[.int .i64 0, .int .i64 0] 24)) := (Below.refl _ _).alloc (Nat.le_refl _) _
  have HBX := Lib.hid (hb.grow hba)
  have HP0 := Lib.hid (powers_ok pb box.length cb box (w.alloc (.cells #[.int .i64 0, .int .i64 0] 24)))
  have HR0 := Lib.hid (IvC.new w 0 0)
  have HPT := Lib.hid (fun w => iv_point 0 w)
  rw [show mkLo 0 0 = 0 by decide, show mkHi 0 0 = 0 by decide] at HPT
  unfold PFV at HP0
  clear hv hb ht hbv
  go_enter Tryz.func85, Tryz.ntmps85
  go_wp2_with (fail)
  refine HP0.out.mono ?_
  rintro e0 w2 ⟨rfl, hP2, hB2⟩
  have hB2' := below_then hba hB2
  have HP2 := Lib.hid hP2
  have HR2 := Lib.hid (HR0.out.grow hB2)
  have HB2 := Lib.hid hB2'
  clear hP2 hB2 hB2' HR0
  generalize hw1 : w.alloc (.cells #[.int .i64 0, .int .i64 0] 24) = w1 at *
  have hz1 : w1.heap.size = w.heap.size + 1 := by rw [← hw1]; simp
  clear hw1
  go_wp2_with (fail)
  refine (HPT.out _).mono ?_
  rintro e1 w3 ⟨rfl, hB3⟩
  have hba3 : Below w3.heap.size w3 (w3.alloc (.cells #[.int .i64 0, .int .i64 0] 24)) := (Below.refl _ _).alloc (Nat.le_refl _) _
  have hsS : w1.heap.size + 4 ≤ w3.heap.size := Nat.le_trans HP2.out.siz hB3.size
  have HE0 : Hid (EvI w w1 (.slice pb box.length cb) box w3.heap.size (0, 0) 0 (w3.alloc (.cells #[.int .i64 0, .int .i64 0] 24))) := Lib.hid (EvI.mk ⟨0, Nat.le_refl _, (HP2.out.grow hB3).grow hba3⟩ (IvC.new _ _ _) ((HR2.out.grow hB3).grow hba3) ((HB2.out.trans (hB3.mono HB2.out.size)).trans (hba3.mono (HB2.out.trans (hB3.mono HB2.out.size)).size)))
  clear hB3 hba3
  go_wp2_with (fail)
  go_loopw [17] (fun i wr => ∃ k : Nat, i = .int .i64 k ∧ k ≤ l.length ∧ Hid (EvI w w1 (.slice pb box.length cb) box w3.heap.size (evalP box (l.take k)) (3060 * k) wr)) (fun i _ => l.length - (intOf i).toNat)
  case atStart => exact ⟨0, rfl, Nat.zero_le _, HE0⟩
  case round =>
    clear HE0 HP0 HP2 HR2 HB2 HPT
    obtain ⟨wo, rfl⟩ : ∃ wo, wo = wr := ⟨_, rfl⟩
    obtain ⟨k, rfl, hk, HR⟩ := hrel
    by_cases hlt : k < l.length
    · have i1 : (k : Int) < l.length := by omega
      obtain ⟨t, hx⟩ : ∃ t, l[k]? = some t := ⟨_, List.getElem?_eq_getElem hlt⟩
      have htv := HT.out t (List.mem_of_getElem? hx)
      obtain ⟨ka, a0, a1, a2, a3, a4, a5, rfl⟩ := six_at htv
      obtain ⟨b, o, hp, hb, rd⟩ := HV.out.rd7 hx
      subst hp
      obtain ⟨f0, f1, f2, f3, f4, f5, f6⟩ := rd ⟨wo, HR.out.bel⟩
      dsimp only at f0 f1 f2 f3 f4 f5 f6
      have HX := Lib.hid hx
      have HTV := Lib.hid htv
      have HPK := Lib.hid (fun w => iv_point ka w)
      clear rd hx htv
      obtain ⟨⟨q1, q2⟩, hq⟩ : ∃ R, ptI ka = R := ⟨_, rfl⟩
      have hq' := hq
      unfold ptI at hq'
      simp only [Prod.mk.injEq] at hq'
      rw [hq'.1, hq'.2] at HPK
      have HQ := Lib.hid hq
      clear hq hq'
      go_wp2_with (fail)
      refine (HPK.out _).mono ?_
      rintro e4 w4 ⟨rfl, hB4⟩
      have hbt : Below wo.heap.size wo (wo.alloc (.cells #[.int .i64 ka, .int .u8 a0, .int .u8 a1, .int .u8 a2, .int .u8 a3, .int .u8 a4, .int .u8 a5] 63)) := (Below.refl _ _).alloc (Nat.le_refl _) _
      have ht4 : w4.heap[wo.heap.size]? = some (.cells #[.int .i64 ka, .int .u8 a0, .int .u8 a1, .int .u8 a2, .int .u8 a3, .int .u8 a4, .int .u8 a5] 63 (0, 0)) := (hB4.block _ (by simp)).trans (World.alloc_heap_new wo _)
      have y1 := heapT_cell ht4 (k := 1) rfl
      have y2 := heapT_cell ht4 (k := 2) rfl
      have y3 := heapT_cell ht4 (k := 3) rfl
      have y4 := heapT_cell ht4 (k := 4) rfl
      have y5 := heapT_cell ht4 (k := 5) rfl
      have y6 := heapT_cell ht4 (k := 6) rfl
      have hlt4 : wo.heap.size < w4.heap.size := (Array.getElem?_eq_some_iff.1 ht4).1
      have hB4' := below_then hbt hB4
      have hbq : Below w4.heap.size w4 (w4.alloc (.cells #[.int .i64 q1, .int .i64 q2] 24)) := (Below.refl _ _).alloc (Nat.le_refl _) _
      have hE4 := (HR.out.grow hB4').grow hbq
      have hsv : w3.heap.size < w4.heap.size := Nat.lt_of_lt_of_le HR.out.sum.lt hB4'.size
      have HJ0 : Hid (EvI w w1 (.slice pb box.length cb) box w3.heap.size (evalP box (l.take k)) (3060 * k + 510 * 0) (w4.alloc (.cells #[.int .i64 q1, .int .i64 q2] 24)) ∧ IvC (w4.alloc (.cells #[.int .i64 q1, .int .i64 q2] 24)) w4.heap.size (valI box (ka, [a0, a1, a2, a3, a4, a5]) 0)) := Lib.hid ⟨hE4, by rw [valI_zero]; dsimp only; rw [HQ.out]; exact IvC.new _ _ _⟩
      clear ht4 hB4 hbt hB4' hbq hE4
      go_wp2_with (fail)
      go_loopw [26] (fun j wr => ∃ jj : Nat, j = .int .i64 jj ∧ jj ≤ 6 ∧ Hid (EvI w w1 (.slice pb box.length cb) box w3.heap.size (evalP box (l.take k)) (3060 * k + 510 * jj) wr ∧ IvC wr w4.heap.size (valI box (ka, [a0, a1, a2, a3, a4, a5]) jj))) (fun j _ => 6 - (intOf j).toNat)
      case atStart => exact ⟨0, rfl, Nat.zero_le _, HJ0⟩
      case round =>
        clear HJ0 f0 f1 f2 f3 f4 f5 f6 y1 y2 y3 y4 y5 y6
        obtain ⟨jj, rfl, hj, HJ⟩ := hrel
        by_cases hjl : jj < 6
        · have i2 : (jj : Int) < 6 := by omega
          obtain ⟨x, hy⟩ : ∃ x, ([a0, a1, a2, a3, a4, a5] : List Int)[jj]? = some x := ⟨_, List.getElem?_eq_getElem hjl⟩
          have hxb := HTV.out.1.2 x (List.mem_of_getElem? hy)
          obtain ⟨nx, rfl⟩ : ∃ n : Nat, x = n := ⟨x.toNat, by omega⟩
          have hix := fun W => idx_e hy W
          have HY := Lib.hid hy
          clear hy
          by_cases hpos : 0 < nx
          · have hp0 : (0 : Int) < nx := by omega
            have hvi := valI_in (box := box) (t := (ka, [a0, a1, a2, a3, a4, a5])) HY.out hpos
            have hv0 := valI_vb box (ka, [a0, a1, a2, a3, a4, a5]) jj
            have hpv := powX_vb (varX_vb HBV.out jj) nx
            have hiv := HJ.out.2
            have HVI := Lib.hid hvi
            have hpk := power_ok w1 (.slice pb box.length cb) box HBX.out HBV.out nx (by omega) (by omega) jj hjl
            rw [hz1] at hpk
            have HIV := Lib.hid hiv
            generalize valI box (ka, [a0, a1, a2, a3, a4, a5]) jj = VV at *
            obtain ⟨v1, v2⟩ := VV
            generalize powX (varX box jj) nx = PP at *
            obtain ⟨r1, r2⟩ := PP
            have HML := Lib.hid (fun W => iv_mul v1 v2 r1 r2 W hv0 hpv)
            obtain ⟨⟨m1, m2⟩, hm⟩ : ∃ R, mulI2 (v1, v2) (r1, r2) = R := ⟨_, rfl⟩
            have hm' := hm
            unfold mulI2 at hm'
            simp only [Prod.mk.injEq] at hm'
            rw [hm'.1, hm'.2] at HML
            have hvn := HVI.out
            rw [hm] at hvn
            have HVN := Lib.hid hvn
            have HPK2 := Lib.hid hpk
            obtain ⟨N1, hN1, hP1⟩ := HJ.out.1.pw
            have HP1 := Lib.hid hP1.drew
            have c0 := hiv.c0
            have c1 := hiv.c1
            dsimp only at c0 c1
            clear hpk hvi hv0 hpv hm hm' hvn hiv hP1
            have hsum := Lib.hid HJ.out.1
            have HIX : Hid (∀ w5 w6 : World, wr.drew.grownBy w5 (some (w.heap.size + 1 + 1)) → Below w5.heap.size w5 w6 → IvC w6 w4.heap.size (v1, v2) ∧ IvC w6 w3.heap.size (evalP box (l.take k)) ∧ IvC w6 w.heap.size (0, 0) ∧ Below w.heap.size w w6) := Lib.hid fun w5 w6 h5 h6 => by
              have x1 : IvC wr.drew w4.heap.size (v1, v2) := HIV.out.grow ((Below.refl _ _).drew)
              have s1 : IvC wr.drew w3.heap.size (evalP box (l.take k)) := HJ.out.1.sum.grow ((Below.refl _ _).drew)
              have r1 : IvC wr.drew w.heap.size (0, 0) := HJ.out.1.res.grow ((Below.refl _ _).drew)
              have x2 : IvC w5 w4.heap.size (v1, v2) := heap_grownT h5 (by omega) x1
              have s2 : IvC w5 w3.heap.size (evalP box (l.take k)) := heap_grownT h5 (by omega) s1
              have r2 : IvC w5 w.heap.size (0, 0) := heap_grownT h5 (by omega) r1
              have b1 : Below w.heap.size w wr.drew := HJ.out.1.bel.drew
              have b2 : Below w.heap.size w w5 := b1.grown h5 b1.size (fun j hj => by cases hj; omega)
              exact ⟨x2.grow h6, s2.grow h6, r2.grow h6, b2.trans (h6.mono b2.size)⟩
            go_wp2_with (fail)
            go_region_with (first
              | (go_at_call 130; refine (HPK2.out N1 _ (by omega) HP1.out).mono ?_; rintro e5 w5 ⟨rfl, ⟨N2, hN2, hP2⟩, hg2⟩; have x5 : IvC w5 w4.heap.size (v1, v2) := (HIX.out w5 w5 hg2 (Below.refl _ _)).1; have d0 := x5.c0; have d1 := x5.c1; dsimp only at d0 d1)
              | (go_at_call 65; refine (HML.out _).mono ?_; rintro e6 w6 ⟨rfl, hB6⟩; have HI6 := Lib.hid (HIX.out w5 w6 hg2 hB6); have z0 := HI6.out.1.frozen 0; have z1 := HI6.out.1.frozen 1; have d2 := HI6.out.1.c0; have d3 := HI6.out.1.c1; dsimp only at d2 d3))
            all_goals
              have hP6 := ((hP2.grow hB6).set (b := w4.heap.size) (by omega) 0 (.int .i64 m1)).set (b := w4.heap.size) (by omega) 1 (.int .i64 m2)
              have HN : Hid (EvI w w1 (.slice pb box.length cb) box w3.heap.size (evalP box (l.take k)) (3060 * k + 510 * (jj + 1)) ((w6.setCell ⟨w4.heap.size, 0, none⟩ (.int .i64 m1)).setCell ⟨w4.heap.size, 1, none⟩ (.int .i64 m2)) ∧ IvC ((w6.setCell ⟨w4.heap.size, 0, none⟩ (.int .i64 m1)).setCell ⟨w4.heap.size, 1, none⟩ (.int .i64 m2)) w4.heap.size (valI box (ka, [a0, a1, a2, a3, a4, a5]) (jj + 1))) :=
                Lib.hid ⟨⟨⟨N2, by omega, hP6⟩, HI6.out.2.1.other (c := w4.heap.size) (by omega) _ _, HI6.out.2.2.1.other (c := w4.heap.size) (by omega) _ _, (HI6.out.2.2.2.setCell (p := ⟨w4.heap.size, 0, none⟩) (by dsimp only; omega) _).setCell (p := ⟨w4.heap.size, 1, none⟩) (by dsimp only; omega) _⟩, by rw [HVN.out]; exact HI6.out.1.set m1 m2⟩
              clear hP6 hP2 hB6 hg2 d0 d1 d2 d3 x5 z0 z1 c0 c1
              go_wp2_with (fail)
              go_roundw
              case rel => exact ⟨jj + 1, by go_num, by omega, HN⟩
              case measure => simp [intOf]; omega
          · obtain rfl : nx = 0 := by omega
            have hvi := valI_out (box := box) (t := (ka, [a0, a1, a2, a3, a4, a5])) (by simpa using HY.out)
            have HN : Hid (EvI w w1 (.slice pb box.length cb) box w3.heap.size (evalP box (l.take k)) (3060 * k + 510 * (jj + 1)) wr ∧ IvC wr w4.heap.size (valI box (ka, [a0, a1, a2, a3, a4, a5]) (jj + 1))) := Lib.hid ⟨HJ.out.1.mono (by omega), by rw [hvi]; exact HJ.out.2⟩
            clear hvi
            go_wp2_with (fail)
            go_roundw
            case rel => exact ⟨jj + 1, by go_num, by omega, HN⟩
            case measure => simp [intOf]; omega
        · obtain rfl : jj = 6 := by omega
          have hen := evalP_snoc (box := box) HX.out
          have ha := evalP_vb box (l.take k)
          have hv6 := valI_vb box (ka, [a0, a1, a2, a3, a4, a5]) 6
          have hsu := HJ.out.1.sum
          have hva := HJ.out.2
          have HHJ := Lib.hid HJ.out.1
          have HEN := Lib.hid hen
          have hsum2 : Hid (∀ W, Below wr.heap.size wr W → EvI w w1 (.slice pb box.length cb) box w3.heap.size (evalP box (l.take k)) (3060 * k + 510 * 6) W) := Lib.hid fun W h => HHJ.out.grow h
          generalize evalP box (l.take k) = AC at *
          obtain ⟨g1, g2⟩ := AC
          generalize valI box (ka, [a0, a1, a2, a3, a4, a5]) 6 = VV at *
          obtain ⟨v1, v2⟩ := VV
          have HAD := Lib.hid (fun W => iv_add g1 g2 v1 v2 W ha hv6)
          obtain ⟨⟨m1, m2⟩, hm⟩ : ∃ R, addI2 (g1, g2) (v1, v2) = R := ⟨_, rfl⟩
          have hm' := hm
          unfold addI2 at hm'
          simp only [Prod.mk.injEq] at hm'
          rw [hm'.1, hm'.2] at HAD
          have hen2 := HEN.out
          rw [hm] at hen2
          have HEN2 := Lib.hid hen2
          have c0 := hsu.c0
          have c1 := hsu.c1
          have d0 := hva.c0
          have d1 := hva.c1
          dsimp only at c0 c1 d0 d1
          clear hen ha hv6 hsu hva hm hm' hen2 HEN HJ
          rw [show ((6 : Nat) : Int) = 6 from rfl]
          go_wp2_with (fail)
          refine (HAD.out _).mono ?_
          rintro e7 w7 ⟨rfl, hB7⟩
          have hE7 := hsum2.out _ hB7
          have z0 := hE7.sum.frozen 0
          have z1 := hE7.sum.frozen 1
          have d2 := hE7.sum.c0
          have d3 := hE7.sum.c1
          dsimp only at d2 d3
          obtain ⟨N7, hN7, hP7⟩ := hE7.pw
          have HN : Hid (EvI w w1 (.slice pb box.length cb) box w3.heap.size (evalP box (l.take (k + 1))) (3060 * (k + 1)) ((w7.setCell ⟨w3.heap.size, 0, none⟩ (.int .i64 m1)).setCell ⟨w3.heap.size, 1, none⟩ (.int .i64 m2))) :=
            Lib.hid ⟨⟨N7, by omega, (hP7.set (b := w3.heap.size) (by omega) 0 (.int .i64 m1)).set (b := w3.heap.size) (by omega) 1 (.int .i64 m2)⟩, by rw [HEN2.out]; exact hE7.sum.set m1 m2, hE7.res.other (c := w3.heap.size) (by omega) _ _, (hE7.bel.setCell (p := ⟨w3.heap.size, 0, none⟩) (by dsimp only; omega) _).setCell (p := ⟨w3.heap.size, 1, none⟩) (by dsimp only; omega) _⟩
          clear hE7 hP7 hB7
          go_wp2_with (fail)
          go_roundw
          case rel => exact ⟨k + 1, by go_num, by omega, HN⟩
          case measure => simp [intOf]; omega
    · obtain rfl : k = l.length := by omega
      have hR := HR.out
      rw [List.take_of_length_le (Nat.le_refl _), HRR.out] at hR
      have c0 := hR.sum.c0
      have c1 := hR.sum.c1
      have r0 := hR.res.c0
      have r1 := hR.res.c1
      have z0 := hR.res.frozen 0
      have z1 := hR.res.frozen 1
      dsimp only at c0 c1 r0 r1
      have HB := Lib.hid hR.bel
      have hlr := hR.res.lt
      clear hR
      go_wp2_with (fail)
      refine bodyPost_ret (v := .agg #[.int .i64 R1, .int .i64 R2]) (by simp [results, Tryz.results85, go_sem, r0, r1]) rfl ⟨rfl, ?_⟩
      exact (HB.out.setCell (p := ⟨w.heap.size, 0, none⟩) (Nat.le_refl _) _).setCell (p := ⟨w.heap.size, 1, none⟩) (Nat.le_refl _) _
end Go.Proofs.YthakeeinhgfbbaaGreat
