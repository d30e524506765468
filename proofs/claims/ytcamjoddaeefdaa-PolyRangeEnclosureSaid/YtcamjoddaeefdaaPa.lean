/-
  Package poly: powers: the memo, a map keyed by a variable and an exponent, its elements intervals.
-/
import Derived.Test.YtcamjoddaeefdaaTA
import Derived.Test.YtcamjoddaeefdaaBox
import Derived.Test.YtcamjoddaeefdaaIvMath
import Derived.DeepKeys4
import Derived.Maps.OwnSet
import Derived.Maps.AppendAt
namespace Go.Proofs.Ytcamjoddaeefdaa
open Go.ChangeShapes Go.WideShapes Go.ChangeAt Go.RowKit Go.Maps
set_option linter.unusedVariables false
set_option linter.unusedSimpArgs false
set_option maxRecDepth 100000

def mulI2 (p q : Int × Int) : Int × Int := (mulLo p.1 p.2 q.1 q.2, mulHi p.1 p.2 q.1 q.2)
def sqI2 (p : Int × Int) : Int × Int := (sqLo p.1 p.2, sqHi p.1 p.2)
def VB2 (p : Int × Int) : Prop := VI p.1 p.2
/-- The power n of an interval. -/
def powX (x : Int × Int) (n : Nat) : Int × Int := if h : n ≤ 1 then x else if n % 2 = 0 then sqI2 (powX x (n / 2)) else mulI2 (powX x (n - 1)) x
termination_by n
decreasing_by all_goals omega
theorem powX_one (x : Int × Int) : powX x 1 = x := by rw [powX]; simp
theorem powX_even (x : Int × Int) {n : Nat} (h1 : 1 < n) (h : n % 2 = 0) : powX x n = sqI2 (powX x (n / 2)) := by rw [powX, dif_neg (by omega), if_pos h]
theorem powX_odd (x : Int × Int) {n : Nat} (h1 : 1 < n) (h : ¬ n % 2 = 0) : powX x n = mulI2 (powX x (n - 1)) x := by rw [powX, dif_neg (by omega), if_neg h]
theorem powX_vb {x : Int × Int} (h : VB2 x) (n : Nat) : VB2 (powX x n) := by
  rw [powX]
  split
  · exact h
  · split
    · exact sq_vi _ _
    · exact mul_vi _ _ _ _
/-- What variable i ranges over. -/
def varX (l : List (Int × Int)) (i : Nat) : Int × Int := (l[i]?).getD (-65536, 65536)
theorem varX_vb {l : List (Int × Int)} (h : ∀ p ∈ l, VB2 p) (i : Nat) : VB2 (varX l i) := by
  unfold varX
  cases hx : l[i]? with
  | none => exact .inr (by unfold Num; decide)
  | some p => exact h p (List.mem_of_getElem? hx)
/-! ### the keys -/
def kA (i n : Int) : Lit := .string (keyBytes [.int .i64 i, .int .u8 n])
def aV (i n : Int) : Value := .agg #[.int .i64 i, .int .u8 n]
theorem keyA {i n : Int} (hi : -9223372036854775808 ≤ i ∧ i ≤ 9223372036854775807) (hn : 0 ≤ n ∧ n ≤ 255) : keyOf Try.prog 97 (aV i n) = some (kA i n) := by
  have w0 : (Lit.int .i64 i).wf = true := WalkArith.wf_i64 (by omega)
  have w1 : (Lit.int .u8 n).wf = true := by
    have e1 : IntKind.u8.min = 0 := rfl
    have e2 : IntKind.u8.max = 255 := rfl
    simp [Lit.wf, e1, e2]
    omega
  have hkt : Try.prog.keyType 97 = true := by kernel_rfl
  have hce : Try.prog.cellsOf 97 = 2 := by kernel_rfl
  have hc1 : Try.prog.cellsOf 3 = 1 := by kernel_rfl
  have hc2 : Try.prog.cellsOf 5 = 1 := by kernel_rfl
  have hts : ∃ m, Try.prog.types.size = m + 1 := ⟨Try.prog.types.size - 1, by have : 0 < Try.prog.types.size := of_decide_eq_true (by kernel_rfl); omega⟩
  obtain ⟨m, hm⟩ := hts
  unfold keyOf aV
  simp only [Try.underlying97]
  rw [if_pos (by simp [hkt, Value.formed, Try.underlying97, hce]), hm]
  unfold Program.keyLits
  simp only [Try.underlying97, Value.cells]
  rw [if_pos ⟨by rw [hce]; rfl, by kernel_rfl⟩]
  simp [List.mapM_cons, hc1, hc2, Program.keyLits, Try.underlying3, Try.underlying5, w0, w1, kA]
theorem lawA : Keyed Try.prog 97 := Keyed.of_law (deep_law (m := 2) (by omega) (by kernel_rfl) (by kernel_rfl) (by kernel_rfl))
theorem aV_inj {i n j m : Int} (h : aV i n = aV j m) : i = j ∧ n = m := by
  simp [aV] at h
  exact h
theorem kA_inj {i n j m : Int} (hi : -9223372036854775808 ≤ i ∧ i ≤ 9223372036854775807) (hn : 0 ≤ n ∧ n ≤ 255) (hj : -9223372036854775808 ≤ j ∧ j ≤ 9223372036854775807) (hm : 0 ≤ m ∧ m ≤ 255) (h : kA i n = kA j m) : i = j ∧ n = m := aV_inj (lawA.inj (keyA hi hn) (h ▸ keyA hj hm))
/-! ### the elements -/
def dI (p : Int × Int) : DataW Unit := .agg [.lit (.int .i64 p.1), .lit (.int .i64 p.2)]
def elI : Value → Option (DataW Unit × List MemPlace)
  | .agg ⟨[.int .i64 a, .int .i64 b]⟩ => some (dI (a, b), [])
  | _ => none
theorem elI_inv {v : Value} {x : DataW Unit} {p : List MemPlace} (h : elI v = some (x, p)) : ∃ a b, v = .agg #[.int .i64 a, .int .i64 b] ∧ x = dI (a, b) := by
  unfold elI at h
  split at h
  · rename_i a b
    simp only [Option.some.injEq, Prod.mk.injEq] at h
    exact ⟨a, b, rfl, h.1.symm⟩
  · cases h
theorem dI_inj {p q : Int × Int} (h : dI p = dI q) : p = q := by
  simp [dI] at h
  exact Prod.ext h.1 h.2
/-- What the memo holds is right. -/
def Know (l : List (Int × Int)) (D : DataW Unit) : Prop := IsMap D ∧ ∀ i n : Nat, i < 6 → n ≤ 255 → Maps.has D (kA i n) = true → ∀ z, D.atKey (kA i n) z = dI (powX (varX l i) n)
theorem know_start (l : List (Int × Int)) : Know l (.map []) := ⟨isMap_empty, fun i n _ _ h => by simp [Maps.has] at h⟩
theorem know_put {l : List (Int × Int)} {D : DataW Unit} (h : Know l D) {i n : Nat} (hi : i < 6) (hn : n ≤ 255) : Know l (D.put (kA i n) (dI (powX (varX l i) n))) := by
  have hk : WideAt.IsKeyLit (kA i n) := trivial
  refine ⟨h.1.put _ _, fun j m hj hm hh z => ?_⟩
  by_cases q : kA j m = kA i n
  · obtain ⟨e1, e2⟩ := kA_inj (by omega) (by omega) (by omega) (by omega) q
    have e1 : j = i := by omega
    have e2 : m = n := by omega
    subst e1; subst e2
    rw [atKey_put_same h.1 hk]
  · rw [has_put_other q] at hh
    rw [atKey_put_other q]
    exact h.2 j m hj hm hh z
/-- The state that a call of power finds: w is the world as 'powers' found it. -/
structure PwI (w : World) (vb : Value) (l : List (Int × Int)) (N : Nat) (W : World) : Prop where
  bel : Below w.heap.size w W
  siz : w.heap.size + 4 ≤ W.heap.size
  bb : Boxed W w.heap.size 51 vb
  kb : Boxed W (w.heap.size + 2) 94 (.map (some (w.heap.size + 1)))
  pb : Boxed W (w.heap.size + 3) 72 (.func (.func 69) #[] #[.pointer (some ⟨w.heap.size + 2, 0, none⟩), .pointer (some ⟨w.heap.size, 0, none⟩), .pointer (some ⟨w.heap.size + 3, 0, none⟩)])
  map : ∃ D, W.ownsMap Try.prog 97 elI (w.heap.size + 1) N D ∧ Know l D
theorem PwI.of {w W W' : World} {vb : Value} {l : List (Int × Int)} {N N' : Nat} (h : PwI w vb l N W) (hg : W.grownBy W' (some (w.heap.size + 1))) (hm : ∃ D, W'.ownsMap Try.prog 97 elI (w.heap.size + 1) N' D ∧ Know l D) : PwI w vb l N' W' :=
  ⟨h.bel.grown hg h.bel.size (fun j hj => by cases hj; omega), Nat.le_trans h.siz hg.size, h.bb.kept hg (by simp), h.kb.kept hg (by simp), h.pb.kept hg (by simp), hm⟩
theorem PwI.grow {w W W' : World} {vb : Value} {l : List (Int × Int)} {N : Nat} (h : PwI w vb l N W) (hB : Below W.heap.size W W') : PwI w vb l N W' := by
  obtain ⟨D, h1, h2⟩ := h.map
  have hg := grown_belowT hB
  exact h.of ⟨hg.os, hg.tape, hg.output, hg.size, fun i hi _ => hg.block i hi (by simp)⟩ ⟨D, h1.kept hg (by simp), h2⟩
theorem grownBy_setT (W : World) (a : Addr) (v : Value) : W.grownBy (W.setCell a v) (some a.block) := ⟨rfl, rfl, rfl, (KeepsWalks.setCell W _ v).size, fun k _ hk => Below.heap_setCell _ _ _ k (fun e => hk (by rw [e]))⟩
theorem PwI.set {w W : World} {vb : Value} {l : List (Int × Int)} {N : Nat} (h : PwI w vb l N W) {b : Nat} (hb : w.heap.size + 4 ≤ b) (o : Nat) (v : Value) : PwI w vb l N (W.setCell ⟨b, o, none⟩ v) := by
  obtain ⟨D, h1, h2⟩ := h.map
  have hg := grownBy_setT W ⟨b, o, none⟩ v
  have ne : ∀ {k : Nat}, k < w.heap.size + 4 → some k ≠ some b := fun hk e => by cases e; omega
  exact ⟨h.bel.setCell (p := ⟨b, o, none⟩) (by dsimp only; omega) _, by simpa using h.siz, h.bb.kept hg (ne (by omega)), h.kb.kept hg (ne (by omega)), h.pb.kept hg (ne (by omega)), D, h1.kept hg (ne (by omega)), h2⟩
theorem PwI.drew {w W : World} {vb : Value} {l : List (Int × Int)} {N : Nat} (h : PwI w vb l N W) : PwI w vb l N W.drew := h.grow ((Below.refl _ _).drew)
/-- The look-up: what is there is right. -/
theorem PwI.look {w W : World} {vb : Value} {l : List (Int × Int)} {N : Nat} (h : PwI w vb l N W) {i n : Nat} (hi : i < 6) (hn : n ≤ 255) : ∃ a b ok, (Instr.lookup 94 (.map (some (w.heap.size + 1))) (aV i n) true).run Try.prog W = .ok (.tuple #[.agg #[.int .i64 a, .int .i64 b], .bool ok]) W ∧ (ok = true → (a, b) = powX (varX l i) n) := by
  obtain ⟨D, h1, h2⟩ := h.map
  obtain ⟨v, ps, hrun, hv⟩ := h1.look_ok lawA Try.underlying94 (z := .agg #[.int .i64 0, .int .i64 0]) (by kernel_rfl) (zd := dI (0, 0)) (zp := []) rfl (keyA (i := i) (n := n) (by omega) (by omega))
  obtain ⟨a, b, rfl, hx⟩ := elI_inv hv
  refine ⟨a, b, _, hrun, fun hh => ?_⟩
  rw [h2.2 i n hi hn hh] at hx
  exact (dI_inj hx).symm
/-- The store. -/
theorem PwI.store {w W : World} {vb : Value} {l : List (Int × Int)} {N : Nat} (h : PwI w vb l N W) {i n : Nat} {a b : Int} (hi : i < 6) (hn : n ≤ 255) (hN : N ≤ 100000000) (hp : (a, b) = powX (varX l i) n) : ∃ w', (Instr.mapUpdate 94 (.map (some (w.heap.size + 1))) (aV i n) (.agg #[.int .i64 a, .int .i64 b])).run Try.prog W = .ok () w' ∧ PwI w vb l (N + 1) w' ∧ W.grownBy w' (some (w.heap.size + 1)) := by
  obtain ⟨D, h1, h2⟩ := h.map
  obtain ⟨w', hrun, ho, hg⟩ := h1.update (val := .agg #[.int .i64 a, .int .i64 b]) lawA Try.underlying94 (by unfold maxLen; omega) (keyA (i := i) (n := n) (by omega) (by omega)) (d := dI (a, b)) (ps := []) rfl
  refine ⟨w', hrun, h.of hg ⟨_, ho, ?_⟩, hg⟩
  rw [hp]
  exact know_put h2 hi hn
end Go.Proofs.Ytcamjoddaeefdaa
