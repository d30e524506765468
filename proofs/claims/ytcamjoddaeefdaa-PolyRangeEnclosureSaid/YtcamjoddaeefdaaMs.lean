/-
  Package poly: multiplied: the pairs of terms, what their products leave, the loops' state.
-/
import Derived.Test.YtcamjoddaeefdaaSo
import Derived.Test.YtcamjoddaeefdaaEn
import Derived.Test.YtcamjoddaeefdaaTA
namespace Go.Proofs.Ytcamjoddaeefdaa
open Go.ChangeShapes Go.WideShapes Go.ChangeAt Go.RowKit Go.Shelf
set_option linter.unusedVariables false
set_option linter.unusedSimpArgs false
set_option maxRecDepth 100000

def pairsT (l m : List Tm) : List (Tm × Tm) := l.flatMap fun s => m.map fun t => (s, t)
def prT (p : Tm × Tm) : Tm := (dn (p.1.1 * p.2.1) 65536, addE p.1.2 p.2.2)
def rndP (p : Tm × Tm) : Int × Int := if dn (p.1.1 * p.2.1) 65536 = up (p.1.1 * p.2.1) 65536 then (0, 0) else rndE (addE p.1.2 p.2.2)
def missM (Q : List (Tm × Tm)) : Int × Int := Q.foldl (fun a p => (a.1 + (rndP p).1, a.2 + (rndP p).2)) (0, 0)
def mulP (l m : List Tm) : List Tm := (collT ((pairsT l m).map prT)).filter fun t => t.1 != 0
theorem missM_snoc (Q : List (Tm × Tm)) (p : Tm × Tm) : missM (Q ++ [p]) = ((missM Q).1 + (rndP p).1, (missM Q).2 + (rndP p).2) := by simp [missM, List.foldl_append]
theorem pairs_snoc {l m : List Tm} {k : Nat} {s : Tm} (h : l[k]? = some s) : pairsT (l.take (k + 1)) m = pairsT (l.take k) m ++ m.map fun t => (s, t) := by
  unfold pairsT
  rw [List.take_add_one, h, List.flatMap_append]
  simp
theorem pairs_len (l m : List Tm) : (pairsT l m).length = l.length * m.length := by
  induction l with
  | nil => simp [pairsT]
  | cons s l ih =>
    show ((m.map fun t => (s, t)) ++ pairsT l m).length = _
    rw [List.length_append, ih, List.length_map, List.length_cons, Nat.add_mul, Nat.one_mul, Nat.add_comm]
theorem row_snoc {m : List Tm} {j : Nat} {s t : Tm} (h : m[j]? = some t) : (m.take (j + 1)).map (fun t => (s, t)) = (m.take j).map (fun t => (s, t)) ++ [(s, t)] := by
  rw [List.take_add_one, h, List.map_append]
  rfl
theorem rnd_bd (e : List Int) : -1 ≤ (rndE e).1 ∧ (rndE e).1 ≤ 0 ∧ (rndE e).2 = 1 := by
  unfold rndE
  split <;> decide
theorem rndP_bd (p : Tm × Tm) : -1 ≤ (rndP p).1 ∧ (rndP p).1 ≤ 0 ∧ 0 ≤ (rndP p).2 ∧ (rndP p).2 ≤ 1 := by
  unfold rndP
  split
  · decide
  · have := rnd_bd (addE p.1.2 p.2.2)
    omega
theorem miss_bd (Q : List (Tm × Tm)) : -(Q.length : Int) ≤ (missM Q).1 ∧ (missM Q).1 ≤ 0 ∧ 0 ≤ (missM Q).2 ∧ (missM Q).2 ≤ Q.length := by
  have : ∀ (Q : List (Tm × Tm)) (a : Int × Int), a.1 - (Q.length : Int) ≤ (Q.foldl (fun a p => (a.1 + (rndP p).1, a.2 + (rndP p).2)) a).1 ∧ (Q.foldl (fun a p => (a.1 + (rndP p).1, a.2 + (rndP p).2)) a).1 ≤ a.1 ∧ a.2 ≤ (Q.foldl (fun a p => (a.1 + (rndP p).1, a.2 + (rndP p).2)) a).2 ∧ (Q.foldl (fun a p => (a.1 + (rndP p).1, a.2 + (rndP p).2)) a).2 ≤ a.2 + Q.length := by
    intro Q
    induction Q with
    | nil => intro a; simp
    | cons p Q ih =>
      intro a
      have h1 := ih (a.1 + (rndP p).1, a.2 + (rndP p).2)
      have h2 := rndP_bd p
      simp only [List.foldl_cons, List.length_cons] at *
      push_cast
      omega
  have h := this Q (0, 0)
  unfold missM
  dsimp only at h
  omega
theorem sumK_bd {S : List Tm} {B : Int} (hB : 0 ≤ B) (h : ∀ t ∈ S, -B ≤ t.1 ∧ t.1 ≤ B) (e : List Int) : -(B * S.length) ≤ sumK S e ∧ sumK S e ≤ B * S.length := by
  induction S with
  | nil => simp [sumK]
  | cons q r ih =>
    have h1 := h q (by simp)
    have h2 := ih fun t ht => h t (by simp [ht])
    rw [sumK_cons, List.length_cons]
    push_cast
    rw [Int.mul_add, Int.mul_one]
    split <;> omega
theorem pr_bd {p : Tm × Tm} (h1 : Num p.1.1) (h2 : Num p.2.1) : -140737488355328 ≤ (prT p).1 ∧ (prT p).1 ≤ 140737488355328 := by
  unfold Num at h1 h2
  unfold prT
  have hb : -4611686018427387904 ≤ p.1.1 * p.2.1 ∧ p.1.1 * p.2.1 ≤ 4611686018427387904 := by
    constructor
    · rcases Int.le_total 0 p.2.1 with h | h
      · have := Int.mul_le_mul_of_nonneg_right (show -2147483648 ≤ p.1.1 by omega) h
        omega
      · have := Int.mul_le_mul_of_nonpos_right (show p.1.1 ≤ 2147483648 by omega) h
        omega
    · rcases Int.le_total 0 p.2.1 with h | h
      · have := Int.mul_le_mul_of_nonneg_right (show p.1.1 ≤ 2147483648 by omega) h
        omega
      · have := Int.mul_le_mul_of_nonpos_right (show -2147483648 ≤ p.1.1 by omega) h
        omega
  have hd := dn_mul (p.1.1 * p.2.1) (d := 65536) (by decide)
  dsimp only
  omega
/-- The loops' state: the map's block, what is missing, the result's block. -/
structure MuI (w : World) (Q : List (Tm × Tm)) (mi : Int × Int) (W : World) : Prop where
  map : ∃ D, W.ownsMap Try.prog 37 (plainElem Try.prog 2) (w.heap.size + 1) Q.length D ∧ MapIs D (Q.map prT)
  mis : IvC W (w.heap.size + 2) mi
  res : IvC W w.heap.size (0, 0)
  bel : Below w.heap.size w W
  siz : w.heap.size + 3 ≤ W.heap.size
theorem MuI.grow {w W W' : World} {Q : List (Tm × Tm)} {mi : Int × Int} (h : MuI w Q mi W) (hB : Below W.heap.size W W') : MuI w Q mi W' := by
  obtain ⟨D, h1, h2⟩ := h.map
  exact ⟨⟨D, h1.kept (grown_belowT hB) (by simp), h2⟩, h.mis.grow hB, h.res.grow hB, h.bel.trans (hB.mono h.bel.size), Nat.le_trans h.siz hB.size⟩
theorem grownBy_set (W : World) (a : Addr) (v : Value) : W.grownBy (W.setCell a v) (some a.block) := ⟨rfl, rfl, rfl, (KeepsWalks.setCell W _ v).size, fun k _ hk => Below.heap_setCell _ _ _ k (fun e => hk (by rw [e]))⟩
theorem MuI.set {w W : World} {Q : List (Tm × Tm)} {mi : Int × Int} (h : MuI w Q mi W) (x y : Int) : MuI w Q (x, y) ((W.setCell ⟨w.heap.size + 2, 0, none⟩ (.int .i64 x)).setCell ⟨w.heap.size + 2, 1, none⟩ (.int .i64 y)) := by
  obtain ⟨D, h1, h2⟩ := h.map
  have hs := h.siz
  refine ⟨⟨D, (h1.kept (grownBy_set W ⟨w.heap.size + 2, 0, none⟩ _) (by simp)).kept (grownBy_set _ ⟨w.heap.size + 2, 1, none⟩ _) (by simp), h2⟩, h.mis.set _ _, h.res.other (by omega) _ _, ?_, by simpa using hs⟩
  exact (h.bel.setCell (p := ⟨w.heap.size + 2, 0, none⟩) (by simp) _).setCell (p := ⟨w.heap.size + 2, 1, none⟩) (by simp) _
theorem MuI.drew {w W : World} {Q : List (Tm × Tm)} {mi : Int × Int} (h : MuI w Q mi W) : MuI w Q mi W.drew := h.grow ((Below.refl _ _).drew)
theorem heap_grown {W W' : World} {b c : Nat} {o : Obj} (hg : W.grownBy W' (some b)) (hne : c ≠ b) (h : W.heap[c]? = some o) : W'.heap[c]? = some o :=
  (hg.block c (Array.getElem?_eq_some_iff.1 h).1 (fun e => hne (Option.some.inj e))).trans h
theorem MuI.put {w W W' : World} {Q : List (Tm × Tm)} {mi : Int × Int} {p : Tm × Tm} {D' : DataW Unit} (h : MuI w Q mi W) (hg : W.grownBy W' (some (w.heap.size + 1))) (ho : W'.ownsMap Try.prog 37 (plainElem Try.prog 2) (w.heap.size + 1) (Q.length + 1) D') (hM : MapIs D' (Q.map prT ++ [prT p])) : MuI w (Q ++ [p]) mi W' :=
  ⟨⟨D', by rw [List.length_append]; exact ho, by rw [List.map_append]; exact hM⟩, heap_grown hg (by omega) h.mis, heap_grown hg (by omega) h.res, h.bel.grown hg h.bel.size (fun j hj => by cases hj; omega), Nat.le_trans h.siz hg.size⟩
/-- One more pair: the entry, the look-ups, the store. -/
theorem MuI.step {w W : World} {Q : List (Tm × Tm)} {mi : Int × Int} (h : MuI w Q mi W) (p : Tm × Tm) {e : List Int} {d : Int} (he : EV e) (hp : prT p = (d, e)) (hQ : Q.length ≤ 10000) (hb : ∀ q ∈ Q, -140737488355328 ≤ (prT q).1 ∧ (prT q).1 ≤ 140737488355328) (hd : -140737488355328 ≤ d ∧ d ≤ 140737488355328) :
    ∃ (c : Int) (st : Nat) (w2 w3 : World), (Instr.lookup 82 (.map (some (w.heap.size + 1))) (valE e) false).run Try.prog W = .ok (.int .i64 c) W ∧ (-4611686018427387904 ≤ c ∧ c ≤ 4611686018427387904) ∧
      (Instr.mapEntry 82 (.map (some (w.heap.size + 1))) (valE e)).run Try.prog W = .ok (.tuple #[.int .i64 c, .int .i64 st]) w2 ∧
      (Instr.lookup 82 (.map (some (w.heap.size + 1))) (valE e) false).run Try.prog w2 = .ok (.int .i64 c) w2 ∧
      (Instr.entryStore 82 (.map (some (w.heap.size + 1))) (.int .i64 st) (.int .i64 (c + d))).run Try.prog w2 = .ok () w3 ∧ W.grownBy w2 (some (w.heap.size + 1)) ∧ W.grownBy w3 (some (w.heap.size + 1)) ∧ MuI w (Q ++ [p]) mi w3 := by
  obtain ⟨D, h1, h2⟩ := h.map
  obtain ⟨c, st, w2, e1, e2, _, e3, e4, e5, e6⟩ := entry_own h1 arr6.law Try.underlying82 Try.underlying2 (fun u => by kernel_rfl) (by unfold maxLen; omega) (key6 he)
  have hc : c = sumK (Q.map prT) e := by
    rw [h2.at0 e he] at e2
    simpa using e2.symm
  have hbd := sumK_bd (S := Q.map prT) (B := 140737488355328) (by decide) (fun t ht => by obtain ⟨q, hq, rfl⟩ := List.mem_map.1 ht; exact hb q hq) e
  rw [← hc, List.length_map] at hbd
  have hcb : -4611686018427387904 + 140737488355328 ≤ c ∧ c ≤ 4611686018427387904 - 140737488355328 := by omega
  have hwf : (Lit.int .i64 (c + d)).wf = true := WalkArith.wf_i64 (by omega)
  obtain ⟨w3, e7, e8, e9⟩ := e6 (c + d) hwf
  refine ⟨c, st, w2, w3, e1, by omega, e3, e4, e7, e5, e9, h.put e9 e8 ?_⟩
  rw [hp, hc]
  exact h2.step he d
end Go.Proofs.Ytcamjoddaeefdaa
