/-
  slices.SortedFunc over an iterator that gives six bytes, by poly.compare.
  Package poly: multiplied: the pairs of terms, what their products leave, the loops' state.
  Package poly: multiplied.
  Package poly: Mul, Scale.
-/
import Derived.Test.YthakeeinhgfbbaaGreatCo
import Derived.Test.YthakeeinhgfbbaaGreatSl
import Derived.Test.YthakeeinhgfbbaaGreatEn
import Derived.Test.YthakeeinhgfbbaaGreatTA
namespace Go.Proofs.YthakeeinhgfbbaaGreat
open Go.ChangeShapes Go.WideShapes Go.ChangeAt Go.RowKit Go.Shelf Go.Sort
set_option linter.unusedVariables false
set_option linter.unusedSimpArgs false
set_option maxRecDepth 100000
attribute [local go_sem] Oper.semAt_some

def encE (x : E6) : List Value := x.1.map (.int .u8 ·)
instance : Inhabited E6 := ⟨⟨[0, 0, 0, 0, 0, 0], rfl, fun x hx => by simp at hx; omega⟩⟩
theorem encE_len (x : E6) : (encE x).length = 6 := by unfold encE; rw [List.length_map]; exact x.2.1
theorem encE_one (x : E6) : ∀ v ∈ encE x, v.oneCell' = true := by
  intro v hv
  obtain ⟨z, _, rfl⟩ := List.mem_map.1 hv
  rfl
def cfE (x y : E6) : Int := cmpE x.1 y.1
theorem swoE : SWO (Go.Proofs.ltOf cfE) where
  irrefl x := decide_eq_false (by rw [cfE, cmp_self]; decide)
  trans x y z h1 h2 := decide_eq_true (cmp_trans (of_decide_eq_true h1) (of_decide_eq_true h2))
  ntrans x y z h1 h2 := by
    have h1' : ¬ cmpE x.1 y.1 < 0 := of_decide_eq_false h1
    have h2' : ¬ cmpE y.1 z.1 < 0 := of_decide_eq_false h2
    refine decide_eq_false fun (h3 : cmpE x.1 z.1 < 0) => ?_
    have a1 := cmp_flip x.1 y.1
    have b1 := cmp_three x.1 y.1
    by_cases q1 : cmpE x.1 y.1 = 0
    · rw [cmp_zero q1] at h3; exact h2' h3
    · have h4 : cmpE y.1 x.1 < 0 := by omega
      exact h2' (cmp_trans h4 h3)
theorem totE (x y : E6) (h1 : Go.Proofs.ltOf cfE x y = false) (h2 : Go.Proofs.ltOf cfE y x = false) : x = y := by
  have h1' : ¬ cmpE x.1 y.1 < 0 := of_decide_eq_false h1
  have h2' : ¬ cmpE y.1 x.1 < 0 := of_decide_eq_false h2
  have a1 := cmp_flip x.1 y.1
  exact Subtype.ext (cmp_zero (by omega))
theorem c6_get : ∀ {xs : List E6} (i : Nat) (x : E6), xs[i]? = some x → ∀ j u, (encE x)[j]? = some u → (c6 xs)[i * 6 + j]? = some u
  | [], i, x, h, _, _, _ => by simp at h
  | t :: l, i, x, h, j, u, hu => by
    have e1 := encE_len t
    show (encE t ++ c6 l)[i * 6 + j]? = some u
    match i with
    | 0 =>
      simp only [List.getElem?_cons_zero, Option.some.injEq] at h
      subst h
      rw [Nat.zero_mul, Nat.zero_add, List.getElem?_append_left (List.getElem?_eq_some_iff.1 hu).1]
      exact hu
    | i + 1 =>
      rw [List.getElem?_cons_succ] at h
      have e2 := c6_get (xs := l) i x h j u hu
      rw [List.getElem?_append_right (by omega), e1, show (i + 1) * 6 + j - 6 = i * 6 + j by omega]
      exact e2
/-- The slice v holds the exponents xs. -/
def Kx (w : World) (v : Value) (xs : List E6) : Prop := xs.length ≤ maxLen ∧ ∃ p cap, v = .slice p xs.length cap ∧
  ∀ i x, xs[i]? = some x → ∃ b, p = some ⟨b, 0, none⟩ ∧ b < w.heap.size ∧ ∀ j u, (encE x)[j]? = some u → w.cell? ⟨b, 0 + i * 6 + j, none⟩ = some u
theorem holds_own {w : World} {g cap : Nat} {cur : Array Value} {t : TypeId} {xs : List E6} (hb : w.heap[g]? = some (.cells cur t (0, 0))) (ht : cur.toList.take (xs.length * 6) = c6 xs) : HoldsK encE 6 w g 0 xs.toArray := by
  intro j hj
  rw [size_flatK] at hj
  have hj' : j < xs.length * 6 := by simpa using hj
  refine ⟨?_, by simp [World.frozen?, hb]⟩
  rw [get_flatK _ _ _ _ hj]
  have hi : j / 6 < xs.length := by omega
  have e0 : xs.toArray[j / 6]! = xs[j / 6] := by simp [hi]
  have hlen := encE_len xs[j / 6]
  have hm : j % 6 < (encE xs[j / 6]).length := by rw [hlen]; omega
  have e1 := c6_get (xs := xs) (j / 6) xs[j / 6] (List.getElem?_eq_getElem hi) (j % 6) _ (List.getElem?_eq_getElem hm)
  rw [show j / 6 * 6 + j % 6 = j by omega, ← ht, List.getElem?_take_of_lt hj'] at e1
  rw [e0, Nat.zero_add, getElem!_pos (encE xs[j / 6]) (j % 6) hm]
  simp only [World.cell?, hb, id]
  simpa using e1
theorem kx_holds {w : World} {g cap : Nat} {xs : List E6} (hx : xs.length ≤ maxLen) (hg : g < w.heap.size) (h : HoldsK encE 6 w g 0 xs.toArray) : Kx w (.slice (some ⟨g, 0, none⟩) xs.length cap) xs := by
  refine ⟨hx, _, _, rfl, fun i x hi => ⟨g, rfl, hg, fun j u hu => ?_⟩⟩
  obtain ⟨hlt, e0⟩ := List.getElem?_eq_some_iff.1 hi
  have hj : j < 6 := by have := (List.getElem?_eq_some_iff.1 hu).1; rwa [encE_len] at this
  have h1 := (h.cell (i := i) (c := j) (by simpa using hlt) hj).1
  have e1 : xs.toArray[i]! = x := by simp [hlt, e0]
  rw [e1, getElem!_pos (encE x) j (by rw [encE_len]; exact hj)] at h1
  rw [h1]
  obtain ⟨_, e2⟩ := List.getElem?_eq_some_iff.1 hu
  rw [e2]
theorem grownBy_sortE {w : World} {g n : Nat} {os : Array Obj} (d : Array E6) : w.grownBy (sortWorldK encE 6 w g 0 n d os) (some g) := by
  unfold sortWorldK putRowK
  refine ⟨rfl, rfl, rfl, by simp, fun k hk hne => ?_⟩
  rw [heap_grow_old _ _ (by simpa using hk)]
  have : g ≠ k := fun e => hne (by rw [e])
  simp [putRow, mapBlock, Sort.ahead, Array.getElem?_modify, this]
/-- The keys in order. -/
def sortE (xs : List E6) : List E6 := xs.mergeSort fun x y => !(Go.Proofs.ltOf cfE) y x
theorem sortE_perm (xs : List E6) : (sortE xs).Perm xs := List.mergeSort_perm _ _
theorem sortE_len (xs : List E6) : (sortE xs).length = xs.length := (sortE_perm xs).length_eq
theorem sortE_rise {xs : List E6} (hn : (xs.map Subtype.val).Nodup) : ((sortE xs).map Subtype.val).Pairwise fun x y => cmpE x y < 0 := by
  have h1 : (sortE xs).Pairwise fun x y => (!(Go.Proofs.ltOf cfE) y x) = true := by
    refine List.pairwise_mergeSort (fun x y z h1 h2 => ?_) (fun x y => ?_) xs
    · simp only [Bool.not_eq_true'] at *
      exact swoE.ntrans _ _ _ h2 h1
    · have a1 := cmp_flip x.1 y.1
      by_cases q : cmpE y.1 x.1 < 0
      · have e1 : Go.Proofs.ltOf cfE x y = false := decide_eq_false (show ¬ cmpE x.1 y.1 < 0 by omega)
        rw [e1, Bool.not_false, Bool.or_true]
      · have e1 : Go.Proofs.ltOf cfE y x = false := decide_eq_false q
        rw [e1]
        rfl
  have h2 : ((sortE xs).map Subtype.val).Nodup := ((sortE_perm xs).map _).nodup_iff.2 hn
  rw [List.pairwise_map]
  have h3 := List.pairwise_map.1 h2
  refine (List.Pairwise.and h1 h3).imp fun {x y} h => ?_
  obtain ⟨ha, hb⟩ := h
  have ha : ¬ cmpE y.1 x.1 < 0 := of_decide_eq_false (by rw [Bool.not_eq_true'] at ha; exact ha)
  have a1 := cmp_flip x.1 y.1
  have a2 := cmp_three x.1 y.1
  by_cases q : cmpE x.1 y.1 = 0
  · exact absurd (cmp_zero q) hb
  · omega
theorem cmpLaysE (blk off size : Nat) (w : World) : Go.Proofs.CmpLays Tryz.prog 92 #[] encE 6 cfE blk off size w := fun m os dk hd x y => compare_q x.1 y.1 _ x.2 y.2
set_option maxHeartbeats 2000000 in
theorem sortfunc_ok (g cap : Nat) (xs : List E6) (w : World) (hH : HoldsK encE 6 w g 0 xs.toArray) (hg : g < w.heap.size) (hl : xs.length ≤ 100000000) :
    Calls Tryz.prog 137 #[.slice (some ⟨g, 0, none⟩) xs.length cap, .func (.func 92) #[] #[]] w fun e w' => e = .returned (.tuple #[]) ∧ HoldsK encE 6 w' g 0 (sortE xs).toArray ∧ w.grownBy w' (some g) := by
  have eg : ∀ args w, (callFunc 92 args).run Tryz.prog w = .ok (.enter 92 args) w := enters_of Tryz.func92 (by kernel_rfl) rfl
  have hcon := Go.Proofs.AnyQ.slices_SortFunc_total Tryz.sortE 6 Tryz.isAgg61 Tryz.sizeOf61 encE encE_len encE_one cfE swoE 92 #[] g 0 cap xs.toArray w eg (cmpLaysE _ _ _ _) hH hg (by simp; omega) totE
  refine Calls.mono hcon ?_
  rintro e w' ⟨he, n, os, rfl⟩
  refine ⟨he, ?_, grownBy_sortE _⟩
  exact Go.Proofs.holdsK_sortWorldK_c encE 6 w g 0 xs.toArray (sortE xs).toArray n os hH hg (by simp [sortE_len])
theorem sortfunc_none (p : Option Addr) (cap : Nat) (fv : Value) (w : World) :
    Calls Tryz.prog 137 #[.slice p 0 cap, fv] w fun e w' => e = .returned (.tuple #[]) ∧ w' = w := Go.Proofs.AnyF.slices_SortFunc_none Tryz.sortE p cap fv w
set_option maxHeartbeats 2000000 in
/-- slices.SortedFunc(seq, compare). -/
theorem sorted_ok (g : Nat) (lb : Array Value) (eg : ∀ args w, (callFunc g args).run Tryz.prog w = .ok (.enter g args) w) (S : List E6 → Prop) (hSN : ∀ xs, S xs → xs.length ≤ 100000000) (N : Nat) (hN : N ≤ 100000000) (w : World)
    (hseq : SeqStopsK Fence.wide 3 Tryz.prog g lb (fun x : E6 => #[valE x.1]) KeepsWalks S (fun _ => True) N w) :
    Calls Tryz.prog 120 #[.func (.func g) #[] lb, .func (.func 92) #[] #[]] w fun e w' => ∃ v xs, e = .returned v ∧ S xs ∧ Kx w' v (sortE xs) ∧ Below w.heap.size w w' := by
  have HC := Lib.hid (callsIn_wide.1 (collect_in 5 (by omega) g lb eg S N hN w hseq))
  have HS := Lib.hid hSN
  clear hseq eg hSN
  go_enter Tryz.func120, Tryz.ntmps120
  go_wp2_with (fail)
  refine HC.out.mono ?_
  rintro e W ⟨v, xs, rfl, hS, hrow, hb⟩
  have hlen := HS.out xs hS
  have HSX := Lib.hid hS
  rcases hrow.2 with ⟨rfl, hz⟩ | ⟨gb, cap, cur, rfl, hbase, hgb, r1, r2, r3, r4⟩
  · have hxs : xs = [] := List.eq_nil_of_length_eq_zero hz
    subst hxs
    clear hS
    go_wp2_with (fail)
    refine (sortfunc_none none 0 _ W).mono ?_
    rintro e w' ⟨rfl, rfl⟩
    go_wp2_with (fail)
    go_ret
    exact ⟨_, [], rfl, HSX.out, ⟨by rw [sortE_len]; exact Nat.zero_le _, none, 0, by simp [sortE], fun i x h => by simp [sortE] at h⟩, hb⟩
  · have hgl : gb < W.heap.size := (Array.getElem?_eq_some_iff.1 hgb).1
    have HF := Lib.hid (sortfunc_ok gb cap xs W (holds_own (cap := cap) hgb r4) hgl hlen)
    have hb' : Hid (∀ w', W.grownBy w' (some gb) → Below w.heap.size w w') := Lib.hid fun w' h => hb.grown h hb.size (fun j hj => by cases hj; exact hbase)
    have HG := Lib.hid hgl
    have HL := Lib.hid hlen
    clear hS hrow hgb r1 r2 r3 r4 hlen hgl hb
    go_wp2_with (fail)
    refine HF.out.mono ?_
    rintro e w' ⟨rfl, hH, hgr⟩
    have hk := kx_holds (cap := cap) (xs := sortE xs) (by rw [sortE_len]; unfold maxLen; have := HL.out; omega) (Nat.lt_of_lt_of_le HG.out hgr.size) hH
    rw [sortE_len] at hk
    have HK := Lib.hid hk
    have HB := Lib.hid (hb'.out _ hgr)
    clear hk hH hgr
    go_wp2_with (fail)
    go_ret
    exact ⟨_, xs, rfl, HSX.out, HK.out, HB.out⟩
end Go.Proofs.YthakeeinhgfbbaaGreat

namespace Go.Proofs.YthakeeinhgfbbaaGreat
open Go.ChangeShapes Go.WideShapes Go.ChangeAt Go.RowKit Go.Shelf
set_option linter.unusedVariables false
set_option linter.unusedSimpArgs false
set_option maxRecDepth 100000

def pairsT (l m : List Tm) : List (Tm × Tm) := l.flatMap fun s => m.map fun t => (s, t)
def prT (p : Tm × Tm) : Tm := (dn (p.1.1 * p.2.1) 65536, addE p.1.2 p.2.2)
def rndP (p : Tm × Tm) : Int × Int := if dn (p.1.1 * p.2.1) 65536 = up (p.1.1 * p.2.1) 65536 then (0, 0) else rndE (addE p.1.2 p.2.2)
def missM (Q : List (Tm × Tm)) : Int × Int := Q.foldl (fun a p => (a.1 + (rndP p).1, a.2 + (rndP p).2)) (0, 0)
def mulP (l m : List Tm) : List Tm := (collT ((pairsT l m).map prT)).filter fun t => t.1 != 0
theorem missM_snoc (Q : List (Tm × Tm)) (p : Tm × Tm) : missM (Q ++ [p]) = ((missM Q).1 + (rndP p).1, (missM Q).2 + (rndP p).2) := by simp [missM, List.foldl_append]
theorem pairs_snoc {l m : List Tm} {k : Nat} {s : Tm} (h : l[k]? = some s) : pairsT (l.take (k + 1)) m = pairsT (l.take k) m ++ m.map fun t => (s, t) := by
  unfold pairsT
  rw [List.take_add_one, h, List.flatMap_append]
  simp
theorem pairs_len (l m : List Tm) : (pairsT l m).length = l.length * m.length := by
  induction l with
  | nil => simp [pairsT]
  | cons s l ih =>
    show ((m.map fun t => (s, t)) ++ pairsT l m).length = _
    rw [List.length_append, ih, List.length_map, List.length_cons, Nat.add_mul, Nat.one_mul, Nat.add_comm]
theorem row_snoc {m : List Tm} {j : Nat} {s t : Tm} (h : m[j]? = some t) : (m.take (j + 1)).map (fun t => (s, t)) = (m.take j).map (fun t => (s, t)) ++ [(s, t)] := by
  rw [List.take_add_one, h, List.map_append]
  rfl
theorem rnd_bd (e : List Int) : -1 ≤ (rndE e).1 ∧ (rndE e).1 ≤ 0 ∧ (rndE e).2 = 1 := by
  unfold rndE
  split <;> decide
theorem rndP_bd (p : Tm × Tm) : -1 ≤ (rndP p).1 ∧ (rndP p).1 ≤ 0 ∧ 0 ≤ (rndP p).2 ∧ (rndP p).2 ≤ 1 := by
  unfold rndP
  split
  · decide
  · have := rnd_bd (addE p.1.2 p.2.2)
    omega
theorem miss_bd (Q : List (Tm × Tm)) : -(Q.length : Int) ≤ (missM Q).1 ∧ (missM Q).1 ≤ 0 ∧ 0 ≤ (missM Q).2 ∧ (missM Q).2 ≤ Q.length := by
  have : ∀ (Q : List (Tm × Tm)) (a : Int × Int), a.1 - (Q.length : Int) ≤ (Q.foldl (fun a p => (a.1 + (rndP p).1, a.2 + (rndP p).2)) a).1 ∧ (Q.foldl (fun a p => (a.1 + (rndP p).1, a.2 + (rndP p).2)) a).1 ≤ a.1 ∧ a.2 ≤ (Q.foldl (fun a p => (a.1 + (rndP p).1, a.2 + (rndP p).2)) a).2 ∧ (Q.foldl (fun a p => (a.1 + (rndP p).1, a.2 + (rndP p).2)) a).2 ≤ a.2 + Q.length := by
    intro Q
    induction Q with
    | nil => intro a; simp
    | cons p Q ih =>
      intro a
      have h1 := ih (a.1 + (rndP p).1, a.2 + (rndP p).2)
      have h2 := rndP_bd p
      simp only [List.foldl_cons, List.length_cons] at *
      push_cast
      omega
  have h := this Q (0, 0)
  unfold missM
  dsimp only at h
  omega
theorem sumK_bd {S : List Tm} {B : Int} (hB : 0 ≤ B) (h : ∀ t ∈ S, -B ≤ t.1 ∧ t.1 ≤ B) (e : List Int) : -(B * S.length) ≤ sumK S e ∧ sumK S e ≤ B * S.length := by
  induction S with
  | nil => simp [sumK]
  | cons q r ih =>
    have h1 := h q (by simp)
    have h2 := ih fun t ht => h t (by simp [ht])
    rw [sumK_cons, List.length_cons]
    push_cast
    rw [Int.mul_add, Int.mul_one]
    split <;> omega
theorem pr_bd {p : Tm × Tm} (h1 : Num p.1.1) (h2 : Num p.2.1) : -140737488355328 ≤ (prT p).1 ∧ (prT p).1 ≤ 140737488355328 := by
  unfold Num at h1 h2
  unfold prT
  have hb : -4611686018427387904 ≤ p.1.1 * p.2.1 ∧ p.1.1 * p.2.1 ≤ 4611686018427387904 := by
    constructor
    · rcases Int.le_total 0 p.2.1 with h | h
      · have := Int.mul_le_mul_of_nonneg_right (show -2147483648 ≤ p.1.1 by omega) h
        omega
      · have := Int.mul_le_mul_of_nonpos_right (show p.1.1 ≤ 2147483648 by omega) h
        omega
    · rcases Int.le_total 0 p.2.1 with h | h
      · have := Int.mul_le_mul_of_nonneg_right (show p.1.1 ≤ 2147483648 by omega) h
        omega
      · have := Int.mul_le_mul_of_nonpos_right (show -2147483648 ≤ p.1.1 by omega) h
        omega
  have hd := dn_mul (p.1.1 * p.2.1) (d := 65536) (by decide)
  dsimp only
  omega
/-- The loops' state: the map's block, what is missing, the result's block. -/
structure MuI (w : World) (Q : List (Tm × Tm)) (mi : Int × Int) (W : World) : Prop where
  map : ∃ D, W.ownsMap Tryz.prog 61 (plainElem Tryz.prog 2) (w.heap.size + 1) Q.length D ∧ MapIs D (Q.map prT)
  mis : IvC W (w.heap.size + 2) mi
  res : IvC W w.heap.size (0, 0)
  bel : Below w.heap.size w W
  siz : w.heap.size + 3 ≤ W.heap.size
theorem MuI.grow {w W W' : World} {Q : List (Tm × Tm)} {mi : Int × Int} (h : MuI w Q mi W) (hB : Below W.heap.size W W') : MuI w Q mi W' := by
  obtain ⟨D, h1, h2⟩ := h.map
  exact ⟨⟨D, h1.kept (grown_belowT hB) (by simp), h2⟩, h.mis.grow hB, h.res.grow hB, h.bel.trans (hB.mono h.bel.size), Nat.le_trans h.siz hB.size⟩
theorem grownBy_set (W : World) (a : Addr) (v : Value) : W.grownBy (W.setCell a v) (some a.block) := ⟨rfl, rfl, rfl, (KeepsWalks.setCell W _ v).size, fun k _ hk => Below.heap_setCell _ _ _ k (fun e => hk (by rw [e]))⟩
theorem MuI.set {w W : World} {Q : List (Tm × Tm)} {mi : Int × Int} (h : MuI w Q mi W) (x y : Int) : MuI w Q (x, y) ((W.setCell ⟨w.heap.size + 2, 0, none⟩ (.int .i64 x)).setCell ⟨w.heap.size + 2, 1, none⟩ (.int .i64 y)) := by
  obtain ⟨D, h1, h2⟩ := h.map
  have hs := h.siz
  refine ⟨⟨D, (h1.kept (grownBy_set W ⟨w.heap.size + 2, 0, none⟩ _) (by simp)).kept (grownBy_set _ ⟨w.heap.size + 2, 1, none⟩ _) (by simp), h2⟩, h.mis.set _ _, h.res.other (by omega) _ _, ?_, by simpa using hs⟩
  exact (h.bel.setCell (p := ⟨w.heap.size + 2, 0, none⟩) (by simp) _).setCell (p := ⟨w.heap.size + 2, 1, none⟩) (by simp) _
theorem MuI.drew {w W : World} {Q : List (Tm × Tm)} {mi : Int × Int} (h : MuI w Q mi W) : MuI w Q mi W.drew := h.grow ((Below.refl _ _).drew)
theorem heap_grown {W W' : World} {b c : Nat} {o : Obj} (hg : W.grownBy W' (some b)) (hne : c ≠ b) (h : W.heap[c]? = some o) : W'.heap[c]? = some o :=
  (hg.block c (Array.getElem?_eq_some_iff.1 h).1 (fun e => hne (Option.some.inj e))).trans h
theorem MuI.put {w W W' : World} {Q : List (Tm × Tm)} {mi : Int × Int} {p : Tm × Tm} {D' : DataW Unit} (h : MuI w Q mi W) (hg : W.grownBy W' (some (w.heap.size + 1))) (ho : W'.ownsMap Tryz.prog 61 (plainElem Tryz.prog 2) (w.heap.size + 1) (Q.length + 1) D') (hM : MapIs D' (Q.map prT ++ [prT p])) : MuI w (Q ++ [p]) mi W' :=
  ⟨⟨D', by rw [List.length_append]; exact ho, by rw [List.map_append]; exact hM⟩, heap_grown hg (by omega) h.mis, heap_grown hg (by omega) h.res, h.bel.grown hg h.bel.size (fun j hj => by cases hj; omega), Nat.le_trans h.siz hg.size⟩
/-- One more pair: the entry, the look-ups, the store. -/
theorem MuI.step {w W : World} {Q : List (Tm × Tm)} {mi : Int × Int} (h : MuI w Q mi W) (p : Tm × Tm) {e : List Int} {d : Int} (he : EV e) (hp : prT p = (d, e)) (hQ : Q.length ≤ 10000) (hb : ∀ q ∈ Q, -140737488355328 ≤ (prT q).1 ∧ (prT q).1 ≤ 140737488355328) (hd : -140737488355328 ≤ d ∧ d ≤ 140737488355328) :
    ∃ (c : Int) (st : Nat) (w2 w3 : World), (Instr.lookup 114 (.map (some (w.heap.size + 1))) (valE e) false).run Tryz.prog W = .ok (.int .i64 c) W ∧ (-4611686018427387904 ≤ c ∧ c ≤ 4611686018427387904) ∧
      (Instr.mapEntry 114 (.map (some (w.heap.size + 1))) (valE e)).run Tryz.prog W = .ok (.tuple #[.int .i64 c, .int .i64 st]) w2 ∧
      (Instr.lookup 114 (.map (some (w.heap.size + 1))) (valE e) false).run Tryz.prog w2 = .ok (.int .i64 c) w2 ∧
      (Instr.entryStore 114 (.map (some (w.heap.size + 1))) (.int .i64 st) (.int .i64 (c + d))).run Tryz.prog w2 = .ok () w3 ∧ W.grownBy w2 (some (w.heap.size + 1)) ∧ W.grownBy w3 (some (w.heap.size + 1)) ∧ MuI w (Q ++ [p]) mi w3 := by
  obtain ⟨D, h1, h2⟩ := h.map
  obtain ⟨c, st, w2, e1, e2, _, e3, e4, e5, e6⟩ := entry_own h1 arr6.law Tryz.underlying114 Tryz.underlying2 (fun u => by kernel_rfl) (by unfold maxLen; omega) (key6 he)
  have hc : c = sumK (Q.map prT) e := by
    rw [h2.at0 e he] at e2
    simpa using e2.symm
  have hbd := sumK_bd (S := Q.map prT) (B := 140737488355328) (by decide) (fun t ht => by obtain ⟨q, hq, rfl⟩ := List.mem_map.1 ht; exact hb q hq) e
  rw [← hc, List.length_map] at hbd
  have hcb : -4611686018427387904 + 140737488355328 ≤ c ∧ c ≤ 4611686018427387904 - 140737488355328 := by omega
  have hwf : (Lit.int .i64 (c + d)).wf = true := WalkArith.wf_i64 (by omega)
  obtain ⟨w3, e7, e8, e9⟩ := e6 (c + d) hwf
  refine ⟨c, st, w2, w3, e1, by omega, e3, e4, e7, e5, e9, h.put e9 e8 ?_⟩
  rw [hp, hc]
  exact h2.step he d
end Go.Proofs.YthakeeinhgfbbaaGreat

namespace Go.Proofs.YthakeeinhgfbbaaGreat
open Go.ChangeShapes Go.WideShapes Go.ChangeAt Go.RowKit Go.Shelf
set_option linter.unusedVariables false
set_option linter.unusedSimpArgs false
set_option maxRecDepth 100000

attribute [local irreducible] Calls
theorem heapT_cell {W : World} {b k : Nat} {cs : Array Value} {t : TypeId} {z : Nat × Nat} {u : Value} (h : W.heap[b]? = some (.cells cs t z)) (hk : cs[k]? = some u) : W.cell? ⟨b, k, none⟩ = some u := by
  simp [World.cell?, h, hk]
/-- The inner loop's state. -/
def MuJ (w : World) (l m : List Tm) (k jj : Nat) (s : Tm) (B : Nat) (W : World) : Prop :=
  MuI w (pairsT (l.take k) m ++ (m.take jj).map fun t => (s, t)) (missM (pairsT (l.take k) m ++ (m.take jj).map fun t => (s, t))) W ∧ W.heap[B]? = some (.cells (encT s).toArray 63 (0, 0))
/-- The product's terms among the first keys. -/
def prodK (S : List Tm) (ks : List E6) : List Tm := (ks.map fun e => (sumK S e.1, e.1)).filter fun t => t.1 != 0
theorem prodK_in {S : List Tm} {ks : List E6} {k : Nat} {x : E6} (hx : ks[k]? = some x) (h : sumK S x.1 ≠ 0) : prodK S (ks.take (k + 1)) = prodK S (ks.take k) ++ [(sumK S x.1, x.1)] := by
  unfold prodK
  rw [List.take_add_one, hx, List.map_append, List.filter_append]
  simp [h]
theorem prodK_out {S : List Tm} {ks : List E6} {k : Nat} {x : E6} (hx : ks[k]? = some x) (h : sumK S x.1 = 0) : prodK S (ks.take (k + 1)) = prodK S (ks.take k) := by
  unfold prodK
  rw [List.take_add_one, hx, List.map_append, List.filter_append]
  simp [h]
theorem prodK_len (S : List Tm) (ks : List E6) : (prodK S ks).length ≤ ks.length := Nat.le_trans (List.length_filter_le _ _) (by simp)
theorem prodK_ev (S : List Tm) (ks : List E6) : ∀ t ∈ prodK S ks, t.2.length = 6 := fun t ht => by
  obtain ⟨x, _, rfl⟩ := List.mem_map.1 (List.mem_filter.1 ht).1
  exact x.2.1
theorem pairs_mem {l m : List Tm} {p : Tm × Tm} (h : p ∈ pairsT l m) : p.1 ∈ l ∧ p.2 ∈ m := by
  unfold pairsT at h
  obtain ⟨s, hs, h⟩ := List.mem_flatMap.1 h
  obtain ⟨t, ht, rfl⟩ := List.mem_map.1 h
  exact ⟨hs, ht⟩
theorem q_mem {l m : List Tm} {k jj : Nat} {s : Tm} (hs : l[k]? = some s) {p : Tm × Tm} (h : p ∈ pairsT (l.take k) m ++ (m.take jj).map fun t => (s, t)) : p.1 ∈ l ∧ p.2 ∈ m := by
  rcases List.mem_append.1 h with h | h
  · have := pairs_mem h
    exact ⟨List.mem_of_mem_take this.1, this.2⟩
  · obtain ⟨t, ht, rfl⟩ := List.mem_map.1 h
    exact ⟨List.mem_of_getElem? hs, List.mem_of_mem_take ht⟩
theorem q_len {l m : List Tm} {k jj : Nat} {s : Tm} (hk : k < l.length) (hj : jj ≤ m.length) : (pairsT (l.take k) m ++ (m.take jj).map fun t => (s, t)).length ≤ l.length * m.length := by
  rw [List.length_append, pairs_len, List.length_map, List.length_take, List.length_take]
  have h1 : min k l.length = k := by omega
  have h2 : min jj m.length = jj := by omega
  rw [h1, h2]
  have := Nat.mul_le_mul_right m.length (show k + 1 ≤ l.length from hk)
  rw [Nat.add_mul, Nat.one_mul] at this
  omega
theorem kx_rd {w : World} {p : Option Addr} {n c i : Nat} {xs : List E6} {a0 a1 a2 a3 a4 a5 : Int} {x : E6} (h : Kx w (.slice p n c) xs) (hx : xs[i]? = some x) (he : x.1 = [a0, a1, a2, a3, a4, a5]) : ∃ b, p = some ⟨b, 0, none⟩ ∧ b < w.heap.size ∧ ∀ g : Grown w, g.w.cell? ⟨b, i * 6, none⟩ = some (.int .u8 a0) ∧ g.w.cell? ⟨b, i * 6 + 1, none⟩ = some (.int .u8 a1) ∧ g.w.cell? ⟨b, i * 6 + 2, none⟩ = some (.int .u8 a2) ∧ g.w.cell? ⟨b, i * 6 + 3, none⟩ = some (.int .u8 a3) ∧ g.w.cell? ⟨b, i * 6 + 4, none⟩ = some (.int .u8 a4) ∧ g.w.cell? ⟨b, i * 6 + 5, none⟩ = some (.int .u8 a5) := by
  obtain ⟨_, q, c', e, h⟩ := h
  obtain ⟨b, hq, h1, h2⟩ := h i x hx
  simp only [Value.slice.injEq] at e
  have h3 : ∀ j u, ([.int .u8 a0, .int .u8 a1, .int .u8 a2, .int .u8 a3, .int .u8 a4, .int .u8 a5] : List Value)[j]? = some u → w.cell? ⟨b, i * 6 + j, none⟩ = some u := fun j u hu => by have := h2 j u (by unfold encE; rw [he]; exact hu); rwa [Nat.zero_add] at this
  exact ⟨b, e.1.trans hq, h1, fun g => ⟨(g.cell h1).trans (h3 0 _ rfl), (g.cell h1).trans (h3 1 _ rfl), (g.cell h1).trans (h3 2 _ rfl), (g.cell h1).trans (h3 3 _ rfl), (g.cell h1).trans (h3 4 _ rfl), (g.cell h1).trans (h3 5 _ rfl)⟩⟩
set_option maxHeartbeats 16000000 in
theorem multiplied_ok (v u : Value) (l m : List Tm) (w : World) (hv : Tx w v l) (hu : Tx w u m) (hl : ∀ t ∈ l, TV t ∧ Num t.1) (hm : ∀ t ∈ m, TV t ∧ Num t.1) (hsm : l.length * m.length ≤ 10000) :
    Calls Tryz.prog 102 #[v, u] w fun e w' => ∃ r, e = .returned (.tuple #[r, .agg #[.int .i64 (missM (pairsT l m)).1, .int .i64 (missM (pairsT l m)).2]]) ∧ Tx w' r (mulP l m) ∧ NewB w.heap.size r ∧ Below w.heap.size w w' := by
  obtain ⟨MR, hMR⟩ : ∃ R, mulP l m = R := ⟨_, rfl⟩
  obtain ⟨⟨n1, n2⟩, hNN⟩ : ∃ R, missM (pairsT l m) = R := ⟨_, rfl⟩
  rw [hMR, hNN]
  dsimp only
  have HMR := Lib.hid hMR
  have HNN := Lib.hid hNN
  clear hMR hNN
  obtain ⟨i0, hi, hz0, hz1, hz2⟩ := info_parts info_t
  obtain ⟨p, cp, rfl⟩ := hv.cut
  obtain ⟨p', cp', rfl⟩ := hu.cut
  have hll := hv.1
  have hml := hu.1
  unfold maxLen at hll hml
  have HV := Lib.hid hv
  have HU := Lib.hid hu
  have HL := Lib.hid hl
  have HM := Lib.hid hm
  have HSM := Lib.hid hsm
  clear hv hu hl hm hsm
  have hmm := @run_makeMap Tryz.prog
  have h0 : Hid (MuI w [] (0, 0) (((w.alloc (.cells #[.int .i64 0, .int .i64 0] 24)).alloc (.map #[] 0)).alloc (.cells #[.int .i64 0, .int .i64 0] 24))) := by
    have hb := ((((Below.refl w.heap.size w).alloc (Nat.le_refl _) (.cells #[.int .i64 0, .int .i64 0] 24)).alloc (by simp) (.map #[] 0)).alloc (by simp; omega) (.cells #[.int .i64 0, .int .i64 0] 24))
    refine Lib.hid ⟨⟨.map [], ?_, MapIs.start⟩, ?_, ?_, hb, by simp⟩
    · have := World.ownsMap_made (H := Unit) (w.alloc (.cells #[.int .i64 0, .int .i64 0] 24)) Tryz.prog 61 (plainElem Tryz.prog 2)
      rw [World.size_alloc] at this
      exact this.alloc _
    · have := World.alloc_heap_new ((w.alloc (.cells #[.int .i64 0, .int .i64 0] 24)).alloc (.map #[] 0)) (.cells #[.int .i64 0, .int .i64 0] 24)
      simp only [World.size_alloc] at this
      exact this
    · exact (Below.heap_alloc _ _ _ (by simp; omega)).trans ((Below.heap_alloc _ _ _ (by simp)).trans (World.alloc_heap_new w _))
  go_enter Tryz.func102, Tryz.ntmps102
  go_wp2_with (fail)
  go_loopw [22] (fun i wr => ∃ k : Nat, i = .int .i64 k ∧ k ≤ l.length ∧ Hid (MuI w (pairsT (l.take k) m) (missM (pairsT (l.take k) m)) wr)) (fun i _ => l.length - (intOf i).toNat)
  case atStart => exact ⟨0, rfl, Nat.zero_le _, h0⟩
  case round =>
    clear hmm h0
    obtain ⟨wo, rfl⟩ : ∃ wo, wo = wr := ⟨_, rfl⟩
    obtain ⟨k, rfl, hk, HR⟩ := hrel
    by_cases hlt : k < l.length
    · have i1 : (k : Int) < l.length := by omega
      obtain ⟨s, hx⟩ : ∃ s, l[k]? = some s := ⟨_, List.getElem?_eq_getElem hlt⟩
      have hsv := HL.out s (List.mem_of_getElem? hx)
      obtain ⟨ka, a0, a1, a2, a3, a4, a5, rfl⟩ := six_at hsv.1
      obtain ⟨b, o, hp, hb, rd⟩ := HV.out.rd7 hx
      subst hp
      obtain ⟨f0, f1, f2, f3, f4, f5, f6⟩ := rd ⟨wo, HR.out.bel⟩
      dsimp only at f0 f1 f2 f3 f4 f5 f6
      have HX := Lib.hid hx
      have HSV := Lib.hid hsv
      clear rd hx hsv
      go_wp2_with (fail)
      have hJ0 : Hid (MuJ w l m k 0 (ka, [a0, a1, a2, a3, a4, a5]) wo.heap.size (wo.alloc (.cells #[.int .i64 ka, .int .u8 a0, .int .u8 a1, .int .u8 a2, .int .u8 a3, .int .u8 a4, .int .u8 a5] 63))) := Lib.hid ⟨by simpa using HR.out.grow ((Below.refl _ _).alloc (Nat.le_refl _) _), World.alloc_heap_new wo _⟩
      clear f0 f1 f2 f3 f4 f5 f6
      go_loopw [28] (fun j w2 => ∃ jj : Nat, j = .int .i64 jj ∧ jj ≤ m.length ∧ Hid (MuJ w l m k jj (ka, [a0, a1, a2, a3, a4, a5]) wo.heap.size w2)) (fun j _ => m.length - (intOf j).toNat)
      case atStart => exact ⟨0, rfl, Nat.zero_le _, hJ0⟩
      case round =>
        clear hJ0
        obtain ⟨jj, rfl, hj, HJ⟩ := hrel
        by_cases hjl : jj < m.length
        · have i2 : (jj : Int) < m.length := by omega
          obtain ⟨t, hy⟩ : ∃ t, m[jj]? = some t := ⟨_, List.getElem?_eq_getElem hjl⟩
          have htv := HM.out t (List.mem_of_getElem? hy)
          obtain ⟨kb, b0, b1, b2, b3, b4, b5, rfl⟩ := six_at htv.1
          obtain ⟨b', o', hp', hb', rd⟩ := HU.out.rd7 hy
          subst hp'
          obtain ⟨f0, f1, f2, f3, f4, f5, f6⟩ := rd ⟨wr, HJ.out.1.bel⟩
          dsimp only at f0 f1 f2 f3 f4 f5 f6
          have HY := Lib.hid hy
          have hsB : wr.heap[wo.heap.size]? = some (.cells #[.int .i64 ka, .int .u8 a0, .int .u8 a1, .int .u8 a2, .int .u8 a3, .int .u8 a4, .int .u8 a5] 63 (0, 0)) := HJ.out.2
          have x0 := heapT_cell hsB (k := 0) rfl
          have x1 := heapT_cell hsB (k := 1) rfl
          have x2 := heapT_cell hsB (k := 2) rfl
          have x3 := heapT_cell hsB (k := 3) rfl
          have x4 := heapT_cell hsB (k := 4) rfl
          have x5 := heapT_cell hsB (k := 5) rfl
          have x6 := heapT_cell hsB (k := 6) rfl
          have hBs : wo.heap.size < wr.heap.size := (Array.getElem?_eq_some_iff.1 hsB).1
          have hJn := Lib.hid (fun W => join_ok [a0, a1, a2, a3, a4, a5] [b0, b1, b2, b3, b4, b5] W HSV.out.1.1 htv.1.1)
          rw [show valE [a0, a1, a2, a3, a4, a5] = .agg #[.int .u8 a0, .int .u8 a1, .int .u8 a2, .int .u8 a3, .int .u8 a4, .int .u8 a5] from rfl, show valE [b0, b1, b2, b3, b4, b5] = .agg #[.int .u8 b0, .int .u8 b1, .int .u8 b2, .int .u8 b3, .int .u8 b4, .int .u8 b5] from rfl] at hJn
          obtain ⟨c0, c1, c2, c3, c4, c5, hce⟩ := six_of (add_ev HSV.out.1.1 htv.1.1)
          rw [hce, show valE [c0, c1, c2, c3, c4, c5] = .agg #[.int .u8 c0, .int .u8 c1, .int .u8 c2, .int .u8 c3, .int .u8 c4, .int .u8 c5] from rfl] at hJn
          have HCV : Hid (EV [c0, c1, c2, c3, c4, c5]) := Lib.hid (by rw [← hce]; exact add_ev HSV.out.1.1 htv.1.1)
          have hMu := Lib.hid (fun W => mul_any ka kb W (by have := HSV.out.2; unfold Num at this; omega) (by have := HSV.out.2; unfold Num at this; omega) (by have := htv.2; unfold Num at this; omega) (by have := htv.2; unfold Num at this; omega))
          have hpb := pr_bd (p := ((ka, [a0, a1, a2, a3, a4, a5]), (kb, [b0, b1, b2, b3, b4, b5]))) HSV.out.2 htv.2
          have hpr : prT ((ka, [a0, a1, a2, a3, a4, a5]), (kb, [b0, b1, b2, b3, b4, b5])) = (dn (ka * kb) 65536, [c0, c1, c2, c3, c4, c5]) := by unfold prT; dsimp only; rw [hce]
          have hrp : rndP ((ka, [a0, a1, a2, a3, a4, a5]), (kb, [b0, b1, b2, b3, b4, b5])) = if dn (ka * kb) 65536 = up (ka * kb) 65536 then (0, 0) else rndE [c0, c1, c2, c3, c4, c5] := by unfold rndP; dsimp only; rw [hce]
          have hms := missM_snoc (pairsT (l.take k) m ++ (m.take jj).map fun t => ((ka, [a0, a1, a2, a3, a4, a5]), t)) ((ka, [a0, a1, a2, a3, a4, a5]), (kb, [b0, b1, b2, b3, b4, b5]))
          have hmb := miss_bd (pairsT (l.take k) m ++ (m.take jj).map fun t => ((ka, [a0, a1, a2, a3, a4, a5]), t))
          have hql : (pairsT (l.take k) m ++ (m.take jj).map fun t => ((ka, [a0, a1, a2, a3, a4, a5]), t)).length ≤ 10000 := Nat.le_trans (q_len hlt hj) HSM.out
          have HQL := Lib.hid hql
          have HQB : Hid (∀ q ∈ pairsT (l.take k) m ++ (m.take jj).map fun t => ((ka, [a0, a1, a2, a3, a4, a5]), t), -140737488355328 ≤ (prT q).1 ∧ (prT q).1 ≤ 140737488355328) := Lib.hid fun q hq => pr_bd (HL.out q.1 (q_mem HX.out hq).1).2 (HM.out q.2 (q_mem HX.out hq).2).2
          have HJM := Lib.hid HJ.out.1
          have HJS := Lib.hid HJ.out.2
          rw [hpr] at hpb
          rw [hrp] at hms
          clear hrp
          generalize dn (ka * kb) 65536 = D at *
          generalize up (ka * kb) 65536 = U at *
          have HDB : Hid (-140737488355328 ≤ D ∧ D ≤ 140737488355328) := Lib.hid hpb
          have HPR := Lib.hid hpr
          clear hpr hpb hce hsB htv rd hy HJ
          go_wp2_with (fail)
          refine (hJn.out _).mono ?_
          rintro e1 w3 ⟨rfl, hB3⟩
          have hb2t : Below wr.heap.size wr (wr.alloc (.cells #[.int .i64 kb, .int .u8 b0, .int .u8 b1, .int .u8 b2, .int .u8 b3, .int .u8 b4, .int .u8 b5] 63)) := (Below.refl _ _).alloc (Nat.le_refl _) _
          have hB3' := below_then hb2t hB3
          have hs3 : w3.heap[wo.heap.size]? = some (.cells #[.int .i64 ka, .int .u8 a0, .int .u8 a1, .int .u8 a2, .int .u8 a3, .int .u8 a4, .int .u8 a5] 63 (0, 0)) := (hB3'.block _ hBs).trans HJS.out
          have ht3 : w3.heap[wr.heap.size]? = some (.cells #[.int .i64 kb, .int .u8 b0, .int .u8 b1, .int .u8 b2, .int .u8 b3, .int .u8 b4, .int .u8 b5] 63 (0, 0)) := (hB3.block _ (by simp)).trans (World.alloc_heap_new wr _)
          have y0 := heapT_cell hs3 (k := 0) rfl
          have y1 := heapT_cell ht3 (k := 0) rfl
          have hlt1 : wo.heap.size < w3.heap.size := (Array.getElem?_eq_some_iff.1 hs3).1
          have hlt2 : wr.heap.size < w3.heap.size := (Array.getElem?_eq_some_iff.1 ht3).1
          have HS3 := Lib.hid hs3
          have HB3 := Lib.hid hB3'
          clear hs3 ht3 hB3 hB3' hb2t x0 x1 x2 x3 x4 x5 x6 f0 f1 f2 f3 f4 f5 f6
          go_wp2_with (fail)
          refine (hMu.out _).mono ?_
          rintro e2 w4 ⟨rfl, hB4⟩
          have hb3e : Below w3.heap.size w3 (w3.alloc (.cells #[.int .u8 c0, .int .u8 c1, .int .u8 c2, .int .u8 c3, .int .u8 c4, .int .u8 c5] 61)) := (Below.refl _ _).alloc (Nat.le_refl _) _
          have hB4' := below_then hb3e hB4
          have he4 : ByB w4 w3.heap.size [c0, c1, c2, c3, c4, c5] := (hB4.block _ (by simp)).trans (World.alloc_heap_new w3 _)
          have hs4 : w4.heap[wo.heap.size]? = some (.cells #[.int .i64 ka, .int .u8 a0, .int .u8 a1, .int .u8 a2, .int .u8 a3, .int .u8 a4, .int .u8 a5] 63 (0, 0)) := (hB4'.block _ hlt1).trans HS3.out
          have HM4 := Lib.hid (HJM.out.grow (HB3.out.trans (hB4'.mono HB3.out.size)))
          have HE4 := Lib.hid he4
          have HS4 := Lib.hid hs4
          have HCE : Hid (EV [c0, c1, c2, c3, c4, c5] ∧ prT ((ka, [a0, a1, a2, a3, a4, a5]), (kb, [b0, b1, b2, b3, b4, b5])) = (D, [c0, c1, c2, c3, c4, c5])) := Lib.hid ⟨HCV.out, HPR.out⟩
          clear hB4 hB4' hb3e hs4 y0 y1
          by_cases hx : D = U
          · rw [if_pos hx] at hms
            have hmis : missM ((pairsT (l.take k) m ++ (m.take jj).map fun t => ((ka, [a0, a1, a2, a3, a4, a5]), t)) ++ [((ka, [a0, a1, a2, a3, a4, a5]), (kb, [b0, b1, b2, b3, b4, b5]))]) = missM (pairsT (l.take k) m ++ (m.take jj).map fun t => ((ka, [a0, a1, a2, a3, a4, a5]), t)) := by rw [hms]; simp
            have HMIS := Lib.hid hmis
            subst hx
            clear hmis hms hmb he4 hMu hJn
            go_wp2_with (fail)
            have hs13 := HM4.out
            obtain ⟨c, st, w6, w7, l1, hcb, l2, l3, l4, g6, g7, hN⟩ := hs13.drew.step (p := ((ka, [a0, a1, a2, a3, a4, a5]), (kb, [b0, b1, b2, b3, b4, b5]))) (e := [c0, c1, c2, c3, c4, c5]) (d := D) HCE.out.1 HCE.out.2 HQL.out HQB.out HDB.out
            rw [show valE [c0, c1, c2, c3, c4, c5] = .agg #[.int .u8 c0, .int .u8 c1, .int .u8 c2, .int .u8 c3, .int .u8 c4, .int .u8 c5] from rfl] at l1 l2 l3
            have Wc : IntKind.i64.wrap (c + D) = c + D := wrap_i64 _ (by have := HDB.out; omega) (by have := HDB.out; omega)
            have e0 := (HE4.out).cell (k := 0) rfl
            have e1 := (HE4.out).cell (k := 1) rfl
            have e2 := (HE4.out).cell (k := 2) rfl
            have e3 := (HE4.out).cell (k := 3) rfl
            have e4 := (HE4.out).cell (k := 4) rfl
            have e5 := (HE4.out).cell (k := 5) rfl
            have hS7 : w7.heap[wo.heap.size]? = some (.cells #[.int .i64 ka, .int .u8 a0, .int .u8 a1, .int .u8 a2, .int .u8 a3, .int .u8 a4, .int .u8 a5] 63 (0, 0)) := heap_grown g7 (by have := HR.out.siz; omega) (HS4.out)
            have HN : Hid (MuI w _ _ w7) := Lib.hid hN
            have HS7 := Lib.hid hS7
            clear hs13 hN hS7 g6 g7 hcb
            go_region
            all_goals
              go_wp2_with (fail)
              go_roundw
              case rel => exact ⟨jj + 1, by go_num, by omega, Lib.hid ⟨by rw [row_snoc HY.out, ← List.append_assoc, HMIS.out]; exact HN.out, HS7.out⟩⟩
              case measure => simp [intOf]; omega
          · rw [if_neg hx] at hms
            have hne : (D != U) = true := by simpa using hx
            have hrb := rnd_bd [c0, c1, c2, c3, c4, c5]
            have hrk := Lib.hid (fun W => rnd_ok [c0, c1, c2, c3, c4, c5] W HCV.out)
            rw [show valE [c0, c1, c2, c3, c4, c5] = .agg #[.int .u8 c0, .int .u8 c1, .int .u8 c2, .int .u8 c3, .int .u8 c4, .int .u8 c5] from rfl] at hrk
            generalize rndE [c0, c1, c2, c3, c4, c5] = R at *
            obtain ⟨r, q⟩ := R
            obtain ⟨⟨p1, p2⟩, hpp⟩ : ∃ R, missM (pairsT (l.take k) m ++ (m.take jj).map fun t => ((ka, [a0, a1, a2, a3, a4, a5]), t)) = R := ⟨_, rfl⟩
            rw [hpp] at hms hmb HM4
            dsimp only at hms hmb hrb hrk
            have hql := HQL.out
            have HPL := Lib.hid (fun w => plus_ok p1 p2 r q w (by omega) (by omega) (by omega) (by omega))
            have HMIS := Lib.hid hms
            have m0 := fun g : Grown w4 => (HM4.out.mis.grow g.h).c0
            have m1 := fun g : Grown w4 => (HM4.out.mis.grow g.h).c1
            have g0 := fun g : Grown w4 => (HE4.out.grow g.h).cell (k := 0) rfl
            have g1 := fun g : Grown w4 => (HE4.out.grow g.h).cell (k := 1) rfl
            have g2 := fun g : Grown w4 => (HE4.out.grow g.h).cell (k := 2) rfl
            have g3 := fun g : Grown w4 => (HE4.out.grow g.h).cell (k := 3) rfl
            have g4 := fun g : Grown w4 => (HE4.out.grow g.h).cell (k := 4) rfl
            have g5 := fun g : Grown w4 => (HE4.out.grow g.h).cell (k := 5) rfl
            clear hms hmb he4 hMu hJn hrb hql hpp hx
            go_wp2_with (fail)
            refine region_pred_l (lk [(48, fun u _ => u = .agg #[.int .i64 p1, .int .i64 p2]), (49, fun u _ => u = .agg #[.int .u8 c0, .int .u8 c1, .int .u8 c2, .int .u8 c3, .int .u8 c4, .int .u8 c5]), (50, fun u _ => u = .agg #[.int .i64 r, .int .i64 q]), (51, fun u _ => u = .agg #[.int .i64 (p1 + r), .int .i64 (p2 + q)])]) 4 _ rfl (by kernel_rfl) (by kernel_rfl) (by kernel_rfl) (lk_steady _ ⟨steady_eq _, steady_eq _, steady_eq _, steady_eq _, trivial⟩) ?_ ?_
            · refine ⟨?_, ?_, ?_, ?_, ?_, trivial⟩
              · intro _
                refine ob_plain [7] rfl rfl fun aa g h => ?_
                have x0 := seen_out (v := .pointer (some ⟨w.heap.size + 2, 0, none⟩)) rfl rfl h.1
                have e0 := getD_of x0
                exact tupon_value (v := .agg #[.int .i64 p1, .int .i64 p2]) (by simp [go_sem, e0, x0, m0 g, m1 g]) (Below.refl _ _) rfl
              · intro _
                refine ob_plain [12] rfl rfl fun aa g h => ?_
                have x0 := seen_out (v := .pointer (some ⟨w3.heap.size, 0, none⟩)) rfl rfl h.1
                have e0 := getD_of x0
                exact tupon_value (v := .agg #[.int .u8 c0, .int .u8 c1, .int .u8 c2, .int .u8 c3, .int .u8 c4, .int .u8 c5]) (by simp [go_sem, e0, x0, g0 g, g1 g, g2 g, g3 g, g4 g, g5 g]) (Below.refl _ _) rfl
              · intro _
                refine ob_plain [49] rfl rfl fun aa g h => ?_
                obtain ⟨_, x0, rfl⟩ := seen_in rfl h.1
                have e0 := getD_of x0
                refine tupon_enter (f := 119) (args := #[.agg #[.int .u8 c0, .int .u8 c1, .int .u8 c2, .int .u8 c3, .int .u8 c4, .int .u8 c5]]) (by simp [go_sem, e0, x0]) rfl ?_
                exact (hrk.out g.w).mono fun e w' ⟨he, hB⟩ => ⟨_, he, hB, rfl⟩
              · intro _
                refine ob_plain [48, 50] rfl rfl fun aa g h => ?_
                obtain ⟨_, x0, rfl⟩ := seen_in rfl h.1
                have e0 := getD_of x0
                obtain ⟨_, x1, rfl⟩ := seen_in rfl h.2.1
                have e1 := getD_of x1
                refine tupon_enter (f := 106) (args := #[.agg #[.int .i64 p1, .int .i64 p2], .agg #[.int .i64 r, .int .i64 q]]) (by simp [go_sem, e0, x0, e1, x1]) rfl ?_
                exact (HPL.out g.w).mono fun e w' ⟨he, hB⟩ => ⟨_, he, hB, rfl⟩
              · exact fun h => absurd rfl h
            rintro w5 hB5 _ rfl _ rfl _ rfl _ rfl
            simp only [Act.put, List.setIfInBounds_toArray, List.set_cons_succ, List.set_cons_zero]
            have hM5 := HM4.out.grow hB5
            have hsz5 := HM4.out.siz
            have hwl := (Array.getElem?_eq_some_iff.1 HS4.out).1
            have c0' := hM5.mis.c0
            have c1' := hM5.mis.c1
            have z0 := hM5.mis.frozen 0
            have z1 := hM5.mis.frozen 1
            refine ⟨_, by simp [go_sem, c0', c1', z0, z1]; rfl, ?_⟩
            have hrz := HR.out.siz
            have HM6 := Lib.hid (hM5.set (p1 + r) (p2 + q))
            have HE6 : Hid (ByB ((w5.setCell ⟨w.heap.size + 2, 0, none⟩ (.int .i64 (p1 + r))).setCell ⟨w.heap.size + 2, 1, none⟩ (.int .i64 (p2 + q))) w3.heap.size [c0, c1, c2, c3, c4, c5]) := Lib.hid (((HE4.out.grow hB5).other (by omega)).other (by omega))
            have HS6 : Hid (((w5.setCell ⟨w.heap.size + 2, 0, none⟩ (.int .i64 (p1 + r))).setCell ⟨w.heap.size + 2, 1, none⟩ (.int .i64 (p2 + q))).heap[wo.heap.size]? = some (.cells #[.int .i64 ka, .int .u8 a0, .int .u8 a1, .int .u8 a2, .int .u8 a3, .int .u8 a4, .int .u8 a5] 63 (0, 0))) := Lib.hid ((heapT_set (a := ⟨w.heap.size + 2, 1, none⟩) (by dsimp only; omega)).trans ((heapT_set (a := ⟨w.heap.size + 2, 0, none⟩) (by dsimp only; omega)).trans ((hB5.block _ hwl).trans HS4.out)))
            clear c0' c1' z0 z1 m0 m1 g0 g1 g2 g3 g4 g5 hM5 hB5 hwl hsz5 hrz
            generalize (w5.setCell ⟨w.heap.size + 2, 0, none⟩ (.int .i64 (p1 + r))).setCell ⟨w.heap.size + 2, 1, none⟩ (.int .i64 (p2 + q)) = W13 at *
            go_wp2_with (fail)
            have hs13 := HM6.out
            obtain ⟨c, st, w6, w7, l1, hcb, l2, l3, l4, g6, g7, hN⟩ := hs13.drew.step (p := ((ka, [a0, a1, a2, a3, a4, a5]), (kb, [b0, b1, b2, b3, b4, b5]))) (e := [c0, c1, c2, c3, c4, c5]) (d := D) HCE.out.1 HCE.out.2 HQL.out HQB.out HDB.out
            rw [show valE [c0, c1, c2, c3, c4, c5] = .agg #[.int .u8 c0, .int .u8 c1, .int .u8 c2, .int .u8 c3, .int .u8 c4, .int .u8 c5] from rfl] at l1 l2 l3
            have Wc : IntKind.i64.wrap (c + D) = c + D := wrap_i64 _ (by have := HDB.out; omega) (by have := HDB.out; omega)
            have e0 := (HE6.out).cell (k := 0) rfl
            have e1 := (HE6.out).cell (k := 1) rfl
            have e2 := (HE6.out).cell (k := 2) rfl
            have e3 := (HE6.out).cell (k := 3) rfl
            have e4 := (HE6.out).cell (k := 4) rfl
            have e5 := (HE6.out).cell (k := 5) rfl
            have hS7 : w7.heap[wo.heap.size]? = some (.cells #[.int .i64 ka, .int .u8 a0, .int .u8 a1, .int .u8 a2, .int .u8 a3, .int .u8 a4, .int .u8 a5] 63 (0, 0)) := heap_grown g7 (by have := HR.out.siz; omega) (HS6.out)
            have HN : Hid (MuI w _ _ w7) := Lib.hid hN
            have HS7 := Lib.hid hS7
            clear hs13 hN hS7 g6 g7 hcb
            go_region
            all_goals
              go_wp2_with (fail)
              go_roundw
              case rel => exact ⟨jj + 1, by go_num, by omega, Lib.hid ⟨by rw [row_snoc HY.out, ← List.append_assoc, HMIS.out]; exact HN.out, HS7.out⟩⟩
              case measure => simp [intOf]; omega
        · obtain rfl : jj = m.length := by omega
          have hJl := HJ.out.1
          rw [List.take_of_length_le (Nat.le_refl _), ← pairs_snoc HX.out] at hJl
          have HJL := Lib.hid hJl
          clear hJl
          go_wp2_with (fail)
          go_roundw
          case rel => exact ⟨k + 1, by go_num, by omega, HJL⟩
          case measure => simp [intOf]; omega
    · obtain rfl : k = l.length := by omega
      have hRR := HR.out
      rw [List.take_of_length_le (Nat.le_refl _)] at hRR
      have HE := Lib.hid hRR
      have hql := pairs_len l m
      have hQS : Hid (∀ t ∈ (pairsT l m).map prT, EV t.2) := Lib.hid fun t ht => by
        obtain ⟨q, hq, rfl⟩ := List.mem_map.1 ht
        have := pairs_mem hq
        exact add_ev (HL.out _ this.1).1.1 (HM.out _ this.2).1.1
      obtain ⟨Q, hQ⟩ : ∃ Q, pairsT l m = Q := ⟨_, rfl⟩
      have hmu : mulP l m = (collT (Q.map prT)).filter fun t => t.1 != 0 := by unfold mulP; rw [hQ]
      rw [HMR.out] at hmu
      rw [hQ] at HE hQS hql
      have HQN : Hid (Q.length ≤ 10000) := Lib.hid (by rw [hql]; exact HSM.out)
      have hwo := HE.out.siz
      have hn := HNN.out
      rw [hQ] at hn
      rw [hn] at HE
      have HMU := Lib.hid hmu
      obtain ⟨D, hD1, hD2⟩ := HE.out.map
      have HD2 := Lib.hid hD2
      have HK1 := Lib.hid (callsIn_wide.1 (keys_in 3 (some (w.heap.size + 1)) wo))
      have hbk : Below wo.heap.size wo (wo.alloc (.cells #[.map (some (w.heap.size + 1))] 114)) := (Below.refl _ _).alloc (Nat.le_refl _) _
      have hcell : (wo.alloc (.cells #[.map (some (w.heap.size + 1))] 114)).cell? ⟨wo.heap.size, 0, none⟩ = some (.map (some (w.heap.size + 1))) := by simp [go_sem]
      have hzD := size_own hD1
      have HZD := Lib.hid hzD
      have HSO := Lib.hid (sorted_ok 138 #[.pointer (some ⟨wo.heap.size, 0, none⟩)] (enters_of Tryz.func138 (by kernel_rfl) rfl) (KeysD D) (fun xs h => by have := h.2; have := HQN.out; omega) (Maps.size D) (by have := HQN.out; omega) (wo.alloc (.cells #[.map (some (w.heap.size + 1))] 114)) (keys_stops 3 (by omega) wo.heap.size (w.heap.size + 1) Q.length D _ (by simp) hcell (hD1.alloc _)))
      clear hRR hql hmu hQ hn hD1 hD2 hcell hzD HR HL HM HV HU HSM
      go_wp2_with (fail)
      refine (HK1.out).mono ?_
      rintro e1 w2 ⟨rfl, rfl⟩
      go_wp2_with (fail)
      refine HSO.out.mono ?_
      rintro e2 w3 ⟨vk, xs, rfl, hKD, hKx, hB3⟩
      have hB3' := below_then hbk hB3
      have HE3 := Lib.hid (HE.out.grow hB3')
      have hkl : (sortE xs).length ≤ 10000 := by rw [sortE_len]; have := hKD.2; have := HZD.out; have := HQN.out; omega
      obtain ⟨ks, hks⟩ : ∃ ks, sortE xs = ks := ⟨_, rfl⟩
      have hall := keysD_all hKD HD2.out
      have hcol := keys_coll hQS.out (ks := ks.map Subtype.val) ⟨by rw [← hks]; exact ((sortE_perm xs).map _).nodup_iff.2 hall.1, fun e he => by obtain ⟨x, _, rfl⟩ := List.mem_map.1 he; exact x.2, fun e he => by rw [← hall.2.2 e he, ← hks]; exact ((sortE_perm xs).map _).mem_iff⟩ (by rw [← hks]; exact sortE_rise hKD.1.1)
      have hpk : prodK (Q.map prT) ks = (collT (Q.map prT)).filter fun t => t.1 != 0 := by
        unfold prodK
        rw [← hcol, List.map_map]
        rfl
      have hmr : MR = prodK (Q.map prT) ks := by rw [HMU.out, hpk]
      have HMRK := Lib.hid hmr
      rw [hks] at hKx hkl
      have HKX := Lib.hid hKx
      obtain ⟨_, pk, ck, rfl, _⟩ := hKx
      have HBE := Lib.hid (HE.out.bel.trans (hB3'.mono HE.out.bel.size))
      clear hmr hks hall hcol hpk hKD hB3 hB3' hbk HSO HK1 HE
      have hsz3 := HE3.out.siz
      go_wp2_with (fail)
      go_loopw [15, 65] (fun u i w4 => ∃ kk : Nat, i = .int .i64 kk ∧ kk ≤ ks.length ∧ Hid (w4.ownsRow w3.heap.size 63 7 u (prodK (Q.map prT) (ks.take kk)).length (ct (prodK (Q.map prT) (ks.take kk))) ∧ Below w3.heap.size w3 w4)) (fun _ i _ => ks.length - (intOf i).toNat)
      case atStart => exact ⟨0, rfl, Nat.zero_le _, Lib.hid ⟨by simpa [prodK, ct] using World.ownsRow_nil w3 _ _ _, Below.refl _ _⟩⟩
      case round =>
        obtain ⟨kk, rfl, hkk, HP⟩ := hrel
        by_cases hkl2 : kk < ks.length
        · have i3 : (kk : Int) < ks.length := by omega
          obtain ⟨x, hx⟩ : ∃ x, ks[kk]? = some x := ⟨_, List.getElem?_eq_getElem hkl2⟩
          obtain ⟨c0, c1, c2, c3, c4, c5, hxe⟩ := six_of x.2
          obtain ⟨b, hp, hb, rd⟩ := kx_rd HKX.out hx hxe
          subst hp
          obtain ⟨f1, f2, f3, f4, f5, f6⟩ := rd ⟨wr, HP.out.2⟩
          dsimp only at f1 f2 f3 f4 f5 f6
          obtain ⟨D', hD1, hD2⟩ := (HE3.out.grow HP.out.2).map
          have hEV : EV [c0, c1, c2, c3, c4, c5] := by rw [← hxe]; exact x.2
          obtain ⟨c, hlk, hat, hcw⟩ := (hD1.alloc (.cells #[.int .u8 c0, .int .u8 c1, .int .u8 c2, .int .u8 c3, .int .u8 c4, .int .u8 c5] 61)).lookup_int law6 Tryz.underlying114 Tryz.underlying2 (by kernel_rfl) (key6 hEV)
          rw [show valE [c0, c1, c2, c3, c4, c5] = .agg #[.int .u8 c0, .int .u8 c1, .int .u8 c2, .int .u8 c3, .int .u8 c4, .int .u8 c5] from rfl] at hlk
          have hcs : c = sumK (Q.map prT) x.1 := by
            rw [hD2.at0 _ hEV, ← hxe] at hat
            simpa using hat.symm
          have HX := Lib.hid hx
          have HCS := Lib.hid hcs
          have HXE := Lib.hid hxe
          have hpl := Nat.le_trans (prodK_len (Q.map prT) (ks.take kk)) (by rw [List.length_take]; exact Nat.min_le_left _ _)
          clear rd hx hxe hcs hat hD1 hD2 hcw hEV
          by_cases hc0 : c = 0
          · have h1 := prodK_out (S := Q.map prT) HX.out (by rw [← HCS.out]; exact hc0)
            have HN : Hid ((wr.alloc (.cells #[.int .u8 c0, .int .u8 c1, .int .u8 c2, .int .u8 c3, .int .u8 c4, .int .u8 c5] 61)).ownsRow w3.heap.size 63 7 u15 (prodK (Q.map prT) (ks.take (kk + 1))).length (ct (prodK (Q.map prT) (ks.take (kk + 1)))) ∧ Below w3.heap.size w3 (wr.alloc (.cells #[.int .u8 c0, .int .u8 c1, .int .u8 c2, .int .u8 c3, .int .u8 c4, .int .u8 c5] 61))) := Lib.hid (by rw [h1]; exact ⟨HP.out.1.alloc _, HP.out.2.alloc HP.out.2.size _⟩)
            subst hc0
            clear h1
            go_wp2_with (fail)
            go_roundw
            case rel => exact ⟨kk + 1, by go_num, by omega, HN⟩
            case measure => simp [intOf]; omega
          · have h1 := prodK_in (S := Q.map prT) HX.out (by rw [← HCS.out]; exact hc0)
            rw [← HCS.out, HXE.out] at h1
            have H1 := Lib.hid h1
            have hne : (c != 0) = true := by simpa using hc0
            have hrow := HP.out.1.alloc (.cells #[.int .u8 c0, .int .u8 c1, .int .u8 c2, .int .u8 c3, .int .u8 c4, .int .u8 c5] 61)
            have hbel := HP.out.2.size
            clear h1
            go_wp2_with (at_builtin; refine wpList_append_own _ rfl (.tmp 74) (.tmp 78) 22 rfl w3.heap.size 63 i0 (.agg #[.int .i64 0, .int .u8 0, .int .u8 0, .int .u8 0, .int .u8 0, .int .u8 0, .int .u8 0]) 7 16 Tryz.underlying22 hi hz0 hz1 hz2 rfl (by decide) _ (prodK (Q.map prT) (ks.take kk)).length _ rfl (hrow.alloc _) ⟨wr.heap.size + 1, 0, none⟩ 1 1 [.int .i64 c, .int .u8 c0, .int .u8 c1, .int .u8 c2, .int .u8 c3, .int .u8 c4, .int .u8 c5] rfl rfl ?_ (one_t _ _ _ _ _ _ _) (by unfold maxLen; omega) (by omega) (by simp only [World.size_alloc]; omega) ?_)
            · have := new_t (wr.alloc (.cells #[.int .u8 c0, .int .u8 c1, .int .u8 c2, .int .u8 c3, .int .u8 c4, .int .u8 c5] 61)) c c0 c1 c2 c3 c4 c5
              simpa using this
            intro v' w6 hown' hgrow _
            have hB6 : Below w3.heap.size wr w6 := Below.grown (((Below.refl _ _).alloc hbel _).alloc (by simp only [World.size_alloc]; omega) _) hgrow (by simp only [World.size_alloc]; omega) (fun k hk => (hrow.lt k hk).1)
            have HN : Hid (w6.ownsRow w3.heap.size 63 7 v' (prodK (Q.map prT) (ks.take (kk + 1))).length (ct (prodK (Q.map prT) (ks.take (kk + 1)))) ∧ Below w3.heap.size w3 w6) := Lib.hid (by rw [H1.out, List.length_append, ct_snoc]; exact ⟨hown', HP.out.2.trans hB6⟩)
            clear hown' hgrow hB6 hrow
            go_wp2_with (fail)
            go_roundw
            case rel => exact ⟨kk + 1, by go_num, by omega, HN⟩
            case measure => simp [intOf]; omega
        · obtain rfl : kk = ks.length := by omega
          have hP := HP.out
          rw [List.take_of_length_le (Nat.le_refl _), ← HMRK.out] at hP
          have hM4 := HE3.out.grow hP.2
          have h6 : ∀ t ∈ MR, t.2.length = 6 := by rw [HMRK.out]; exact prodK_ev _ _
          have hml : MR.length ≤ ks.length := by rw [HMRK.out]; exact prodK_len _ _
          have htx := Tx.own hP.1 (by unfold maxLen; omega) h6
          have hcap := capok_own hP.1
          have hnb : NewB w.heap.size u15 := ⟨hcap, fun b hb => by have := (hP.1.lt b hb).1; omega⟩
          have HBW := Lib.hid (HBE.out.trans (hP.2.mono HBE.out.size))
          have HNB := Lib.hid hnb
          have m0 := hM4.mis.c0
          have m1 := hM4.mis.c1
          have r0 := hM4.res.c0
          have r1 := hM4.res.c1
          have z0 := hM4.res.frozen 0
          have z1 := hM4.res.frozen 1
          have hres := hM4.res
          dsimp only at m0 m1 r0 r1
          have HT2 := Lib.hid (htx.off (B := w3.heap.size) (c := w.heap.size) ⟨hcap, fun b hb => (hP.1.lt b hb).1⟩ (by omega) hM4.res.lt (.int .i64 n1) (.int .i64 n2))
          obtain ⟨pu, cu, hu⟩ := htx.cut
          subst hu
          clear hP hM4 htx hcap hnb h6 HP
          go_wp2_with (fail)
          go_region
          go_wp2_with (fail)
          have hb1 : w.heap.size < wr.heap.size := hres.lt
          refine bodyPost_ret (v := .tuple #[.slice pu MR.length cu, .agg #[.int .i64 n1, .int .i64 n2]]) (by simp [results, Tryz.results102, go_sem, r0, r1]) rfl ⟨_, rfl, HT2.out.grow ((Below.refl _ _).drew), HNB.out, ?_⟩
          exact ((HBW.out.setCell (p := ⟨w.heap.size, 0, none⟩) (Nat.le_refl _) _).setCell (p := ⟨w.heap.size, 1, none⟩) (Nat.le_refl _) _).drew
end Go.Proofs.YthakeeinhgfbbaaGreat

namespace Go.Proofs.YthakeeinhgfbbaaGreat
open Go.ChangeShapes Go.WideShapes Go.ChangeAt Go.RowKit
set_option linter.unusedVariables false
set_option linter.unusedSimpArgs false
set_option maxRecDepth 100000

attribute [local irreducible] Calls
attribute [local go_sem ↓] run_min_two
def mulR (l m : List Tm) (deg : Int) : List Tm × (Int × Int) := truncP (mulP l m) (min deg 6) (missM (pairsT l m))
theorem ins_len (x : Tm) : ∀ l : List Tm, (insT x l).length ≤ l.length + 1
  | [] => by simp [insT]
  | q :: r => by
    unfold insT
    have := ins_len x r
    split
    · simp only [List.length_cons]; omega
    · split <;> simp
theorem coll_len (S : List Tm) : (collT S).length ≤ S.length := by
  have : ∀ (S l : List Tm), (S.foldl (fun l x => insT x l) l).length ≤ l.length + S.length := by
    intro S
    induction S with
    | nil => intro l; simp
    | cons x S ih =>
      intro l
      have h1 := ih (insT x l)
      have h2 := ins_len x l
      simp only [List.foldl_cons, List.length_cons] at *
      omega
  have h := this S []
  simpa [collT] using h
theorem mulP_len (l m : List Tm) : (mulP l m).length ≤ l.length * m.length := by
  unfold mulP
  refine Nat.le_trans (List.length_filter_le _ _) (Nat.le_trans (coll_len _) ?_)
  rw [List.length_map, pairs_len]
  exact Nat.le_refl _
theorem mulP_tv {l m : List Tm} (hl : ∀ t ∈ l, TV t ∧ Num t.1) (hm : ∀ t ∈ m, TV t ∧ Num t.1) (hsm : l.length * m.length ≤ 10000) : ∀ t ∈ mulP l m, TV t := by
  intro t ht
  have hc := (List.mem_filter.1 ht).1
  have hk := (coll_key ((pairsT l m).map prT) t.2).1 (List.mem_map.2 ⟨t, hc, rfl⟩)
  obtain ⟨s, hs, e1⟩ := List.mem_map.1 hk
  obtain ⟨q, hq, rfl⟩ := List.mem_map.1 hs
  have hp := pairs_mem hq
  have h1 := rise_sum (coll_rise ((pairsT l m).map prT)) t hc
  rw [coll_sum] at h1
  have h2 := sumK_bd (S := (pairsT l m).map prT) (B := 140737488355328) (by decide) (fun z hz => by
    obtain ⟨y, hy, rfl⟩ := List.mem_map.1 hz
    have := pairs_mem hy
    exact pr_bd (hl _ this.1).2 (hm _ this.2).2) t.2
  rw [h1, List.length_map, pairs_len] at h2
  have h3 : ((l.length * m.length : Nat) : Int) ≤ 10000 := by omega
  exact ⟨by rw [← e1]; exact add_ev (hl _ hp.1).1.1 (hm _ hp.2).1.1, by omega, by omega⟩
set_option maxHeartbeats 4000000 in
theorem mul_ok (v u : Value) (l m : List Tm) (deg : Int) (w : World) (hv : Tx w v l) (hu : Tx w u m) (hl : ∀ t ∈ l, TV t ∧ Num t.1) (hm : ∀ t ∈ m, TV t ∧ Num t.1) (hsm : l.length * m.length ≤ 10000) :
    Calls Tryz.prog 64 #[v, u, .int .i64 deg] w fun e w' => ∃ r, e = .returned (.tuple #[r, .agg #[.int .i64 (mulR l m deg).2.1, .int .i64 (mulR l m deg).2.2]]) ∧ Tx w' r (mulR l m deg).1 ∧ NewB w.heap.size r ∧ Below w.heap.size w w' := by
  have htv := mulP_tv hl hm hsm
  have hlen := Nat.le_trans (mulP_len l m) hsm
  have hmb := miss_bd (pairsT l m)
  rw [pairs_len] at hmb
  have hln : ((l.length * m.length : Nat) : Int) ≤ 10000 := by omega
  have hba : Below w.heap.size w (w.alloc (.cells #[.int .i64 0, .int .i64 0] 24)) := (Below.refl _ _).alloc (Nat.le_refl _) _
  have hI : IvC (w.alloc (.cells #[.int .i64 0, .int .i64 0] 24)) w.heap.size (0, 0) := World.alloc_heap_new w _
  have HG := Lib.hid (multiplied_ok v u l m _ (hv.grow hba) (hu.grow hba) hl hm hsm)
  obtain ⟨R, hR⟩ : ∃ R, mulR l m deg = R := ⟨_, rfl⟩
  rw [hR]
  unfold mulR at hR
  obtain ⟨M, hM⟩ : ∃ M, mulP l m = M := ⟨_, rfl⟩
  obtain ⟨⟨x, y⟩, hxy⟩ : ∃ M, missM (pairsT l m) = M := ⟨_, rfl⟩
  rw [hM, hxy] at HG
  rw [hM, hxy] at hR
  rw [hM] at htv hlen
  rw [hxy] at hmb
  dsimp only at hmb HG
  have HC := Lib.hid (fun (r : Value) (w1 : World) (h : Tx w1 r M) => trunc_ok r M (min deg 6) x y w1 h htv (by unfold MB; dsimp only; omega) (by omega))
  rw [hR] at HC
  obtain ⟨K, n1, n2⟩ := R
  dsimp only at HC ⊢
  obtain ⟨p, c, rfl⟩ := hv.cut
  obtain ⟨p', c', rfl⟩ := hu.cut
  clear hv hu hl hm hsm hR hM hxy hmb hlen htv hln
  go_enter Tryz.func64, Tryz.ntmps64
  go_wp2_with (fail)
  refine HG.out.mono ?_
  rintro e w0 ⟨r0, rfl, htx0, _, hB0⟩
  have hI0 := hI.grow hB0
  have hB0' := below_then hba hB0
  have hz0 := hB0.size
  simp only [World.size_alloc] at hz0
  have hbb : Below w0.heap.size w0 (w0.alloc (.cells #[.int .i64 x, .int .i64 y] 24)) := (Below.refl _ _).alloc (Nat.le_refl _) _
  have HC1 := Lib.hid (HC.out r0 _ (htx0.grow hbb))
  have hI00 := hI0.grow hbb
  have hB00 := hB0'.trans (hbb.mono hB0'.size)
  clear htx0
  go_wp2_with (fail)
  refine HC1.out.mono ?_
  rintro e w1 ⟨r, rfl, htx, hnew, hB⟩
  have hI1 := hI00.grow hB
  have c0 := hI1.c0
  have c1 := hI1.c1
  have z0 := hI1.frozen 0
  have z1 := hI1.frozen 1
  simp only [World.size_alloc] at hnew
  have hof := Lib.hid (htx.off hnew (c := w.heap.size) (by omega) hI1.lt (.int .i64 n1) (.int .i64 n2))
  have hB1 := hB00.trans (hB.mono hB00.size)
  have HN := Lib.hid hnew
  clear htx hnew
  go_wp2_with (fail)
  refine bodyPost_ret (v := .tuple #[r, .agg #[.int .i64 n1, .int .i64 n2]]) (by simp [results, Tryz.results64, go_sem, c0, c1]) rfl ⟨r, rfl, hof.out, ⟨HN.out.1, fun b h => Nat.le_trans (by omega) (HN.out.2 b h)⟩, ?_⟩
  exact (hB1.setCell (p := ⟨w.heap.size, 0, none⟩) (Nat.le_refl _) _).setCell (p := ⟨w.heap.size, 1, none⟩) (Nat.le_refl _) _
theorem constT_tv {c : Int} (h : Num c) : ∀ t ∈ constT c, TV t ∧ Num t.1 := by
  intro t ht
  unfold constT at ht
  split at ht
  · simp at ht
  · simp at ht
    subst ht
    unfold Num at *
    exact ⟨⟨⟨rfl, fun x hx => by simp at hx; omega⟩, by dsimp only; omega, by dsimp only; omega⟩, h⟩
theorem constT_len (c : Int) : (constT c).length ≤ 1 := by unfold constT; split <;> simp
set_option maxHeartbeats 4000000 in
theorem scale_ok (v : Value) (l : List Tm) (k : Int) (w : World) (hv : Tx w v l) (hl : ∀ t ∈ l, TV t ∧ Num t.1) (hk : Num k) (hsm : l.length ≤ 10000) :
    Calls Tryz.prog 81 #[v, .int .i64 k] w fun e w' => ∃ r, e = .returned (.tuple #[r, .agg #[.int .i64 (mulR l (constT k) 6).2.1, .int .i64 (mulR l (constT k) 6).2.2]]) ∧ Tx w' r (mulR l (constT k) 6).1 ∧ NewB w.heap.size r ∧ Below w.heap.size w w' := by
  have hba : Below w.heap.size w (w.alloc (.cells #[.int .i64 0, .int .i64 0] 24)) := (Below.refl _ _).alloc (Nat.le_refl _) _
  have hI : IvC (w.alloc (.cells #[.int .i64 0, .int .i64 0] 24)) w.heap.size (0, 0) := World.alloc_heap_new w _
  have hlen : l.length * (constT k).length ≤ 10000 := Nat.le_trans (Nat.mul_le_mul_left _ (constT_len k)) (by omega)
  have HC := Lib.hid (fun (r : Value) (w1 : World) (h0 : Tx w1 v l) (h : Tx w1 r (constT k)) => mul_ok v r l (constT k) 6 w1 h0 h hl (constT_tv hk) hlen)
  have HK := Lib.hid (fun w => const_ok k w)
  obtain ⟨R, hR⟩ : ∃ R, mulR l (constT k) 6 = R := ⟨_, rfl⟩
  rw [hR] at HC ⊢
  obtain ⟨K, n1, n2⟩ := R
  dsimp only at HC ⊢
  have HV := Lib.hid (hv.grow hba)
  obtain ⟨p, c, rfl⟩ := hv.cut
  clear hv hl hk hsm hR hlen
  go_enter Tryz.func81, Tryz.ntmps81
  go_wp2_with (fail)
  refine (HK.out _).mono ?_
  rintro e w0 ⟨r0, rfl, htx0, hB0⟩
  have hI0 := hI.grow hB0
  have HC1 := Lib.hid (HC.out r0 w0 (HV.out.grow hB0) htx0)
  have hB0' := below_then hba hB0
  have hz0 := hB0.size
  simp only [World.size_alloc] at hz0
  clear htx0
  go_wp2_with (fail)
  refine HC1.out.mono ?_
  rintro e w1 ⟨r, rfl, htx, hnew, hB⟩
  have hI1 := hI0.grow hB
  have c0 := hI1.c0
  have c1 := hI1.c1
  have z0 := hI1.frozen 0
  have z1 := hI1.frozen 1
  have hof := Lib.hid (htx.off hnew (c := w.heap.size) (by omega) hI1.lt (.int .i64 n1) (.int .i64 n2))
  have hB1 := hB0'.trans (hB.mono hB0'.size)
  have HN := Lib.hid hnew
  clear htx hnew
  go_wp2_with (fail)
  refine bodyPost_ret (v := .tuple #[r, .agg #[.int .i64 n1, .int .i64 n2]]) (by simp [results, Tryz.results81, go_sem, c0, c1]) rfl ⟨r, rfl, hof.out, ⟨HN.out.1, fun b h => Nat.le_trans (by omega) (HN.out.2 b h)⟩, ?_⟩
  exact (hB1.setCell (p := ⟨w.heap.size, 0, none⟩) (Nat.le_refl _) _).setCell (p := ⟨w.heap.size, 1, none⟩) (Nat.le_refl _) _
end Go.Proofs.YthakeeinhgfbbaaGreat
