/-
  slices.SortedFunc over an iterator that gives six bytes, by poly.compare.
-/
import Derived.Test.YtcamjoddaeefdaaAq
import Derived.Test.YtcamjoddaeefdaaCo
import Derived.Test.YtcamjoddaeefdaaSl
namespace Go.Proofs.Ytcamjoddaeefdaa
open Go.ChangeShapes Go.WideShapes Go.ChangeAt Go.RowKit Go.Shelf Go.Sort
set_option linter.unusedVariables false
set_option linter.unusedSimpArgs false
set_option maxRecDepth 100000
attribute [local go_sem] Oper.semAt_some

def encE (x : E6) : List Value := x.1.map (.int .u8 ·)
instance : Inhabited E6 := ⟨⟨[0, 0, 0, 0, 0, 0], rfl, fun x hx => by simp at hx; omega⟩⟩
theorem encE_len (x : E6) : (encE x).length = 6 := by unfold encE; rw [List.length_map]; exact x.2.1
theorem encE_one (x : E6) : ∀ v ∈ encE x, v.oneCell' = true := by
  intro v hv
  obtain ⟨z, _, rfl⟩ := List.mem_map.1 hv
  rfl
def cfE (x y : E6) : Int := cmpE x.1 y.1
theorem swoE : SWO (Go.Proofs.ltOf cfE) where
  irrefl x := decide_eq_false (by rw [cfE, cmp_self]; decide)
  trans x y z h1 h2 := decide_eq_true (cmp_trans (of_decide_eq_true h1) (of_decide_eq_true h2))
  ntrans x y z h1 h2 := by
    have h1' : ¬ cmpE x.1 y.1 < 0 := of_decide_eq_false h1
    have h2' : ¬ cmpE y.1 z.1 < 0 := of_decide_eq_false h2
    refine decide_eq_false fun (h3 : cmpE x.1 z.1 < 0) => ?_
    have a1 := cmp_flip x.1 y.1
    have b1 := cmp_three x.1 y.1
    by_cases q1 : cmpE x.1 y.1 = 0
    · rw [cmp_zero q1] at h3; exact h2' h3
    · have h4 : cmpE y.1 x.1 < 0 := by omega
      exact h2' (cmp_trans h4 h3)
theorem totE (x y : E6) (h1 : Go.Proofs.ltOf cfE x y = false) (h2 : Go.Proofs.ltOf cfE y x = false) : x = y := by
  have h1' : ¬ cmpE x.1 y.1 < 0 := of_decide_eq_false h1
  have h2' : ¬ cmpE y.1 x.1 < 0 := of_decide_eq_false h2
  have a1 := cmp_flip x.1 y.1
  exact Subtype.ext (cmp_zero (by omega))
theorem c6_get : ∀ {xs : List E6} (i : Nat) (x : E6), xs[i]? = some x → ∀ j u, (encE x)[j]? = some u → (c6 xs)[i * 6 + j]? = some u
  | [], i, x, h, _, _, _ => by simp at h
  | t :: l, i, x, h, j, u, hu => by
    have e1 := encE_len t
    show (encE t ++ c6 l)[i * 6 + j]? = some u
    match i with
    | 0 =>
      simp only [List.getElem?_cons_zero, Option.some.injEq] at h
      subst h
      rw [Nat.zero_mul, Nat.zero_add, List.getElem?_append_left (List.getElem?_eq_some_iff.1 hu).1]
      exact hu
    | i + 1 =>
      rw [List.getElem?_cons_succ] at h
      have e2 := c6_get (xs := l) i x h j u hu
      rw [List.getElem?_append_right (by omega), e1, show (i + 1) * 6 + j - 6 = i * 6 + j by omega]
      exact e2
/-- The slice v holds the exponents xs. -/
def Kx (w : World) (v : Value) (xs : List E6) : Prop := xs.length ≤ maxLen ∧ ∃ p cap, v = .slice p xs.length cap ∧
  ∀ i x, xs[i]? = some x → ∃ b, p = some ⟨b, 0, none⟩ ∧ b < w.heap.size ∧ ∀ j u, (encE x)[j]? = some u → w.cell? ⟨b, 0 + i * 6 + j, none⟩ = some u
theorem holds_own {w : World} {g cap : Nat} {cur : Array Value} {t : TypeId} {xs : List E6} (hb : w.heap[g]? = some (.cells cur t (0, 0))) (ht : cur.toList.take (xs.length * 6) = c6 xs) : HoldsK encE 6 w g 0 xs.toArray := by
  intro j hj
  rw [size_flatK] at hj
  have hj' : j < xs.length * 6 := by simpa using hj
  refine ⟨?_, by simp [World.frozen?, hb]⟩
  rw [get_flatK _ _ _ _ hj]
  have hi : j / 6 < xs.length := by omega
  have e0 : xs.toArray[j / 6]! = xs[j / 6] := by simp [hi]
  have hlen := encE_len xs[j / 6]
  have hm : j % 6 < (encE xs[j / 6]).length := by rw [hlen]; omega
  have e1 := c6_get (xs := xs) (j / 6) xs[j / 6] (List.getElem?_eq_getElem hi) (j % 6) _ (List.getElem?_eq_getElem hm)
  rw [show j / 6 * 6 + j % 6 = j by omega, ← ht, List.getElem?_take_of_lt hj'] at e1
  rw [e0, Nat.zero_add, getElem!_pos (encE xs[j / 6]) (j % 6) hm]
  simp only [World.cell?, hb, id]
  simpa using e1
theorem kx_holds {w : World} {g cap : Nat} {xs : List E6} (hx : xs.length ≤ maxLen) (hg : g < w.heap.size) (h : HoldsK encE 6 w g 0 xs.toArray) : Kx w (.slice (some ⟨g, 0, none⟩) xs.length cap) xs := by
  refine ⟨hx, _, _, rfl, fun i x hi => ⟨g, rfl, hg, fun j u hu => ?_⟩⟩
  obtain ⟨hlt, e0⟩ := List.getElem?_eq_some_iff.1 hi
  have hj : j < 6 := by have := (List.getElem?_eq_some_iff.1 hu).1; rwa [encE_len] at this
  have h1 := (h.cell (i := i) (c := j) (by simpa using hlt) hj).1
  have e1 : xs.toArray[i]! = x := by simp [hlt, e0]
  rw [e1, getElem!_pos (encE x) j (by rw [encE_len]; exact hj)] at h1
  rw [h1]
  obtain ⟨_, e2⟩ := List.getElem?_eq_some_iff.1 hu
  rw [e2]
theorem grownBy_sortE {w : World} {g n : Nat} {os : Array Obj} (d : Array E6) : w.grownBy (sortWorldK encE 6 w g 0 n d os) (some g) := by
  unfold sortWorldK putRowK
  refine ⟨rfl, rfl, rfl, by simp, fun k hk hne => ?_⟩
  rw [heap_grow_old _ _ (by simpa using hk)]
  have : g ≠ k := fun e => hne (by rw [e])
  simp [putRow, mapBlock, Sort.ahead, Array.getElem?_modify, this]
/-- The keys in order. -/
def sortE (xs : List E6) : List E6 := xs.mergeSort fun x y => !(Go.Proofs.ltOf cfE) y x
theorem sortE_perm (xs : List E6) : (sortE xs).Perm xs := List.mergeSort_perm _ _
theorem sortE_len (xs : List E6) : (sortE xs).length = xs.length := (sortE_perm xs).length_eq
theorem sortE_rise {xs : List E6} (hn : (xs.map Subtype.val).Nodup) : ((sortE xs).map Subtype.val).Pairwise fun x y => cmpE x y < 0 := by
  have h1 : (sortE xs).Pairwise fun x y => (!(Go.Proofs.ltOf cfE) y x) = true := by
    refine List.pairwise_mergeSort (fun x y z h1 h2 => ?_) (fun x y => ?_) xs
    · simp only [Bool.not_eq_true'] at *
      exact swoE.ntrans _ _ _ h2 h1
    · have a1 := cmp_flip x.1 y.1
      by_cases q : cmpE y.1 x.1 < 0
      · have e1 : Go.Proofs.ltOf cfE x y = false := decide_eq_false (show ¬ cmpE x.1 y.1 < 0 by omega)
        rw [e1, Bool.not_false, Bool.or_true]
      · have e1 : Go.Proofs.ltOf cfE y x = false := decide_eq_false q
        rw [e1]
        rfl
  have h2 : ((sortE xs).map Subtype.val).Nodup := ((sortE_perm xs).map _).nodup_iff.2 hn
  rw [List.pairwise_map]
  have h3 := List.pairwise_map.1 h2
  refine (List.Pairwise.and h1 h3).imp fun {x y} h => ?_
  obtain ⟨ha, hb⟩ := h
  have ha : ¬ cmpE y.1 x.1 < 0 := of_decide_eq_false (by rw [Bool.not_eq_true'] at ha; exact ha)
  have a1 := cmp_flip x.1 y.1
  have a2 := cmp_three x.1 y.1
  by_cases q : cmpE x.1 y.1 = 0
  · exact absurd (cmp_zero q) hb
  · omega
theorem cmpLaysE (blk off size : Nat) (w : World) : Go.Proofs.CmpLays Try.prog 40 #[] encE 6 cfE blk off size w := fun m os dk hd x y => compare_q x.1 y.1 _ x.2 y.2
set_option maxHeartbeats 2000000 in
theorem sortfunc_ok (g cap : Nat) (xs : List E6) (w : World) (hH : HoldsK encE 6 w g 0 xs.toArray) (hg : g < w.heap.size) (hl : xs.length ≤ 100000000) :
    Calls Try.prog 78 #[.slice (some ⟨g, 0, none⟩) xs.length cap, .func (.func 40) #[] #[]] w fun e w' => e = .returned (.tuple #[]) ∧ HoldsK encE 6 w' g 0 (sortE xs).toArray ∧ w.grownBy w' (some g) := by
  have eg : ∀ args w, (callFunc 40 args).run Try.prog w = .ok (.enter 40 args) w := enters_of Try.func40 (by kernel_rfl) rfl
  have hcon := Go.Proofs.AnyQ.slices_SortFunc_total Try.sortE 6 Try.isAgg37 Try.sizeOf37 encE encE_len encE_one cfE swoE 40 #[] g 0 cap xs.toArray w eg (cmpLaysE _ _ _ _) hH hg (by simp; omega) totE
  refine Calls.mono hcon ?_
  rintro e w' ⟨he, n, os, rfl⟩
  refine ⟨he, ?_, grownBy_sortE _⟩
  exact Go.Proofs.holdsK_sortWorldK_c encE 6 w g 0 xs.toArray (sortE xs).toArray n os hH hg (by simp [sortE_len])
theorem sortfunc_none (p : Option Addr) (cap : Nat) (fv : Value) (w : World) :
    Calls Try.prog 78 #[.slice p 0 cap, fv] w fun e w' => e = .returned (.tuple #[]) ∧ w' = w := Go.Proofs.AnyF.slices_SortFunc_none Try.sortE p cap fv w
set_option maxHeartbeats 2000000 in
/-- slices.SortedFunc(seq, compare). -/
theorem sorted_ok (g : Nat) (lb : Array Value) (eg : ∀ args w, (callFunc g args).run Try.prog w = .ok (.enter g args) w) (S : List E6 → Prop) (hSN : ∀ xs, S xs → xs.length ≤ 100000000) (N : Nat) (hN : N ≤ 100000000) (w : World)
    (hseq : SeqStopsK Fence.wide 3 Try.prog g lb (fun x : E6 => #[valE x.1]) KeepsWalks S (fun _ => True) N w) :
    Calls Try.prog 64 #[.func (.func g) #[] lb, .func (.func 40) #[] #[]] w fun e w' => ∃ v xs, e = .returned v ∧ S xs ∧ Kx w' v (sortE xs) ∧ Below w.heap.size w w' := by
  have HC := Lib.hid (callsIn_wide.1 (collect_in 5 (by omega) g lb eg S N hN w hseq))
  have HS := Lib.hid hSN
  clear hseq eg hSN
  go_enter Try.func64, Try.ntmps64
  go_wp2_with (fail)
  refine HC.out.mono ?_
  rintro e W ⟨v, xs, rfl, hS, hrow, hb⟩
  have hlen := HS.out xs hS
  have HSX := Lib.hid hS
  rcases hrow.2 with ⟨rfl, hz⟩ | ⟨gb, cap, cur, rfl, hbase, hgb, r1, r2, r3, r4⟩
  · have hxs : xs = [] := List.eq_nil_of_length_eq_zero hz
    subst hxs
    clear hS
    go_wp2_with (fail)
    refine (sortfunc_none none 0 _ W).mono ?_
    rintro e w' ⟨rfl, rfl⟩
    go_wp2_with (fail)
    go_ret
    exact ⟨_, [], rfl, HSX.out, ⟨by rw [sortE_len]; exact Nat.zero_le _, none, 0, by simp [sortE], fun i x h => by simp [sortE] at h⟩, hb⟩
  · have hgl : gb < W.heap.size := (Array.getElem?_eq_some_iff.1 hgb).1
    have HF := Lib.hid (sortfunc_ok gb cap xs W (holds_own (cap := cap) hgb r4) hgl hlen)
    have hb' : Hid (∀ w', W.grownBy w' (some gb) → Below w.heap.size w w') := Lib.hid fun w' h => hb.grown h hb.size (fun j hj => by cases hj; exact hbase)
    have HG := Lib.hid hgl
    have HL := Lib.hid hlen
    clear hS hrow hgb r1 r2 r3 r4 hlen hgl hb
    go_wp2_with (fail)
    refine HF.out.mono ?_
    rintro e w' ⟨rfl, hH, hgr⟩
    have hk := kx_holds (cap := cap) (xs := sortE xs) (by rw [sortE_len]; unfold maxLen; have := HL.out; omega) (Nat.lt_of_lt_of_le HG.out hgr.size) hH
    rw [sortE_len] at hk
    have HK := Lib.hid hk
    have HB := Lib.hid (hb'.out _ hgr)
    clear hk hH hgr
    go_wp2_with (fail)
    go_ret
    exact ⟨_, xs, rfl, HSX.out, HK.out, HB.out⟩
end Go.Proofs.Ytcamjoddaeefdaa
