/-
  Maps keyed by six bytes, their elements int64: what they hold, as a list of pairs that were added up.
  maps.Keys of a map keyed by six bytes: the iterator.
  slices.AppendSeq, slices.Collect over an iterator that gives six bytes.
  Collected terms: insertion into a sorted list, sums by key; one sorted list holds them.
-/
import Derived.Test.YthakeeinhgfbbaaGreatTm
import Derived.WideKeyPair
import Derived.Maps.OwnOps
import Derived.Maps.RangeWalk
import Derived.RangeFuncNested
import Derived.RangeFuncBound
import Derived.RangeFuncCalls
import Derived.RangeFuncLeaves
import Derived.RangeFuncGives
import Derived.Shelf.Abstract
import Derived.Shelf.RegionOpen
import Derived.Sort.MapsRangeIn
import Derived.WalkKit
import Derived.OwnWalkIn
import Derived.TacticsInMore
import Derived.RegionIn
import Derived.LoopNIn
import Derived.LoopIn
import Derived.Test.YthakeeinhgfbbaaGreatKit
import Derived.Test.YthakeeinhgfbbaaGreatTv
import Derived.RangeFuncOne
import Derived.Maps.AppendAt
import Derived.Test.YthakeeinhgfbbaaGreatTw
namespace Go.Proofs.YthakeeinhgfbbaaGreat
open Go.ChangeShapes Go.WideShapes Go.ChangeAt Go.RowKit Go.Maps
open Go.WideMaps (ArrKey)
set_option linter.unusedVariables false
set_option linter.unusedSimpArgs false
set_option maxRecDepth 100000

/-- What six bytes read as, as a key. -/
def kl6 (e : List Int) : Lit := .string (keyBytes (e.map (Lit.int .u8 ·)))
theorem wf_u8 {x : Int} (h : 0 ≤ x ∧ x ≤ 255) : (Lit.int .u8 x).wf = true := by
  have e1 : IntKind.u8.min = 0 := rfl
  have e2 : IntKind.u8.max = 255 := rfl
  simp [Lit.wf, e1, e2]
  omega
theorem wf_u8_inv {x : Int} (h : (Lit.int .u8 x).wf = true) : 0 ≤ x ∧ x ≤ 255 := by
  have e1 : IntKind.u8.min = 0 := rfl
  have e2 : IntKind.u8.max = 255 := rfl
  simp [Lit.wf, e1, e2] at h
  omega
theorem valE_inj {d e : List Int} (h : valE d = valE e) : d = e := by
  simp only [valE, Value.agg.injEq] at h
  have h2 := congrArg Array.toList h
  simp only [List.toList_toArray] at h2
  refine List.map_inj_right (fun a b hab => ?_) |>.1 h2
  simpa using hab
section
variable {P : Program} {k e : TypeId} (A : ArrKey P k e 6) (he : P.underlying e = some (.int .u8)) (hsz : ∃ m, P.types.size = m + 1)
include A he hsz
theorem keyOf_six {l : List Int} (h : EV l) : keyOf P k (valE l) = some (kl6 l) := by
  obtain ⟨a, b, c, d, f, g, rfl⟩ := six_of h
  have w0 := wf_u8 (h.2 a (by simp))
  have w1 := wf_u8 (h.2 b (by simp))
  have w2 := wf_u8 (h.2 c (by simp))
  have w3 := wf_u8 (h.2 d (by simp))
  have w4 := wf_u8 (h.2 f (by simp))
  have w5 := wf_u8 (h.2 g (by simp))
  have hkt := A.keyType hsz
  obtain ⟨m, hm⟩ := hsz
  unfold keyOf valE
  simp only [A.hu]
  rw [if_pos (by simp [hkt, Value.formed, A.hu, A.size]), hm]
  unfold Program.keyLits
  simp only [A.hu, Value.cells]
  rw [if_pos (by rw [A.size]; rfl), show List.range 6 = [0, 1, 2, 3, 4, 5] from rfl]
  simp only [List.mapM_cons, List.mapM_nil]
  simp [A.one, Program.keyLits, he, w0, w1, w2, w3, w4, w5, kl6]
omit A hsz in
theorem keyLits_one {m : Nat} {c : Value} {ls : List Lit} (h : P.keyLits (m + 1) e [c] = some ls) : ∃ n, c = .int .u8 n ∧ (0 ≤ n ∧ n ≤ 255) ∧ ls = [.int .u8 n] := by
  cases c <;> simp [Program.keyLits, he] at h
  obtain ⟨⟨rfl, hw⟩, rfl⟩ := h
  exact ⟨_, rfl, wf_u8_inv hw, rfl⟩
theorem keyOf_six_inv {v : Value} {kl : Lit} (h : keyOf P k v = some kl) : ∃ l, EV l ∧ v = valE l ∧ kl = kl6 l := by
  obtain ⟨m, hm⟩ := hsz
  unfold keyOf at h
  simp only [A.hu] at h
  split at h
  · rename_i hc
    simp only [Bool.and_eq_true] at hc
    have hf := hc.2
    cases v with
    | agg cs =>
      simp [Value.formed, A.hu, A.size] at hf
      obtain ⟨l⟩ := cs
      match l, hf with
      | [c0, c1, c2, c3, c4, c5], _ =>
        rw [hm] at h
        unfold Program.keyLits at h
        simp only [A.hu, Value.cells] at h
        rw [if_pos (by rw [A.size]; rfl), show List.range 6 = [0, 1, 2, 3, 4, 5] from rfl] at h
        simp only [List.mapM_cons, List.mapM_nil, A.one, bind, pure, Option.map_eq_some_iff, Option.bind_eq_some_iff, Option.some.injEq] at h
        obtain ⟨_, ⟨ls, ⟨x0, h0, _, ⟨x1, h1, _, ⟨x2, h2, _, ⟨x3, h3, _, ⟨x4, h4, _, ⟨x5, h5, _, rfl, rfl⟩, rfl⟩, rfl⟩, rfl⟩, rfl⟩, rfl⟩, rfl⟩, rfl⟩ := h
        simp at h0 h1 h2 h3 h4 h5
        obtain ⟨n0, rfl, b0, rfl⟩ := keyLits_one he h0
        obtain ⟨n1, rfl, b1, rfl⟩ := keyLits_one he h1
        obtain ⟨n2, rfl, b2, rfl⟩ := keyLits_one he h2
        obtain ⟨n3, rfl, b3, rfl⟩ := keyLits_one he h3
        obtain ⟨n4, rfl, b4, rfl⟩ := keyLits_one he h4
        obtain ⟨n5, rfl, b5, rfl⟩ := keyLits_one he h5
        refine ⟨[n0, n1, n2, n3, n4, n5], ⟨rfl, fun x hx => ?_⟩, rfl, rfl⟩
        simp at hx
        rcases hx with rfl | rfl | rfl | rfl | rfl | rfl <;> assumption
    | _ => simp [Value.formed, A.hu] at hf
  · simp at h
end
theorem arr6 : ArrKey Tryz.prog 61 5 6 := ⟨Tryz.underlying61, by kernel_rfl, by kernel_rfl, by kernel_rfl⟩
theorem types_pos : ∃ m, Tryz.prog.types.size = m + 1 := ⟨Tryz.prog.types.size - 1, by have : 0 < Tryz.prog.types.size := of_decide_eq_true (by kernel_rfl); omega⟩
theorem law6 : Keyed Tryz.prog 61 := Keyed.of_law arr6.law
theorem key6 {l : List Int} (h : EV l) : keyOf Tryz.prog 61 (valE l) = some (kl6 l) := keyOf_six arr6 Tryz.underlying5 types_pos h
theorem key6_inv {v : Value} {kl : Lit} (h : keyOf Tryz.prog 61 v = some kl) : ∃ l, EV l ∧ v = valE l ∧ kl = kl6 l := keyOf_six_inv arr6 Tryz.underlying5 types_pos h
theorem kl6_inj {d e : List Int} (hd : EV d) (he : EV e) (h : kl6 d = kl6 e) : d = e := valE_inj (law6.inj (key6 hd) (h ▸ key6 he))

/-- The sum of what was added at a key. -/
def sumK (S : List Tm) (e : List Int) : Int := ((S.filter fun p => p.2 == e).map (·.1)).sum
theorem sumK_snoc (S : List Tm) (d e : List Int) (c : Int) : sumK (S ++ [(c, d)]) e = sumK S e + if d = e then c else 0 := by
  unfold sumK
  rw [List.filter_append, List.map_append, List.sum_append]
  congr 1
  by_cases h : d = e
  · simp [h]
  · simp [h]
/-- The map holds the sums of the pairs. -/
structure MapIs (D : DataW Unit) (S : List Tm) : Prop where
  map : IsMap D
  has : ∀ e, EV e → Maps.has D (kl6 e) = S.any fun p => p.2 == e
  at0 : ∀ e, EV e → D.atKey (kl6 e) (.lit (.int .i64 0)) = .lit (.int .i64 (sumK S e))
theorem MapIs.start : MapIs (.map []) [] := ⟨isMap_empty, fun e _ => rfl, fun e _ => rfl⟩
theorem MapIs.step {D : DataW Unit} {S : List Tm} (h : MapIs D S) {d : List Int} (hd : EV d) (c : Int) : MapIs (D.put (kl6 d) (.lit (.int .i64 (sumK S d + c)))) (S ++ [(c, d)]) := by
  have hk : WideAt.IsKeyLit (kl6 d) := trivial
  refine ⟨h.map.put _ _, fun e he => ?_, fun e he => ?_⟩
  · by_cases q : e = d
    · subst q
      rw [has_put_same h.map hk]
      simp
    · rw [has_put_other (fun z => q (kl6_inj he hd z)), h.has e he]
      simp [show ¬ d = e from fun z => q z.symm]
  · by_cases q : e = d
    · subst q
      rw [atKey_put_same h.map hk, sumK_snoc, if_pos rfl]
    · rw [atKey_put_other (fun z => q (kl6_inj he hd z)), h.at0 e he, sumK_snoc, if_neg (fun z => q z.symm), Int.add_zero]
/-- The keys that have come. -/
def CollE (D : DataW Unit) (left : Lit → Bool) (ks : List (List Int)) : Prop := ks.Nodup ∧ (∀ e ∈ ks, EV e) ∧ ∀ e, EV e → (e ∈ ks ↔ Maps.has D (kl6 e) = true ∧ left (kl6 e) = false)
theorem CollE.start (D : DataW Unit) : CollE D (Maps.has D) [] := ⟨List.nodup_nil, fun e h => by simp at h, fun e _ => by cases Maps.has D (kl6 e) <;> simp⟩
theorem CollE.step {D : DataW Unit} {left : Lit → Bool} {ks : List (List Int)} (h : CollE D left ks) {x : List Int} (hx : EV x) {y : DataW Unit} (hlk : left (kl6 x) = true) (hat : ∀ zd, D.atKey (kl6 x) zd = y) : CollE D (fun z => left z && !z.sameKey (kl6 x)) (ks ++ [x]) := by
  have hhas : Maps.has D (kl6 x) = true := has_true_of_atKey hat
  have hnew : x ∉ ks := fun hm => by have := ((h.2.2 x hx).1 hm).2; rw [hlk] at this; cases this
  refine ⟨List.nodup_append.2 ⟨h.1, by simp, fun a ha b hb => by simp at hb; subst hb; exact fun e => hnew (e ▸ ha)⟩, fun e hm => ?_, fun e he => ?_⟩
  · rcases List.mem_append.1 hm with hm | hm
    · exact h.2.1 e hm
    · simp at hm; subst hm; exact hx
  · by_cases q : e = x
    · subst q
      simp [hhas, WideAt.sameKey_self (show WideAt.IsKeyLit (kl6 e) from trivial)]
    · simp [h.2.2 e he, q, sameKey_ne (fun z => q (kl6_inj he hx z))]
/-- At the end: just the keys. -/
def KeysE (S : List Tm) (ks : List (List Int)) : Prop := ks.Nodup ∧ (∀ e ∈ ks, EV e) ∧ ∀ e, EV e → (e ∈ ks ↔ S.any (fun p => p.2 == e) = true)
theorem CollE.all {D : DataW Unit} {left : Lit → Bool} {ks : List (List Int)} {S : List Tm} (h : CollE D left ks) (hM : MapIs D S) (hl : ∀ kl, left kl = false) : KeysE S ks :=
  ⟨h.1, h.2.1, fun e he => by rw [h.2.2 e he, hl, hM.has e he]; simp⟩
end Go.Proofs.YthakeeinhgfbbaaGreat

namespace Go.Proofs.YthakeeinhgfbbaaGreat
open Go.ChangeShapes Go.WideShapes Go.ChangeAt Go.RowKit Go.Shelf Go.Maps
set_option linter.unusedVariables false
set_option linter.unusedSimpArgs false
set_option maxRecDepth 100000
attribute [local go_sem] Oper.semAt_some

/-- Six exponents, each a byte. -/
abbrev E6 := { e : List Int // EV e }
/-- All keys have come, each once. -/
def KeysD (D : DataW Unit) (xs : List E6) : Prop := ((xs.map Subtype.val).Nodup ∧ ∀ e, EV e → (e ∈ xs.map Subtype.val ↔ Maps.has D (kl6 e) = true)) ∧ xs.length ≤ Maps.size D
def CollS (D : DataW Unit) (left : Lit → Bool) (xs : List E6) : Prop := CollE D left (xs.map Subtype.val)
theorem CollS.step {D : DataW Unit} {left : Lit → Bool} {ks : List E6} (h : CollS D left ks) (x : E6) {y : DataW Unit} (hlk : left (kl6 x.1) = true) (hat : ∀ zd, D.atKey (kl6 x.1) zd = y) : CollS D (fun z => left z && !z.sameKey (kl6 x.1)) (ks ++ [x]) := by
  unfold CollS
  rw [List.map_append]
  exact CollE.step h x.2 hlk hat
theorem CollS.all {D : DataW Unit} {left : Lit → Bool} {ks : List E6} (h : CollS D left ks) (hl : ∀ kl, left kl = false) (hz : ks.length ≤ Maps.size D) : KeysD D ks :=
  ⟨⟨h.1, fun e he => by rw [h.2.2 e he, hl]; simp⟩, hz⟩
set_option maxHeartbeats 4000000 in
theorem keys1_in (n : Nat) (hn : 1 ≤ n) (l Bm b nn : Nat) (D0 : DataW Unit) (J Jx : List E6 → World → Prop)
    (hY : ∀ pre x W, J pre W → pre.length < Maps.size D0 → YieldAt Fence.wide (n - 1) Tryz.prog l #[valE x.1] W fun e W' => (e = .returned (.bool true) ∧ J (pre ++ [x]) W' ∧ KeepsWalks W W') ∨ (e = .returned (.bool false) ∧ Jx (pre ++ [x]) W'))
    (W : World) (hJ : AbidesFrom W.heap.size J) (hm : W.cell? ⟨Bm, 0, none⟩ = some (.map (some b))) (hown : W.ownsMap Tryz.prog 61 (plainElem Tryz.prog 2) b nn D0) (h0 : J [] W) :
    CallsIn Fence.wide n Tryz.prog 138 #[.func (.yield l) #[] #[], .pointer (some ⟨Bm, 0, none⟩)] W fun e W' => (∃ v, e = .returned v) ∧ ((∃ xs, KeysD D0 xs ∧ J xs W') ∨ (∃ pre, True ∧ Jx pre W')) := by
  refine callsIn_of_wp Tryz.func138 rfl trivial ?_ rfl
  simp only [Tryz.ntmps138, List.size_toArray, List.length_cons, List.length_nil, Nat.reduceAdd, Nat.reduceSub, Array.replicate_succ, Array.replicate_zero, List.push_toArray, List.append_toArray, List.nil_append, List.cons_append]
  gi_wp2_with (first
    | (gi_at_range; refine wpListIn_range_own _ rfl _ 114 rfl 61 2 law6 Tryz.underlying114 _ b nn _ rfl hown ?_; intro w0 hrg0 hg0 hs0)
    | gi_in)
  go_frame
  gi_loopw [3] (fun _ wr => ∃ (left : Lit → Bool) (cnt : Nat) (ss : List E6), wr.ranges Tryz.prog 61 (plainElem Tryz.prog 2) b W.heap.size nn D0 left cnt ∧ ss.length + cnt ≤ Maps.size D0 ∧ CollS D0 left ss ∧ J ss wr)
    (fun _ wr => wr.rangeLeft b W.heap.size)
  case atStart =>
    exact ⟨_, _, [], hrg0, by simp, CollE.start D0, hJ [] W w0 none h0 hg0 (fun r e => by cases e)⟩
  case round =>
    obtain ⟨left, cnt, ss, hrg, hcs, hC, hJs⟩ := hrel
    gi_wp2_with (first
      | (gi_at_next; refine wpListIn_next_ranges _ rfl _ rfl 61 law6 (plainElem Tryz.prog 2) valE id (fun key kl hk => by obtain ⟨x, _, hx, _⟩ := key6_inv hk; exact ⟨x, hx⟩) (fun v _ _ => ⟨v, rfl⟩) b W.heap.size nn _ _ _ rfl hrg ?_ ?_)
      | gi_in)
    · intro hc0 hl0
      gi_wp2
      go_end0
      exact ⟨⟨_, rfl⟩, .inl ⟨ss, hC.all hl0 (by omega), hJs⟩⟩
    · intro x c kl yd yp w2 cnt2 hkey hlk hv hat hrg2 hlt hg2 hs2 hen
      obtain ⟨x', hEV, ex, rfl⟩ := key6_inv hkey
      obtain rfl := valE_inj ex
      obtain ⟨a0, a1, a2, a3, a4, a5, rfl⟩ := six_of hEV
      have hJ2 : J ss w2 := hJ ss wr w2 (some W.heap.size) hJs hg2 (fun r e => by cases e; exact ⟨Nat.le_refl _, hrg.iter_walk⟩)
      have hJ3 : J ss (w2.alloc (.cells #[.int .u8 a0, .int .u8 a1, .int .u8 a2, .int .u8 a3, .int .u8 a4, .int .u8 a5] 61)) := hJ ss w2 _ none hJ2 (World.grownBy_alloc _ _ _) (fun r e => by cases e)
      obtain ⟨fn, tmps, assign, body, hy, hR⟩ := hY ss ⟨[a0, a1, a2, a3, a4, a5], hEV⟩ _ hJ3 (by omega)
      rw [show valE [a0, a1, a2, a3, a4, a5] = .agg #[.int .u8 a0, .int .u8 a1, .int .u8 a2, .int .u8 a3, .int .u8 a4, .int .u8 a5] from rfl] at hen
      dsimp only at hy
      rw [show valE [a0, a1, a2, a3, a4, a5] = .agg #[.int .u8 a0, .int .u8 a1, .int .u8 a2, .int .u8 a3, .int .u8 a4, .int .u8 a5] from rfl] at hy
      have hrg3 := hrg2.alloc (.cells #[.int .u8 a0, .int .u8 a1, .int .u8 a2, .int .u8 a3, .int .u8 a4, .int .u8 a5] 61)
      have HC := Lib.hid (hC.step ⟨[a0, a1, a2, a3, a4, a5], hEV⟩ hlk hat)
      have HE := Lib.hid hEV
      rw [show valE [a0, a1, a2, a3, a4, a5] = .agg #[.int .u8 a0, .int .u8 a1, .int .u8 a2, .int .u8 a3, .int .u8 a4, .int .u8 a5] from rfl]
      clear hs2 hC hlk hat hkey hJ2 hJ3 hJs hv ex HE
      gi_wp2
      refine hR.mono ?_
      rintro e W3 (⟨rfl, hJ3, hk3⟩ | ⟨rfl, hJx3⟩)
      · gi_wp2
        have hrg4 := hrg3.of_walks hk3
        go_roundw
        case rel => exact ⟨_, cnt2, _, hrg4, by simp; omega, HC.out, hJ3⟩
        case measure => rw [hrg4.left_eq, hrg.left_eq]; exact hlt
      · gi_wp2
        refine bodyPost_ret (results_none rfl _ _ _) rfl ?_
        exact ⟨⟨_, rfl⟩, .inr ⟨_, trivial, hJx3⟩⟩
/-- maps.Keys(m) hands back an iterator over the keys. -/
theorem keys_stops (n : Nat) (hn : 1 ≤ n) (Bm b nn : Nat) (D0 : DataW Unit) (w : World) (hBm : Bm < w.heap.size) (hm : w.cell? ⟨Bm, 0, none⟩ = some (.map (some b))) (hown : w.ownsMap Tryz.prog 61 (plainElem Tryz.prog 2) b nn D0) :
    SeqStopsK Fence.wide n Tryz.prog 138 #[.pointer (some ⟨Bm, 0, none⟩)] (fun x : E6 => #[valE x.1]) KeepsWalks (KeysD D0) (fun _ => True) (Maps.size D0) w := fun l J Jx W hW hJ _ hY h0 => by
  have hown' : W.ownsMap Tryz.prog 61 (plainElem Tryz.prog 2) b nn D0 := by
    have hbl := hown.lt
    obtain ⟨es, clock, hb, Ft, hs, hD⟩ := hown
    exact ⟨es, clock, (hW.block b hbl).trans hb, Ft, hs, hD⟩
  exact keys1_in n hn l Bm b nn D0 J Jx hY W hJ ((hW.cell (p := ⟨Bm, 0, none⟩) hBm).trans hm) hown' h0
theorem keys_in (n : Nat) (mb : Option Nat) (w : World) :
    CallsIn Fence.wide n Tryz.prog 121 #[.map mb] w fun e w' => e = .returned (.func (.func 138) #[] #[.pointer (some ⟨w.heap.size, 0, none⟩)]) ∧ w' = w.alloc (.cells #[.map mb] 114) := by
  refine callsIn_of_wp Tryz.func121 rfl trivial ?_ rfl
  simp only [Tryz.ntmps121, List.size_toArray, List.length_cons, List.length_nil, Nat.reduceAdd, Nat.reduceSub, Array.replicate_succ, Array.replicate_zero, List.push_toArray, List.append_toArray, List.nil_append, List.cons_append]
  gi_wp2
  go_ret
  exact ⟨rfl, rfl⟩
theorem size_own {w : World} {b n : Nat} {D : DataW Unit} (h : w.ownsMap Tryz.prog 61 (plainElem Tryz.prog 2) b n D) : Maps.size D ≤ n := by
  obtain ⟨es, clock, hb, F, hs, rfl⟩ := h
  rw [Maps.size_eq, length_sorted]
  simpa using hs
theorem keysD_all {D : DataW Unit} {xs : List E6} {S : List Tm} (h : KeysD D xs) (hM : MapIs D S) : KeysE S (xs.map Subtype.val) :=
  ⟨h.1.1, fun e he => by obtain ⟨x, _, rfl⟩ := List.mem_map.1 he; exact x.2, fun e he => by rw [h.1.2 e he, hM.has e he]⟩
end Go.Proofs.YthakeeinhgfbbaaGreat

namespace Go.Proofs.YthakeeinhgfbbaaGreat
open Go.ChangeShapes Go.WideShapes Go.ChangeAt Go.RowKit Go.Shelf
set_option linter.unusedVariables false
set_option linter.unusedSimpArgs false
set_option maxRecDepth 100000
attribute [local go_sem] Oper.semAt_some

/-- The cells of a row of exponents. -/
def c6 (xs : List E6) : List Value := xs.flatMap fun x => x.1.map (.int .u8 ·)
theorem c6_snoc (xs : List E6) (x : E6) : c6 (xs ++ [x]) = c6 xs ++ x.1.map (.int .u8 ·) := by simp [c6]
theorem info_6 : (Tryz.prog.info? 61).map (fun i => (i.zero, i.size, i.bytes)) = some (some (.agg #[.int .u8 0, .int .u8 0, .int .u8 0, .int .u8 0, .int .u8 0, .int .u8 0]), 6, 6) := by kernel_rfl
theorem new_6 (w : World) (a0 a1 a2 a3 a4 a5 : Int) : ∀ j u, ([.int .u8 a0, .int .u8 a1, .int .u8 a2, .int .u8 a3, .int .u8 a4, .int .u8 a5] : List Value)[j]? = some u → (w.alloc (.cells #[.int .u8 a0, .int .u8 a1, .int .u8 a2, .int .u8 a3, .int .u8 a4, .int .u8 a5] 61)).cell? ((⟨w.heap.size, 0, none⟩ : Addr).add j) = some u := by
  intro j u hj
  have hk : j < 6 := by have := (List.getElem?_eq_some_iff.1 hj).1; simpa using this
  match j, hk, hj with
  | 0, _, hj => cases hj; simp [Addr.add, go_sem]
  | 1, _, hj => cases hj; simp [Addr.add, go_sem]
  | 2, _, hj => cases hj; simp [Addr.add, go_sem]
  | 3, _, hj => cases hj; simp [Addr.add, go_sem]
  | 4, _, hj => cases hj; simp [Addr.add, go_sem]
  | 5, _, hj => cases hj; simp [Addr.add, go_sem]
theorem one_6 (a0 a1 a2 a3 a4 a5 : Int) : ∀ u ∈ ([.int .u8 a0, .int .u8 a1, .int .u8 a2, .int .u8 a3, .int .u8 a4, .int .u8 a5] : List Value), u.oneCell' = true := by
  intro u hu
  simp at hu
  rcases hu with rfl | rfl | rfl | rfl | rfl | rfl <;> rfl
theorem own_blockE {B : Nat} {W W' : World} {row : Option Nat} (hg : W.grownBy W' row) (hr : ∀ r, row = some r → B ≤ r ∧ ∃ o : Obj, W.heap[r]? = some o ∧ o.isCells = false) {b : Nat} {cs : Array Value} {t : TypeId} {z : Nat × Nat} (h : W.heap[b]? = some (.cells cs t z)) : W'.heap[b]? = some (.cells cs t z) :=
  (hg.block b (Array.getElem?_eq_some_iff.1 h).1 (fun e => by
    obtain ⟨_, o, ho, hc⟩ := hr b e.symm
    rw [h] at ho
    rw [← Option.some.inj ho] at hc
    cases hc)).trans h
set_option maxHeartbeats 4000000 in
theorem apseq_in (n : Nat) (hn : 3 ≤ n) (g : Nat) (lb : Array Value) (eg : ∀ args w, (callFunc g args).run Tryz.prog w = .ok (.enter g args) w) (S : List E6 → Prop) (N : Nat) (hN : N ≤ 100000000) (w : World)
    (hseq : SeqStopsK Fence.wide (n - 1) Tryz.prog g lb (fun x : E6 => #[valE x.1]) KeepsWalks S (fun _ => True) N w) :
    CallsIn Fence.wide n Tryz.prog 146 #[.slice none 0 0, .func (.func g) #[] lb] w fun e w' => ∃ v xs, e = .returned v ∧ S xs ∧ w'.ownsRow w.heap.size 61 6 v xs.length (c6 xs) ∧ Below w.heap.size w w' := by
  have h1 : 1 ≤ n := by omega
  obtain ⟨i0, hi, hz0, hz1, hz2⟩ := info_parts info_6
  refine callsIn_of_wp_marks Tryz.func146 rfl trivial ?_ rfl
  simp only [Tryz.ntmps146, List.size_toArray, List.length_cons, List.length_nil, Nat.reduceAdd, Nat.reduceSub, Array.replicate_succ, Array.replicate_zero, List.push_toArray, List.append_toArray, List.nil_append, List.cons_append]
  gi_wp2
  have hb0 : Below w.heap.size w (w.alloc (.cells #[.slice none 0 0] 117)) := (Below.refl _ w).alloc (Nat.le_refl _) _
  have hx0 := Boxed.new w 117 (.slice none 0 0)
  have hs0 : (w.alloc (.cells #[.slice none 0 0] 117)).heap.size = w.heap.size + 1 := by simp
  have hr0 := World.ownsRow_nil (w.alloc (.cells #[.slice none 0 0] 117)) w.heap.size 61 6
  obtain ⟨W0, hW0⟩ : ∃ W0, w.alloc (.cells #[.slice none 0 0] 117) = W0 := ⟨_, rfl⟩
  rw [hW0] at hb0 hx0 hs0 hr0 ⊢
  clear hW0
  refine wpIn_rangeFunc_ownH rfl h1 (gf := g) (lb := lb) rfl trivial eg (hseq) walksK_t (fun W l o o' hl ho hoc hw => KeepsWalks.putObj _ ho hw) hb0 (fun _ => rfl)
    (fun pre W => (∃ v, Boxed W w.heap.size 117 v ∧ W.ownsRow w.heap.size 61 6 v pre.length (c6 pre) ∧ True) ∧ Below w.heap.size w W)
    (fun _ _ _ => False)
    (OwnFrom.and (Own.from (holdsRow_own w.heap.size w.heap.size 117 61 6 (fun pre : List E6 => pre.length) (fun pre => c6 pre) (fun _ _ => True)) _) (ownFrom_below (Nat.le_refl _) (by omega)))
    (fun k => fun s A B row hs hg hr => hs)
    ⟨⟨_, hx0, hr0, trivial⟩, hb0⟩
    (fun x a' W => ∃ X, ByB W X x.1 ∧ a' = { tmps := #[.slice none 0 0, .func (.func g) #[] lb, .pointer (some ⟨w.heap.size, 0, none⟩), undef, .slice none 0 0, .pointer (some ⟨X, 0, none⟩), .func (.func g) #[] lb, valE x.1, undef, undef, undef, undef, undef], defers := [] })
    (fun x a' _ A B row hs hg hr => by obtain ⟨X, h1, h2⟩ := hs; exact ⟨X, own_blockE hg hr h1, h2⟩) ?assign ?body ?done ?stop
  case assign =>
    rintro l pre ⟨x, hx⟩ W K hI hK
    obtain ⟨a0, a1, a2, a3, a4, a5, rfl⟩ := six_of hx
    dsimp only at hK ⊢
    rw [show valE [a0, a1, a2, a3, a4, a5] = .agg #[.int .u8 a0, .int .u8 a1, .int .u8 a2, .int .u8 a3, .int .u8 a4, .int .u8 a5] from rfl] at *
    gi_wp2
    obtain ⟨⟨v, i2, i3, _⟩, i6⟩ := hI
    exact hK _ _ ((KeepsOthers.alloc _ _).from _) (KeepsWalks.alloc _ _) ⟨⟨v, i2.alloc _, i3.alloc _, trivial⟩, i6.alloc i6.size _⟩ ⟨W.heap.size, World.alloc_heap_new W _, rfl⟩
  case body =>
    rintro l pre ⟨x, hx⟩ a' W hl ⟨r, hr⟩ ⟨⟨v, c1, crow, _⟩, hB⟩ ⟨X, hX, rfl⟩ hlt
    obtain ⟨a0, a1, a2, a3, a4, a5, rfl⟩ := six_of hx
    dsimp only at hX ⊢
    rw [show valE [a0, a1, a2, a3, a4, a5] = .agg #[.int .u8 a0, .int .u8 a1, .int .u8 a2, .int .u8 a3, .int .u8 a4, .int .u8 a5] from rfl]
    have x0 := hX.cell (k := 0) rfl
    have x1 := hX.cell (k := 1) rfl
    have x2 := hX.cell (k := 2) rfl
    have x3 := hX.cell (k := 3) rfl
    have x4 := hX.cell (k := 4) rfl
    have x5 := hX.cell (k := 5) rfl
    have y0 := c1.cell
    have hle := hB.size
    have hmax : pre.length + 1 ≤ maxLen := by unfold maxLen; omega
    gi_wp2_with (gi_at_builtin; refine wpListIn_append_own _ rfl (.tmp 8) (.tmp 10) 117 rfl w.heap.size 61 i0 (.agg #[.int .u8 0, .int .u8 0, .int .u8 0, .int .u8 0, .int .u8 0, .int .u8 0]) 6 6 Tryz.underlying117 hi hz0 hz1 hz2 rfl (by decide) v pre.length _ rfl (crow.alloc _) ⟨W.heap.size, 0, none⟩ 1 1 [.int .u8 a0, .int .u8 a1, .int .u8 a2, .int .u8 a3, .int .u8 a4, .int .u8 a5] rfl rfl (new_6 _ _ _ _ _ _ _) (one_6 _ _ _ _ _ _) hmax (by omega) (by simp; omega) ?_)
    intro v' w6 hown' hgrow _
    obtain ⟨g', cap', rfl⟩ := ownsRow_succ hown'
    obtain ⟨hv1, hv2, hr2, hk2, hb2⟩ := c1.appended (by decide) crow hle (Nat.le_refl _) hown' hgrow
    have hc1 := hv1.cell
    have hf1 := hv1.frozen
    have HR2 : Hid (World.ownsRow _ _ _ _ _ (pre ++ [(⟨[a0, a1, a2, a3, a4, a5], hx⟩ : E6)]).length (c6 (pre ++ [⟨[a0, a1, a2, a3, a4, a5], hx⟩]))) := Lib.hid (by rw [c6_snoc]; simpa using hr2)
    clear hown' hr2
    gi_wp2
    exact ⟨hk2.from _, hk2.walks, ⟨⟨_, hv2, HR2.out, trivial⟩, hB.trans hb2⟩⟩
  case done =>
    rintro D ys W hD hS ⟨⟨v, c1, crow, _⟩, hB⟩ hK
    have hc := c1.cell
    gi_wp2
    refine ⟨by simp, .inl ⟨_, _, rfl, run_takeDeferred hK, ?_⟩⟩
    exact ⟨_, results_tmp rfl _ _ _, v, ys, rfl, hS, ownsRow_putObj crow _ hK rfl, hB.trans (belowK_b (w := w) (Nat.le_refl _) W D _ _ (by omega) hK rfl rfl)⟩
  case stop =>
    rintro D c pre W _ _ h _
    exact h.elim
theorem collect_in (n : Nat) (hn : 4 ≤ n) (g : Nat) (lb : Array Value) (eg : ∀ args w, (callFunc g args).run Tryz.prog w = .ok (.enter g args) w) (S : List E6 → Prop) (N : Nat) (hN : N ≤ 100000000) (w : World)
    (hseq : SeqStopsK Fence.wide (n - 1 - 1) Tryz.prog g lb (fun x : E6 => #[valE x.1]) KeepsWalks S (fun _ => True) N w) :
    CallsIn Fence.wide n Tryz.prog 136 #[.func (.func g) #[] lb] w fun e w' => ∃ v xs, e = .returned v ∧ S xs ∧ w'.ownsRow w.heap.size 61 6 v xs.length (c6 xs) ∧ Below w.heap.size w w' := by
  have h1 : 1 ≤ n := by omega
  have HS := Lib.hid (apseq_in (n - 1) (by omega) g lb eg S N hN w hseq)
  clear hseq eg
  refine callsIn_of_wp Tryz.func136 rfl trivial ?_ rfl
  simp only [Tryz.ntmps136, List.size_toArray, List.length_cons, List.length_nil, Nat.reduceAdd, Nat.reduceSub, Array.replicate_succ, Array.replicate_zero, List.push_toArray, List.append_toArray, List.nil_append, List.cons_append]
  gi_wp2_with (refine ⟨trivial, ?_⟩; gi_at_call 146; refine HS.out.mono ?_; rintro e w' ⟨v, xs, rfl, hS, hrow, hb⟩)
  go_ret
  exact ⟨v, xs, rfl, hS, hrow, hb⟩
end Go.Proofs.YthakeeinhgfbbaaGreat

namespace Go.Proofs.YthakeeinhgfbbaaGreat
open Go.ChangeShapes Go.WideShapes Go.ChangeAt Go.RowKit
set_option linter.unusedVariables false
set_option linter.unusedSimpArgs false

theorem cmp_three : ∀ d e : List Int, cmpE d e = -1 ∨ cmpE d e = 0 ∨ cmpE d e = 1
  | [], [] => .inr (.inl rfl)
  | [], _ :: _ => .inl rfl
  | _ :: _, [] => .inr (.inr rfl)
  | a :: l, b :: m => by
    rw [cmpE]
    split
    · exact .inl rfl
    · split
      · exact .inr (.inr rfl)
      · exact cmp_three l m
theorem cmp_flip : ∀ d e : List Int, cmpE e d = -cmpE d e
  | [], [] => rfl
  | [], _ :: _ => rfl
  | _ :: _, [] => rfl
  | a :: l, b :: m => by
    rw [cmpE, cmpE]
    by_cases h1 : a < b
    · rw [if_neg (by omega), if_pos h1, if_pos h1]
      rfl
    · by_cases h2 : b < a
      · rw [if_pos h2, if_neg h1, if_pos h2]
      · rw [if_neg h2, if_neg h1, if_neg h1, if_neg h2]; exact cmp_flip l m
theorem cmp_trans : ∀ {d e f : List Int}, cmpE d e < 0 → cmpE e f < 0 → cmpE d f < 0
  | [], [], _, h, _ => by simp [cmpE] at h
  | [], _ :: _, [], _, h => by simp [cmpE] at h
  | [], _ :: _, _ :: _, _, _ => by simp [cmpE]
  | _ :: _, [], _, h, _ => by simp [cmpE] at h
  | _ :: _, _ :: _, [], _, h => by simp [cmpE] at h
  | a :: l, b :: m, c :: n, h, k => by
    rw [cmpE] at h k ⊢
    by_cases h1 : a < b
    · by_cases k1 : b < c
      · rw [if_pos (by omega)]; decide
      · rw [if_neg k1] at k
        by_cases k2 : c < b
        · rw [if_pos k2] at k; omega
        · rw [if_pos (by omega)]; decide
    · rw [if_neg h1] at h
      by_cases h2 : b < a
      · rw [if_pos h2] at h; omega
      · rw [if_neg h2] at h
        have : a = b := by omega
        subst this
        by_cases k1 : a < c
        · rw [if_pos k1]; decide
        · rw [if_neg k1] at k ⊢
          by_cases k2 : c < a
          · rw [if_pos k2] at k; omega
          · rw [if_neg k2] at k ⊢
            exact cmp_trans h k
def Rise (l : List Tm) : Prop := l.Pairwise fun a b => cmpE a.2 b.2 < 0
/-- The reference's insert. -/
def insT (x : Tm) : List Tm → List Tm
  | [] => [x]
  | q :: r => if cmpE q.2 x.2 < 0 then q :: insT x r else if cmpE q.2 x.2 = 0 then (x.1 + q.1, x.2) :: r else x :: q :: r
def collT (S : List Tm) : List Tm := S.foldl (fun l x => insT x l) []
theorem collT_snoc (S : List Tm) (x : Tm) : collT (S ++ [x]) = insT x (collT S) := by simp [collT, List.foldl_append]
theorem ins_key {x : Tm} : ∀ {l : List Tm} {e : List Int}, e ∈ (insT x l).map (·.2) ↔ e = x.2 ∨ e ∈ l.map (·.2)
  | [], e => by simp [insT]
  | q :: r, e => by
    unfold insT
    split
    · rw [List.map_cons, List.mem_cons, ins_key, List.map_cons, List.mem_cons]
      constructor <;> (rintro (h | h | h) <;> simp [h])
    · split
      · rename_i h0
        have := cmp_zero h0
        simp [this]
      · simp
theorem ins_rise {x : Tm} : ∀ {l : List Tm}, Rise l → Rise (insT x l)
  | [], _ => List.pairwise_singleton _ _
  | q :: r, h => by
    obtain ⟨h1, h2⟩ := List.pairwise_cons.1 h
    unfold insT
    split
    · rename_i hq
      refine List.pairwise_cons.2 ⟨fun t ht => ?_, ins_rise h2⟩
      have : t.2 ∈ (insT x r).map (·.2) := List.mem_map.2 ⟨t, ht, rfl⟩
      rcases ins_key.1 this with e | e
      · rw [e]; exact hq
      · obtain ⟨s, hs, e⟩ := List.mem_map.1 e
        rw [← e]; exact h1 s hs
    · split
      · rename_i h0
        have e := cmp_zero h0
        refine List.pairwise_cons.2 ⟨fun t ht => ?_, h2⟩
        show cmpE x.2 t.2 < 0
        rw [← e]; exact h1 t ht
      · rename_i hn h0
        have hx : cmpE x.2 q.2 < 0 := by rw [cmp_flip q.2 x.2]; have := cmp_three q.2 x.2; omega
        refine List.pairwise_cons.2 ⟨fun t ht => ?_, h⟩
        rcases List.mem_cons.1 ht with rfl | ht
        · exact hx
        · exact cmp_trans hx (h1 t ht)
theorem coll_rise (S : List Tm) : Rise (collT S) := by
  have : ∀ (S : List Tm) (l : List Tm), Rise l → Rise (S.foldl (fun l x => insT x l) l) := by
    intro S
    induction S with
    | nil => exact fun l h => h
    | cons x S ih => exact fun l h => ih _ (ins_rise h)
  exact this S [] List.Pairwise.nil
/-- What a list holds at a key: the sum. -/
theorem sumK_cons (q : Tm) (r : List Tm) (e : List Int) : sumK (q :: r) e = (if q.2 = e then q.1 else 0) + sumK r e := by
  unfold sumK
  by_cases h : q.2 = e
  · simp [h]
  · simp [h]
theorem ins_sum {x : Tm} : ∀ {l : List Tm} {e : List Int}, sumK (insT x l) e = sumK l e + if x.2 = e then x.1 else 0
  | [], e => by unfold insT; rw [sumK_cons]; simp [sumK]
  | q :: r, e => by
    unfold insT
    split
    · rw [sumK_cons, sumK_cons, ins_sum]; omega
    · split
      · rename_i h0
        have := cmp_zero h0
        rw [sumK_cons, sumK_cons]
        by_cases h : x.2 = e
        · rw [if_pos h, if_pos h, if_pos (this.trans h)]; omega
        · rw [if_neg h, if_neg h, if_neg (fun z => h (this ▸ z))]; omega
      · rw [sumK_cons]
        omega
theorem coll_sum (S : List Tm) (e : List Int) : sumK (collT S) e = sumK S e := by
  have : ∀ (S l : List Tm), sumK (S.foldl (fun l x => insT x l) l) e = sumK l e + sumK S e := by
    intro S
    induction S with
    | nil => intro l; simp [sumK]
    | cons x S ih =>
      intro l
      rw [List.foldl_cons, ih, ins_sum, sumK_cons]
      omega
  rw [collT, this]
  simp [sumK]
theorem coll_key (S : List Tm) (e : List Int) : e ∈ (collT S).map (·.2) ↔ e ∈ S.map (·.2) := by
  have : ∀ (S l : List Tm), e ∈ (S.foldl (fun l x => insT x l) l).map (·.2) ↔ e ∈ l.map (·.2) ∨ e ∈ S.map (·.2) := by
    intro S
    induction S with
    | nil => intro l; simp
    | cons x S ih =>
      intro l
      rw [List.foldl_cons, ih, ins_key, List.map_cons, List.mem_cons]
      constructor
      · rintro ((h | h) | h)
        · exact .inr (.inl h)
        · exact .inl h
        · exact .inr (.inr h)
      · rintro (h | h | h)
        · exact .inl (.inr h)
        · exact .inl (.inl h)
        · exact .inr h
  rw [collT, this]
  simp
theorem rise_sum : ∀ {l : List Tm}, Rise l → ∀ t ∈ l, sumK l t.2 = t.1
  | [], _, t, h => by simp at h
  | q :: r, h, t, ht => by
    obtain ⟨h1, h2⟩ := List.pairwise_cons.1 h
    rw [sumK_cons]
    rcases List.mem_cons.1 ht with rfl | ht
    · rw [if_pos rfl]
      have : sumK r t.2 = 0 := by
        unfold sumK
        rw [List.filter_eq_nil_iff.2 (fun s hs => by
          have := h1 s hs
          intro e
          have e := beq_iff_eq.1 e
          rw [e, cmp_self] at this
          omega)]
        rfl
      omega
    · have := h1 t ht
      rw [if_neg (fun e => by rw [e, cmp_self] at this; omega), rise_sum h2 t ht]
      omega
/-- Strictly rising lists with the same keys are one. -/
theorem rise_uniq : ∀ {a b : List (List Int)}, a.Pairwise (fun x y => cmpE x y < 0) → b.Pairwise (fun x y => cmpE x y < 0) → (∀ e, e ∈ a ↔ e ∈ b) → a = b
  | [], [], _, _, _ => rfl
  | [], y :: b, _, _, h => by have := (h y).2 (by simp); simp at this
  | x :: a, [], _, _, h => by have := (h x).1 (by simp); simp at this
  | x :: a, y :: b, ha, hb, h => by
    obtain ⟨a1, a2⟩ := List.pairwise_cons.1 ha
    obtain ⟨b1, b2⟩ := List.pairwise_cons.1 hb
    have irr : ∀ z : List Int, ¬ cmpE z z < 0 := fun z hz => by rw [cmp_self] at hz; omega
    have exy : x = y := by
      rcases List.mem_cons.1 ((h x).1 (by simp)) with e | e
      · exact e
      · rcases List.mem_cons.1 ((h y).2 (by simp)) with e' | e'
        · exact e'.symm
        · exact absurd (cmp_trans (a1 y e') (b1 x e)) (irr x)
    subst exy
    refine congrArg _ (rise_uniq a2 b2 fun e => ⟨fun he => ?_, fun he => ?_⟩)
    · rcases List.mem_cons.1 ((h e).1 (by simp [he])) with e1 | e1
      · subst e1; exact absurd (a1 e he) (irr e)
      · exact e1
    · rcases List.mem_cons.1 ((h e).2 (by simp [he])) with e1 | e1
      · subst e1; exact absurd (b1 e he) (irr e)
      · exact e1
/-- THE SORTED KEYS WITH THEIR SUMS ARE THE COLLECTED TERMS. -/
theorem keys_coll {S : List Tm} {ks : List (List Int)} (hS : ∀ t ∈ S, EV t.2) (hk : KeysE S ks) (hr : ks.Pairwise fun x y => cmpE x y < 0) : ks.map (fun e => (sumK S e, e)) = collT S := by
  have h1 : ks = (collT S).map (·.2) := by
    refine rise_uniq hr (List.pairwise_map.2 (coll_rise S)) fun e => ?_
    rw [coll_key]
    constructor
    · intro he
      have := (hk.2.2 e (hk.2.1 e he)).1 he
      rw [List.any_eq_true] at this
      obtain ⟨t, ht, e1⟩ := this
      exact List.mem_map.2 ⟨t, ht, beq_iff_eq.1 e1⟩
    · intro he
      obtain ⟨t, ht, e1⟩ := List.mem_map.1 he
      refine (hk.2.2 e (e1 ▸ hS t ht)).2 ?_
      rw [List.any_eq_true]
      exact ⟨t, ht, beq_iff_eq.2 e1⟩
  rw [h1, List.map_map]
  conv => rhs; rw [← List.map_id (collT S)]
  refine List.map_congr_left fun t ht => ?_
  show (sumK S t.2, t.2) = t
  rw [← coll_sum, rise_sum (coll_rise S) t ht]
end Go.Proofs.YthakeeinhgfbbaaGreat
