/-
  maps.Keys of a map keyed by six bytes: the iterator.
-/
import Derived.RangeFuncNested
import Derived.RangeFuncBound
import Derived.RangeFuncCalls
import Derived.RangeFuncLeaves
import Derived.RangeFuncGives
import Derived.Shelf.Abstract
import Derived.Shelf.RegionOpen
import Derived.Sort.MapsRangeIn
import Derived.WalkKit
import Derived.OwnWalkIn
import Derived.TacticsInMore
import Derived.RegionIn
import Derived.LoopNIn
import Derived.LoopIn
import Derived.Test.YtcamjoddaeefdaaKy
import Derived.Test.YtcamjoddaeefdaaKit
namespace Go.Proofs.Ytcamjoddaeefdaa
open Go.ChangeShapes Go.WideShapes Go.ChangeAt Go.RowKit Go.Shelf Go.Maps
set_option linter.unusedVariables false
set_option linter.unusedSimpArgs false
set_option maxRecDepth 100000
attribute [local go_sem] Oper.semAt_some

/-- Six exponents, each a byte. -/
abbrev E6 := { e : List Int // EV e }
/-- All keys have come, each once. -/
def KeysD (D : DataW Unit) (xs : List E6) : Prop := ((xs.map Subtype.val).Nodup ∧ ∀ e, EV e → (e ∈ xs.map Subtype.val ↔ Maps.has D (kl6 e) = true)) ∧ xs.length ≤ Maps.size D
def CollS (D : DataW Unit) (left : Lit → Bool) (xs : List E6) : Prop := CollE D left (xs.map Subtype.val)
theorem CollS.step {D : DataW Unit} {left : Lit → Bool} {ks : List E6} (h : CollS D left ks) (x : E6) {y : DataW Unit} (hlk : left (kl6 x.1) = true) (hat : ∀ zd, D.atKey (kl6 x.1) zd = y) : CollS D (fun z => left z && !z.sameKey (kl6 x.1)) (ks ++ [x]) := by
  unfold CollS
  rw [List.map_append]
  exact CollE.step h x.2 hlk hat
theorem CollS.all {D : DataW Unit} {left : Lit → Bool} {ks : List E6} (h : CollS D left ks) (hl : ∀ kl, left kl = false) (hz : ks.length ≤ Maps.size D) : KeysD D ks :=
  ⟨⟨h.1, fun e he => by rw [h.2.2 e he, hl]; simp⟩, hz⟩
set_option maxHeartbeats 4000000 in
theorem keys1_in (n : Nat) (hn : 1 ≤ n) (l Bm b nn : Nat) (D0 : DataW Unit) (J Jx : List E6 → World → Prop)
    (hY : ∀ pre x W, J pre W → pre.length < Maps.size D0 → YieldAt Fence.wide (n - 1) Try.prog l #[valE x.1] W fun e W' => (e = .returned (.bool true) ∧ J (pre ++ [x]) W' ∧ KeepsWalks W W') ∨ (e = .returned (.bool false) ∧ Jx (pre ++ [x]) W'))
    (W : World) (hJ : AbidesFrom W.heap.size J) (hm : W.cell? ⟨Bm, 0, none⟩ = some (.map (some b))) (hown : W.ownsMap Try.prog 37 (plainElem Try.prog 2) b nn D0) (h0 : J [] W) :
    CallsIn Fence.wide n Try.prog 79 #[.func (.yield l) #[] #[], .pointer (some ⟨Bm, 0, none⟩)] W fun e W' => (∃ v, e = .returned v) ∧ ((∃ xs, KeysD D0 xs ∧ J xs W') ∨ (∃ pre, True ∧ Jx pre W')) := by
  refine callsIn_of_wp Try.func79 rfl trivial ?_ rfl
  simp only [Try.ntmps79, List.size_toArray, List.length_cons, List.length_nil, Nat.reduceAdd, Nat.reduceSub, Array.replicate_succ, Array.replicate_zero, List.push_toArray, List.append_toArray, List.nil_append, List.cons_append]
  gi_wp2_with (first
    | (gi_at_range; refine wpListIn_range_own _ rfl _ 82 rfl 37 2 law6 Try.underlying82 _ b nn _ rfl hown ?_; intro w0 hrg0 hg0 hs0)
    | gi_in)
  go_frame
  gi_loopw [3] (fun _ wr => ∃ (left : Lit → Bool) (cnt : Nat) (ss : List E6), wr.ranges Try.prog 37 (plainElem Try.prog 2) b W.heap.size nn D0 left cnt ∧ ss.length + cnt ≤ Maps.size D0 ∧ CollS D0 left ss ∧ J ss wr)
    (fun _ wr => wr.rangeLeft b W.heap.size)
  case atStart =>
    exact ⟨_, _, [], hrg0, by simp, CollE.start D0, hJ [] W w0 none h0 hg0 (fun r e => by cases e)⟩
  case round =>
    obtain ⟨left, cnt, ss, hrg, hcs, hC, hJs⟩ := hrel
    gi_wp2_with (first
      | (gi_at_next; refine wpListIn_next_ranges _ rfl _ rfl 37 law6 (plainElem Try.prog 2) valE id (fun key kl hk => by obtain ⟨x, _, hx, _⟩ := key6_inv hk; exact ⟨x, hx⟩) (fun v _ _ => ⟨v, rfl⟩) b W.heap.size nn _ _ _ rfl hrg ?_ ?_)
      | gi_in)
    · intro hc0 hl0
      gi_wp2
      go_end0
      exact ⟨⟨_, rfl⟩, .inl ⟨ss, hC.all hl0 (by omega), hJs⟩⟩
    · intro x c kl yd yp w2 cnt2 hkey hlk hv hat hrg2 hlt hg2 hs2 hen
      obtain ⟨x', hEV, ex, rfl⟩ := key6_inv hkey
      obtain rfl := valE_inj ex
      obtain ⟨a0, a1, a2, a3, a4, a5, rfl⟩ := six_of hEV
      have hJ2 : J ss w2 := hJ ss wr w2 (some W.heap.size) hJs hg2 (fun r e => by cases e; exact ⟨Nat.le_refl _, hrg.iter_walk⟩)
      have hJ3 : J ss (w2.alloc (.cells #[.int .u8 a0, .int .u8 a1, .int .u8 a2, .int .u8 a3, .int .u8 a4, .int .u8 a5] 37)) := hJ ss w2 _ none hJ2 (World.grownBy_alloc _ _ _) (fun r e => by cases e)
      obtain ⟨fn, tmps, assign, body, hy, hR⟩ := hY ss ⟨[a0, a1, a2, a3, a4, a5], hEV⟩ _ hJ3 (by omega)
      rw [show valE [a0, a1, a2, a3, a4, a5] = .agg #[.int .u8 a0, .int .u8 a1, .int .u8 a2, .int .u8 a3, .int .u8 a4, .int .u8 a5] from rfl] at hen
      dsimp only at hy
      rw [show valE [a0, a1, a2, a3, a4, a5] = .agg #[.int .u8 a0, .int .u8 a1, .int .u8 a2, .int .u8 a3, .int .u8 a4, .int .u8 a5] from rfl] at hy
      have hrg3 := hrg2.alloc (.cells #[.int .u8 a0, .int .u8 a1, .int .u8 a2, .int .u8 a3, .int .u8 a4, .int .u8 a5] 37)
      have HC := Lib.hid (hC.step ⟨[a0, a1, a2, a3, a4, a5], hEV⟩ hlk hat)
      have HE := Lib.hid hEV
      rw [show valE [a0, a1, a2, a3, a4, a5] = .agg #[.int .u8 a0, .int .u8 a1, .int .u8 a2, .int .u8 a3, .int .u8 a4, .int .u8 a5] from rfl]
      clear hs2 hC hlk hat hkey hJ2 hJ3 hJs hv ex HE
      gi_wp2
      refine hR.mono ?_
      rintro e W3 (⟨rfl, hJ3, hk3⟩ | ⟨rfl, hJx3⟩)
      · gi_wp2
        have hrg4 := hrg3.of_walks hk3
        go_roundw
        case rel => exact ⟨_, cnt2, _, hrg4, by simp; omega, HC.out, hJ3⟩
        case measure => rw [hrg4.left_eq, hrg.left_eq]; exact hlt
      · gi_wp2
        refine bodyPost_ret (results_none rfl _ _ _) rfl ?_
        exact ⟨⟨_, rfl⟩, .inr ⟨_, trivial, hJx3⟩⟩
/-- maps.Keys(m) hands back an iterator over the keys. -/
theorem keys_stops (n : Nat) (hn : 1 ≤ n) (Bm b nn : Nat) (D0 : DataW Unit) (w : World) (hBm : Bm < w.heap.size) (hm : w.cell? ⟨Bm, 0, none⟩ = some (.map (some b))) (hown : w.ownsMap Try.prog 37 (plainElem Try.prog 2) b nn D0) :
    SeqStopsK Fence.wide n Try.prog 79 #[.pointer (some ⟨Bm, 0, none⟩)] (fun x : E6 => #[valE x.1]) KeepsWalks (KeysD D0) (fun _ => True) (Maps.size D0) w := fun l J Jx W hW hJ _ hY h0 => by
  have hown' : W.ownsMap Try.prog 37 (plainElem Try.prog 2) b nn D0 := by
    have hbl := hown.lt
    obtain ⟨es, clock, hb, Ft, hs, hD⟩ := hown
    exact ⟨es, clock, (hW.block b hbl).trans hb, Ft, hs, hD⟩
  exact keys1_in n hn l Bm b nn D0 J Jx hY W hJ ((hW.cell (p := ⟨Bm, 0, none⟩) hBm).trans hm) hown' h0
theorem keys_in (n : Nat) (mb : Option Nat) (w : World) :
    CallsIn Fence.wide n Try.prog 65 #[.map mb] w fun e w' => e = .returned (.func (.func 79) #[] #[.pointer (some ⟨w.heap.size, 0, none⟩)]) ∧ w' = w.alloc (.cells #[.map mb] 82) := by
  refine callsIn_of_wp Try.func65 rfl trivial ?_ rfl
  simp only [Try.ntmps65, List.size_toArray, List.length_cons, List.length_nil, Nat.reduceAdd, Nat.reduceSub, Array.replicate_succ, Array.replicate_zero, List.push_toArray, List.append_toArray, List.nil_append, List.cons_append]
  gi_wp2
  go_ret
  exact ⟨rfl, rfl⟩
theorem size_own {w : World} {b n : Nat} {D : DataW Unit} (h : w.ownsMap Try.prog 37 (plainElem Try.prog 2) b n D) : Maps.size D ≤ n := by
  obtain ⟨es, clock, hb, F, hs, rfl⟩ := h
  rw [Maps.size_eq, length_sorted]
  simpa using hs
theorem keysD_all {D : DataW Unit} {xs : List E6} {S : List Tm} (h : KeysD D xs) (hM : MapIs D S) : KeysE S (xs.map Subtype.val) :=
  ⟨h.1.1, fun e he => by obtain ⟨x, _, rfl⟩ := List.mem_map.1 he; exact x.2, fun e he => by rw [h.1.2 e he, hM.has e he]⟩
end Go.Proofs.Ytcamjoddaeefdaa
