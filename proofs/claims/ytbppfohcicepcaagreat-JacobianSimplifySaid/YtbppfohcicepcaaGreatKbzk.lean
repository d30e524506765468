/-
  Iter Every Sqd Hull Map Made
-/
import Derived.Test.YtbppfohcicepcaaGreatKbd
import Derived.Test.YtbppfohcicepcaaGreatKbh
import Derived.Test.YtbppfohcicepcaaGreatKbi
import Derived.Test.YtbppfohcicepcaaGreatKbm
import Derived.Test.YtbppfohcicepcaaGreatKbx
import Derived.Test.YtbppfohcicepcaaGreatKbzf
import Derived.RangeFuncNested
import Derived.RangeFuncBound
import Derived.RangeFuncCalls
import Derived.RangeFuncLeaves
import Derived.Shelf.Abstract
import Derived.Shelf.RegionOpen
import Derived.WalkKit
import Derived.OwnWalkIn
import Derived.TacticsInMore
import Derived.LoopNIn
import Derived.LoopIn
import Derived.Maps.AppendAt
import Derived.Laws.MakeOwn
namespace Go.Proofs.YtbppfohcicepcaaGreat
open Go.ChangeShapes Go.WideShapes Go.ChangeAt Go.RowKit Go.Shelf
set_option linter.unusedVariables false
set_option linter.unusedSimpArgs false
set_option maxRecDepth 100000
attribute [local go_sem] Oper.semAt_some
/-- What a round keeps: what lay below n₀, and the two boxed slices. -/
def KpB (n₀ x y : Nat) (W W' : World) : Prop := Below n₀ W W' ∧ W'.heap[x]? = W.heap[x]? ∧ W'.heap[y]? = W.heap[y]?
theorem KpB.trans {n₀ x y : Nat} {A B C : World} (h : KpB n₀ x y A B) (k : KpB n₀ x y B C) : KpB n₀ x y A C := ⟨h.1.trans k.1, k.2.1.trans h.2.1, k.2.2.trans h.2.2⟩
theorem grown_below {W W' : World} (h : Below W.heap.size W W') : W.grownBy W' none := ⟨h.os, h.tape, h.output, h.size, fun k hk _ => h.block k hk⟩

end Go.Proofs.YtbppfohcicepcaaGreat
namespace Go.Proofs.YtbppfohcicepcaaGreat
open Go.ChangeShapes Go.WideShapes Go.ChangeAt Go.RowKit Go.Shelf
set_option linter.unusedVariables false
set_option linter.unusedSimpArgs false
set_option maxRecDepth 100000
attribute [local go_sem] Oper.semAt_some
end Go.Proofs.YtbppfohcicepcaaGreat
namespace Go.Proofs.YtbppfohcicepcaaGreat
open Go.ChangeShapes Go.WideShapes Go.ChangeAt Go.RowKit Go.Shelf
set_option linter.unusedVariables false
set_option linter.unusedSimpArgs false
set_option maxRecDepth 100000
attribute [local go_sem] Oper.semAt_some
def IvBox (W : World) (b : Nat) (p : Int × Int) : Prop := W.heap[b]? = some (.cells #[.int .i64 p.1, .int .i64 p.2] 26 (0, 0))
theorem IvBox.lt {W : World} {b : Nat} {p : Int × Int} (h : IvBox W b p) : b < W.heap.size := (Array.getElem?_eq_some_iff.1 h).1
theorem IvBox.new (W : World) (x y : Int) : IvBox (W.alloc (.cells #[.int .i64 x, .int .i64 y] 26)) W.heap.size (x, y) := World.alloc_heap_new W _
theorem IvBox.alloc {W : World} {b : Nat} {p : Int × Int} (h : IvBox W b p) (o : Obj) : IvBox (W.alloc o) b p := (Below.heap_alloc W o b h.lt).trans h
theorem IvBox.cell0 {W : World} {b : Nat} {p : Int × Int} (h : IvBox W b p) : W.cell? ⟨b, 0, none⟩ = some (.int .i64 p.1) := by simp [World.cell?, show W.heap[b]? = _ from h]
theorem IvBox.cell1 {W : World} {b : Nat} {p : Int × Int} (h : IvBox W b p) : W.cell? ⟨b, 1, none⟩ = some (.int .i64 p.2) := by simp [World.cell?, show W.heap[b]? = _ from h]
end Go.Proofs.YtbppfohcicepcaaGreat
namespace Go.Proofs.YtbppfohcicepcaaGreat
open Go.ChangeShapes Go.WideShapes Go.ChangeAt Go.RowKit Go.Shelf
set_option linter.unusedVariables false
set_option linter.unusedSimpArgs false
set_option maxRecDepth 100000
attribute [local go_sem] Oper.semAt_some
end Go.Proofs.YtbppfohcicepcaaGreat
namespace Go.Proofs.YtbppfohcicepcaaGreat
open Go.ChangeShapes Go.WideShapes Go.ChangeAt Go.RowKit Go.Shelf
set_option linter.unusedVariables false
set_option linter.unusedSimpArgs false
set_option maxRecDepth 100000
attribute [local go_sem] Oper.semAt_some
theorem cells_set {W : World} {b o : Nat} {cs : Array Value} {t : TypeId} {z : Nat × Nat} {u : Value} (h : W.heap[b]? = some (.cells cs t z)) : (W.setCell ⟨b, o, none⟩ u).heap[b]? = some (.cells (cs.setIfInBounds o u) t z) := by
  obtain ⟨hlt, hk⟩ := Array.getElem?_eq_some_iff.1 h
  show (W.heap.modify b _)[b]? = _
  rw [Array.getElem?_eq_getElem (by rw [Array.size_modify]; exact hlt), Array.getElem_modify_self, hk]
  rfl
theorem IvBox.set {W : World} {b : Nat} {p : Int × Int} (h : IvBox W b p) (x y : Int) : IvBox ((W.setCell ⟨b, 0, none⟩ (.int .i64 x)).setCell ⟨b, 1, none⟩ (.int .i64 y)) b (x, y) := by
  have h1 := cells_set (o := 1) (u := .int .i64 y) (cells_set (o := 0) (u := .int .i64 x) h)
  exact h1
theorem IvBox.frozen {W : World} {b : Nat} {p : Int × Int} (h : IvBox W b p) (o : Nat) : W.frozen? ⟨b, o, none⟩ = false := by simp [World.frozen?, show W.heap[b]? = _ from h]

def VB (p : Int × Int) : Prop := VI p.1 p.2
end Go.Proofs.YtbppfohcicepcaaGreat
namespace Go.Proofs.YtbppfohcicepcaaGreat
open Go.ChangeShapes Go.WideShapes Go.ChangeAt Go.RowKit Go.Shelf
set_option linter.unusedVariables false
set_option linter.unusedSimpArgs false
set_option maxRecDepth 100000
attribute [local go_sem] Oper.semAt_some
/-- The cells of a slice of intervals. -/
def cz : List (Int × Int) → List Value
  | [] => []
  | p :: l => .int .i64 p.1 :: .int .i64 p.2 :: cz l
theorem cz_app : ∀ (l m : List (Int × Int)), cz (l ++ m) = cz l ++ cz m
  | [], _ => rfl
  | p :: l, m => by simp [cz, cz_app l m]
theorem cz_get : ∀ (l : List (Int × Int)) (k : Nat) (x : Int × Int), l[k]? = some x → (cz l)[k * 2]? = some (.int .i64 x.1) ∧ (cz l)[k * 2 + 1]? = some (.int .i64 x.2)
  | [], k, x, h => by simp at h
  | p :: l, 0, x, h => by simp at h; subst h; simp [cz]
  | p :: l, k + 1, x, h => by
    have := cz_get l k x (by simpa using h)
    rw [show (k + 1) * 2 = k * 2 + 1 + 1 by omega]
    simpa [cz] using this
/-- A row of its own that holds intervals is a box. -/
theorem Bx.own {W : World} {B : Nat} {v : Value} {l : List (Int × Int)} (h : W.ownsRow B 26 2 v l.length (cz l)) (hl : l.length ≤ maxLen) : Bx W v l := by
  rcases h.2 with ⟨rfl, h0⟩ | ⟨g, cap, cur, rfl, hb, hg, hrest⟩
  · have : l = [] := List.length_eq_zero_iff.1 h0
    subst this
    exact Bx.nil
  · refine ⟨hl, _, cap, rfl, fun k x hx => ⟨g, 0, rfl, (Array.getElem?_eq_some_iff.1 hg).1, ?_, ?_⟩⟩
    · have hk := (List.getElem?_eq_some_iff.1 hx).1
      rw [Nat.zero_add, h.cellAt (k * 2) (by omega)]
      exact (cz_get l k x hx).1
    · have hk := (List.getElem?_eq_some_iff.1 hx).1
      rw [Nat.zero_add, h.cellAt (k * 2 + 1) (by omega)]
      exact (cz_get l k x hx).2
theorem info_iv : (Tryz.prog.info? 26).map (fun i => (i.zero, i.size, i.bytes)) = some (some (.agg #[.int .i64 0, .int .i64 0]), 2, 16) := by kernel_rfl
theorem two_new (w : World) (x y : Value) (t : TypeId) : ∀ j u, [x, y][j]? = some u → (w.alloc (.cells #[x, y] t)).cell? ((⟨w.heap.size, 0, none⟩ : Addr).add j) = some u := by
  intro j u hj
  match j, hj with
  | 0, hj => simp at hj; subst hj; simp [Addr.add]
  | 1, hj => simp at hj; subst hj; simp [Addr.add]
theorem two_one (x y : Int) : ∀ u ∈ [Value.int .i64 x, Value.int .i64 y], u.oneCell' = true := by
  intro u hu
  simp at hu
  rcases hu with rfl | rfl <;> rfl

/-- 'Boxed.appended' where the new elements lie in a block already. -/
theorem appended {W w1 : World} {n₀ B : Nat} {t e : TypeId} {size : Nat} {v v' : Value} {k m : Nat} {xs ys : List Value}
    (hv : Boxed W B t v) (hte : t ≠ e) (hrow : W.ownsRow n₀ e size v k xs) (hn₀ : n₀ ≤ W.heap.size) (hB : n₀ ≤ B)
    (hown' : w1.ownsRow n₀ e size v' m ys) (hgrow : W.grownBy w1 v.ownBlock) :
    Boxed w1 B t v ∧ Boxed (w1.setCell ⟨B, 0, none⟩ v') B t v' ∧ (w1.setCell ⟨B, 0, none⟩ v').ownsRow n₀ e size v' m ys ∧ KeepsOthers W (w1.setCell ⟨B, 0, none⟩ v') ∧ Below n₀ W (w1.setCell ⟨B, 0, none⟩ v') := by
  have hv1 : Boxed w1 B t v := hv.kept hgrow (hv.not_row hte hrow)
  refine ⟨hv1, hv1.set v', hown'.kept (grownBy_setCell' w1 B v') (.inr (hv1.not_row hte hown').symm), ?_, ?_⟩
  · refine (KeepsOthers.of_grownBy hgrow fun j o ej hj => ?_).trans (KeepsOthers.setCell _ _ _)
    rcases hrow.2 with ⟨rfl, _⟩ | ⟨g, cap, cur, rfl, _, hgb, _⟩
    · simp [Value.ownBlock] at ej
    · obtain rfl : g = j := by simpa [Value.ownBlock] using ej
      rw [hgb] at hj; cases hj; rfl
  · refine ((Below.refl n₀ W).grown hgrow hn₀ fun j ej => ?_).setCell (p := ⟨B, 0, none⟩) hB v'
    rcases hrow.2 with ⟨rfl, _⟩ | ⟨g, cap, cur, rfl, hb, _, _⟩
    · simp [Value.ownBlock] at ej
    · obtain rfl : g = j := by simpa [Value.ownBlock] using ej
      exact hb

end Go.Proofs.YtbppfohcicepcaaGreat
namespace Go.Proofs.YtbppfohcicepcaaGreat
open Go.ChangeShapes Go.WideShapes Go.ChangeAt Go.RowKit
set_option linter.unusedVariables false
set_option linter.unusedSimpArgs false
set_option maxRecDepth 100000
/-- The cells of a slice of numbers. -/
def cy : List Int → List Value := List.map (Value.int .i64)
theorem Pt.own {W : World} {B : Nat} {v : Value} {l : List Int} (h : W.ownsRow B 2 1 v l.length (cy l)) (hl : l.length ≤ maxLen) : Pt W v l := by
  rcases h.2 with ⟨rfl, h0⟩ | ⟨g, cap, cur, rfl, hb, hg, hrest⟩
  · have : l = [] := List.length_eq_zero_iff.1 h0
    subst this
    exact ⟨by simp, none, 0, rfl, fun k x h => by simp at h⟩
  · refine ⟨hl, _, cap, rfl, fun k x hx => ⟨g, 0, rfl, (Array.getElem?_eq_some_iff.1 hg).1, ?_⟩⟩
    have hk := (List.getElem?_eq_some_iff.1 hx).1
    rw [Nat.zero_add, h.cellAt k (by omega)]
    simp [cy, hx]
end Go.Proofs.YtbppfohcicepcaaGreat
namespace Go.Proofs.YtbppfohcicepcaaGreat
open Go.ChangeShapes Go.WideShapes Go.ChangeAt Go.RowKit
set_option linter.unusedVariables false
set_option linter.unusedSimpArgs false
set_option maxRecDepth 100000
attribute [local irreducible] Calls
/-- A slice of the call's own. -/
def OwnB (B : Nat) (w : World) (v : Value) (l : List (Int × Int)) : Prop := ∃ g cap, v = .slice (some ⟨g, 0, none⟩) l.length cap ∧ w.ownsRow B 26 2 v l.length (cz l)
theorem cz_snoc (l : List (Int × Int)) (x y : Int) : cz (l ++ [(x, y)]) = cz l ++ [.int .i64 x, .int .i64 y] := by rw [cz_app]; rfl
theorem grownBy_setCell'' (W : World) (b o : Nat) (v : Value) : W.grownBy (W.setCell ⟨b, o, none⟩ v) (some b) :=
  ⟨rfl, rfl, rfl, by simp [World.setCell], fun k _ hk => Below.heap_setCell _ _ _ k (fun e => hk (by rw [e]))⟩
theorem vb_zero : VB (0, 0) := .inr ⟨⟨by decide, by decide⟩, ⟨by decide, by decide⟩, by decide⟩

set_option maxHeartbeats 4000000 in
theorem r3made (v : Value) (l : List (Int × Int)) (n : Nat) (w : World) (hv : Bx w v l) (hn : n ≤ 6) (hb : ∀ p ∈ l, (-9223372036854775808 ≤ p.1 ∧ p.1 ≤ 9223372036854775807) ∧ -9223372036854775808 ≤ p.2 ∧ p.2 ≤ 9223372036854775807) :
    Calls Tryz.prog 12 #[v, .int .i64 n] w fun e w' => ∃ u m, e = .returned u ∧ m.length = n ∧ (∀ p ∈ m, VB p) ∧ Bx w' u m ∧ Below w.heap.size w w' := by
  obtain ⟨hl, p, c, rfl, hp⟩ := hv
  unfold maxLen at hl
  obtain ⟨i0, hi, hz0, hz1, hz2⟩ := info_parts info_iv
  have HB0 := Lib.hid hb
  clear hb
  go_enter Tryz.func12, Tryz.ntmps12
  go_wp2_with (fail)
  go_loopw [5, 6] (fun u i wr => ∃ m : List (Int × Int), i = .int .i64 m.length ∧ m.length ≤ n ∧ Hid (∀ p ∈ m, VB p) ∧ OwnB w.heap.size wr u m ∧ Below w.heap.size w wr) (fun _ i _ => n - (intOf i).toNat)
  case atStart => exact ⟨[], rfl, Nat.zero_le _, Lib.hid (by simp), ⟨w.heap.size, 0, rfl, by simpa [cz] using World.ownsRow_made (e := 26) (size := 2) w #[] 0 (Nat.le_refl _) (by decide) rfl⟩, (Below.refl _ _).alloc (Nat.le_refl _) _⟩
  case round =>
    obtain ⟨m, rfl, hm, hV, ⟨g, cap, rfl, hown⟩, hB⟩ := hrel
    have hsz := hB.size
    by_cases hlt : m.length < n
    · have hli : (m.length : Int) < n := by omega
      by_cases hk : m.length < l.length
      · obtain ⟨b, o, x, y, rfl, hx, hbb, c1, c2⟩ := Bx.at (c := 0) (n := 0) hp hk hB
        have hbw : b < wr.heap.size := Nat.lt_of_lt_of_le hbb hB.size
        have hki : (m.length : Int) < l.length := by omega
        have hbd := HB0.out _ (List.mem_of_getElem? hx)
        obtain ⟨q, r, hqr, cm⟩ := r2made x y hbd.1.1 hbd.1.2 hbd.2.1 hbd.2.2
        have HQ := Lib.hid hqr
        clear hp hx hbd hqr
        go_wp2_with (fail)
        refine (cm _).mono ?_
        rintro e w5 ⟨rfl, hB5⟩
        have hI : IvBox w5 wr.heap.size (0, 0) := (hB5.block _ (IvBox.new wr 0 0).lt).trans (IvBox.new wr 0 0)
        have hrow5 := (hown.alloc (.cells #[.int .i64 0, .int .i64 0] 26)).kept (grown_below hB5) (.inr (by simp [Value.ownBlock]))
        have hgw := (hown.lt g rfl).2
        have hB6 : Below w.heap.size w w5 := (hB.alloc hB.size _).trans (hB5.mono (by simp; omega))
        have hrow6 := (hrow5.kept (grownBy_setCell' w5 wr.heap.size (.int .i64 q)) (.inr (by simp [Value.ownBlock]; omega)))
        have i0' := hI.cell0
        have i1' := hI.cell1
        have j0 := hI.frozen 0
        have j1 := hI.frozen 1
        dsimp only at i0' i1'
        have hrow7 := (hrow6.kept (grownBy_setCell'' _ wr.heap.size 1 (.int .i64 r)) (.inr (by simp [Value.ownBlock]; omega)))
        have hg5 : w.heap.size ≤ w5.heap.size := hB6.size
        go_wp2_with (at_builtin; refine wpList_append_own _ rfl (.tmp 24) (.tmp 26) 24 rfl w.heap.size 26 i0 (.agg #[.int .i64 0, .int .i64 0]) 2 16 Tryz.underlying24 hi hz0 hz1 hz2 rfl (by decide) (.slice (some ⟨g, 0, none⟩) m.length cap) m.length _ rfl (hrow7.alloc _) ⟨w5.heap.size, 0, none⟩ 1 1 [.int .i64 q, .int .i64 r] rfl rfl ?_ (two_one _ _) (by unfold maxLen; omega) (by omega) (by simp; omega) ?_)
        · have := two_new ((w5.setCell ⟨wr.heap.size, 0, none⟩ (.int .i64 q)).setCell ⟨wr.heap.size, 1, none⟩ (.int .i64 r)) (.int .i64 q) (.int .i64 r) 26
          simpa using this
        intro v' w6 hown' hgrow _
        obtain ⟨g', cap', rfl⟩ := ownsRow_succ hown'
        have hB9 : Below w.heap.size w w6 := Below.grown (((hB6.setCell (p := ⟨wr.heap.size, 0, none⟩) hsz _).setCell (p := ⟨wr.heap.size, 1, none⟩) hsz _).alloc (by simp; omega) _) hgrow (by simp; omega) (fun k hk => (hown.lt k hk).1)
        rw [← cz_snoc] at hown'
        have HO := Lib.hid hown'
        clear hown' hgrow
        go_wp2_with (fail)
        go_roundw
        case rel =>
          refine ⟨m ++ [(q, r)], by simp, by simp; omega, Lib.hid (fun p hp => ?_), ⟨g', cap', by simp, by simpa using HO.out⟩, hB9⟩
          rcases List.mem_append.1 hp with h | h
          · exact hV.out p h
          · rw [List.mem_singleton.1 h]
            exact HQ.out
        case measure => simp [intOf]; omega
      · have hki : (l.length : Int) ≤ m.length := by omega
        have hI : IvBox (wr.alloc (.cells #[.int .i64 0, .int .i64 0] 26)) wr.heap.size (0, 0) := IvBox.new wr 0 0
        have hgw := (hown.lt g rfl).2
        have hrow5 := hown.alloc (.cells #[.int .i64 0, .int .i64 0] 26)
        have i0' := hI.cell0
        have i1' := hI.cell1
        dsimp only at i0' i1'
        go_wp2_with (at_builtin; refine wpList_append_own _ rfl (.tmp 24) (.tmp 26) 24 rfl w.heap.size 26 i0 (.agg #[.int .i64 0, .int .i64 0]) 2 16 Tryz.underlying24 hi hz0 hz1 hz2 rfl (by decide) (.slice (some ⟨g, 0, none⟩) m.length cap) m.length _ rfl (hrow5.alloc _) ⟨wr.heap.size + 1, 0, none⟩ 1 1 [.int .i64 0, .int .i64 0] rfl rfl ?_ (two_one _ _) (by unfold maxLen; omega) (by omega) (by simp; omega) ?_)
        · have := two_new (wr.alloc (.cells #[.int .i64 0, .int .i64 0] 26)) (.int .i64 0) (.int .i64 0) 26
          simpa using this
        intro v' w6 hown' hgrow _
        obtain ⟨g', cap', rfl⟩ := ownsRow_succ hown'
        have hB9 : Below w.heap.size w w6 := Below.grown ((hB.alloc hsz _).alloc (by simp; omega) _) hgrow (by simp; omega) (fun k hk => (hown.lt k hk).1)
        rw [← cz_snoc] at hown'
        have HO := Lib.hid hown'
        clear hown' hgrow
        go_wp2_with (fail)
        go_roundw
        case rel =>
          refine ⟨m ++ [(0, 0)], by simp, by simp; omega, Lib.hid (fun p hp => ?_), ⟨g', cap', by simp, by simpa using HO.out⟩, hB9⟩
          rcases List.mem_append.1 hp with h | h
          · exact hV.out p h
          · rw [List.mem_singleton.1 h]
            exact vb_zero
        case measure => simp [intOf]; omega
    · obtain hmn : m.length = n := by omega
      have hln : (m.length : Int) = n := by omega
      subst hmn
      go_wp2_with (fail)
      go_ret
      exact ⟨_, rfl, m, rfl, fun a b h => hV.out (a, b) h, Bx.own hown (by unfold maxLen; omega), hB⟩
end Go.Proofs.YtbppfohcicepcaaGreat
