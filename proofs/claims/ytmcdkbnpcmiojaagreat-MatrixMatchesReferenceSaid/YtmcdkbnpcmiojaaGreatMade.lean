/-
  The reference's Made: a valid box out of whatever intervals.
-/
import Derived.Test.YtmcdkbnpcmiojaaGreatMap
import Derived.Test.YtmcdkbnpcmiojaaGreatR1
namespace Go.Proofs.YtmcdkbnpcmiojaaGreat
open Go.ChangeShapes Go.WideShapes Go.ChangeAt Go.RowKit
set_option linter.unusedVariables false
set_option linter.unusedSimpArgs false
set_option maxRecDepth 100000
attribute [local irreducible] Calls

/-- A slice of the call's own. -/
def OwnB (B : Nat) (w : World) (v : Value) (l : List (Int × Int)) : Prop := ∃ g cap, v = .slice (some ⟨g, 0, none⟩) l.length cap ∧ w.ownsRow B 48 2 v l.length (cz l)
theorem cz_snoc (l : List (Int × Int)) (x y : Int) : cz (l ++ [(x, y)]) = cz l ++ [.int .i64 x, .int .i64 y] := by rw [cz_app]; rfl
theorem grownBy_setCell'' (W : World) (b o : Nat) (v : Value) : W.grownBy (W.setCell ⟨b, o, none⟩ v) (some b) :=
  ⟨rfl, rfl, rfl, by simp [World.setCell], fun k _ hk => Below.heap_setCell _ _ _ k (fun e => hk (by rw [e]))⟩
theorem vb_zero : VB (0, 0) := .inr ⟨⟨by decide, by decide⟩, ⟨by decide, by decide⟩, by decide⟩

set_option maxHeartbeats 4000000 in
theorem r3made (v : Value) (l : List (Int × Int)) (n : Nat) (w : World) (hv : Bx w v l) (hn : n ≤ 6) (hb : ∀ p ∈ l, (-9223372036854775808 ≤ p.1 ∧ p.1 ≤ 9223372036854775807) ∧ -9223372036854775808 ≤ p.2 ∧ p.2 ≤ 9223372036854775807) :
    Calls Tryz.prog 34 #[v, .int .i64 n] w fun e w' => ∃ u m, e = .returned u ∧ m.length = n ∧ (∀ p ∈ m, VB p) ∧ Bx w' u m ∧ Below w.heap.size w w' := by
  obtain ⟨hl, p, c, rfl, hp⟩ := hv
  unfold maxLen at hl
  obtain ⟨i0, hi, hz0, hz1, hz2⟩ := info_parts info_iv
  have HB0 := Lib.hid hb
  clear hb
  go_enter Tryz.func34, Tryz.ntmps34
  go_wp2_with (fail)
  go_loopw [5, 6] (fun u i wr => ∃ m : List (Int × Int), i = .int .i64 m.length ∧ m.length ≤ n ∧ Hid (∀ p ∈ m, VB p) ∧ OwnB w.heap.size wr u m ∧ Below w.heap.size w wr) (fun _ i _ => n - (intOf i).toNat)
  case atStart => exact ⟨[], rfl, Nat.zero_le _, Lib.hid (by simp), ⟨w.heap.size, 0, rfl, by simpa [cz] using World.ownsRow_made (e := 48) (size := 2) w #[] 0 (Nat.le_refl _) (by decide) rfl⟩, (Below.refl _ _).alloc (Nat.le_refl _) _⟩
  case round =>
    obtain ⟨m, rfl, hm, hV, ⟨g, cap, rfl, hown⟩, hB⟩ := hrel
    have hsz := hB.size
    by_cases hlt : m.length < n
    · have hli : (m.length : Int) < n := by omega
      by_cases hk : m.length < l.length
      · obtain ⟨b, o, x, y, rfl, hx, hbb, c1, c2⟩ := Bx.at (c := 0) (n := 0) hp hk hB
        have hbw : b < wr.heap.size := Nat.lt_of_lt_of_le hbb hB.size
        have hki : (m.length : Int) < l.length := by omega
        have hbd := HB0.out _ (List.mem_of_getElem? hx)
        obtain ⟨q, r, hqr, cm⟩ := r2made x y hbd.1.1 hbd.1.2 hbd.2.1 hbd.2.2
        have HQ := Lib.hid hqr
        clear hp hx hbd hqr
        go_wp2_with (fail)
        refine (cm _).mono ?_
        rintro e w5 ⟨rfl, hB5⟩
        have hI : IvBox w5 wr.heap.size (0, 0) := (hB5.block _ (IvBox.new wr 0 0).lt).trans (IvBox.new wr 0 0)
        have hrow5 := (hown.alloc (.cells #[.int .i64 0, .int .i64 0] 48)).kept (grown_below hB5) (.inr (by simp [Value.ownBlock]))
        have hgw := (hown.lt g rfl).2
        have hB6 : Below w.heap.size w w5 := (hB.alloc hB.size _).trans (hB5.mono (by simp; omega))
        have hrow6 := (hrow5.kept (grownBy_setCell' w5 wr.heap.size (.int .i64 q)) (.inr (by simp [Value.ownBlock]; omega)))
        have i0' := hI.cell0
        have i1' := hI.cell1
        have j0 := hI.frozen 0
        have j1 := hI.frozen 1
        dsimp only at i0' i1'
        have hrow7 := (hrow6.kept (grownBy_setCell'' _ wr.heap.size 1 (.int .i64 r)) (.inr (by simp [Value.ownBlock]; omega)))
        have hg5 : w.heap.size ≤ w5.heap.size := hB6.size
        go_wp2_with (at_builtin; refine wpList_append_own _ rfl (.tmp 24) (.tmp 26) 22 rfl w.heap.size 48 i0 (.agg #[.int .i64 0, .int .i64 0]) 2 16 Tryz.underlying22 hi hz0 hz1 hz2 rfl (by decide) (.slice (some ⟨g, 0, none⟩) m.length cap) m.length _ rfl (hrow7.alloc _) ⟨w5.heap.size, 0, none⟩ 1 1 [.int .i64 q, .int .i64 r] rfl rfl ?_ (two_one _ _) (by unfold maxLen; omega) (by omega) (by simp; omega) ?_)
        · have := two_new ((w5.setCell ⟨wr.heap.size, 0, none⟩ (.int .i64 q)).setCell ⟨wr.heap.size, 1, none⟩ (.int .i64 r)) (.int .i64 q) (.int .i64 r) 48
          simpa using this
        intro v' w6 hown' hgrow _
        obtain ⟨g', cap', rfl⟩ := ownsRow_succ hown'
        have hB9 : Below w.heap.size w w6 := Below.grown (((hB6.setCell (p := ⟨wr.heap.size, 0, none⟩) hsz _).setCell (p := ⟨wr.heap.size, 1, none⟩) hsz _).alloc (by simp; omega) _) hgrow (by simp; omega) (fun k hk => (hown.lt k hk).1)
        rw [← cz_snoc] at hown'
        have HO := Lib.hid hown'
        clear hown' hgrow
        go_wp2_with (fail)
        go_roundw
        case rel =>
          refine ⟨m ++ [(q, r)], by simp, by simp; omega, Lib.hid (fun p hp => ?_), ⟨g', cap', by simp, by simpa using HO.out⟩, hB9⟩
          rcases List.mem_append.1 hp with h | h
          · exact hV.out p h
          · rw [List.mem_singleton.1 h]
            exact HQ.out
        case measure => simp [intOf]; omega
      · have hki : (l.length : Int) ≤ m.length := by omega
        have hI : IvBox (wr.alloc (.cells #[.int .i64 0, .int .i64 0] 48)) wr.heap.size (0, 0) := IvBox.new wr 0 0
        have hgw := (hown.lt g rfl).2
        have hrow5 := hown.alloc (.cells #[.int .i64 0, .int .i64 0] 48)
        have i0' := hI.cell0
        have i1' := hI.cell1
        dsimp only at i0' i1'
        go_wp2_with (at_builtin; refine wpList_append_own _ rfl (.tmp 24) (.tmp 26) 22 rfl w.heap.size 48 i0 (.agg #[.int .i64 0, .int .i64 0]) 2 16 Tryz.underlying22 hi hz0 hz1 hz2 rfl (by decide) (.slice (some ⟨g, 0, none⟩) m.length cap) m.length _ rfl (hrow5.alloc _) ⟨wr.heap.size + 1, 0, none⟩ 1 1 [.int .i64 0, .int .i64 0] rfl rfl ?_ (two_one _ _) (by unfold maxLen; omega) (by omega) (by simp; omega) ?_)
        · have := two_new (wr.alloc (.cells #[.int .i64 0, .int .i64 0] 48)) (.int .i64 0) (.int .i64 0) 48
          simpa using this
        intro v' w6 hown' hgrow _
        obtain ⟨g', cap', rfl⟩ := ownsRow_succ hown'
        have hB9 : Below w.heap.size w w6 := Below.grown ((hB.alloc hsz _).alloc (by simp; omega) _) hgrow (by simp; omega) (fun k hk => (hown.lt k hk).1)
        rw [← cz_snoc] at hown'
        have HO := Lib.hid hown'
        clear hown' hgrow
        go_wp2_with (fail)
        go_roundw
        case rel =>
          refine ⟨m ++ [(0, 0)], by simp, by simp; omega, Lib.hid (fun p hp => ?_), ⟨g', cap', by simp, by simpa using HO.out⟩, hB9⟩
          rcases List.mem_append.1 hp with h | h
          · exact hV.out p h
          · rw [List.mem_singleton.1 h]
            exact vb_zero
        case measure => simp [intOf]; omega
    · obtain hmn : m.length = n := by omega
      have hln : (m.length : Int) = n := by omega
      subst hmn
      go_wp2_with (fail)
      go_ret
      exact ⟨_, rfl, m, rfl, fun a b h => hV.out (a, b) h, Bx.own hown (by unfold maxLen; omega), hB⟩
end Go.Proofs.YtmcdkbnpcmiojaaGreat
