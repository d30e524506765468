/-
  The reference's Inflate.
-/
import Derived.Test.YtpepgheocemjdaaR3B
namespace Go.Proofs.Ytpepgheocemjdaa
open Go.ChangeShapes Go.WideShapes Go.ChangeAt Go.RowKit
set_option linter.unusedVariables false
set_option linter.unusedSimpArgs false
set_option maxRecDepth 100000

attribute [local irreducible] Calls
theorem IvBox.to {W W' : World} {b : Nat} {p : Int × Int} (h : IvBox W b p) (hB : Below W.heap.size W W') : IvBox W' b p := (hB.block b h.lt).trans h
set_option maxHeartbeats 8000000 in
theorem r3infl (v : Value) (l : List (Int × Int)) (d : Int) (w : World) (hv : Bx w v l) (hsm : l.length ≤ 1000) (hd0 : 0 ≤ d) (hd1 : d ≤ 4294967296) (hV : ∀ p ∈ l, VB p) :
    Calls Try.prog 43 #[v, .int .i64 d] w fun e w' => ∃ u, e = .returned u ∧ Bx w' u (l.map (inflI d)) ∧ Below w.heap.size w w' := by
  obtain ⟨i0, hi, hz0, hz1, hz2⟩ := info_parts info_iv
  obtain ⟨p, c, rfl⟩ := hv.cut
  have HA := Lib.hid hv
  have HV := Lib.hid hV
  clear hv hV
  go_enter Try.func43, Try.ntmps43
  go_wp2_with (fail)
  go_loopw [5, 6] (fun u i wr => ∃ m : List (Int × Int), i = .int .i64 m.length ∧ m.length ≤ l.length ∧ Hid (m = (l.map (inflI d)).take m.length) ∧ OwnB w.heap.size wr u m ∧ Below w.heap.size w wr) (fun _ i _ => l.length - (intOf i).toNat)
  case atStart => exact ⟨[], rfl, Nat.zero_le _, Lib.hid (by simp), ⟨w.heap.size, 0, rfl, by simpa [cz] using World.ownsRow_made (e := 23) (size := 2) w #[] 0 (Nat.le_refl _) (by decide) rfl⟩, (Below.refl _ _).alloc (Nat.le_refl _) _⟩
  case round =>
    obtain ⟨m, rfl, hm, HT, ⟨g, cap, rfl, hown⟩, hB⟩ := hrel
    by_cases hlt : m.length < l.length
    · obtain ⟨x, y, hx⟩ : ∃ x y, l[m.length]? = some (x, y) := ⟨l[m.length].1, l[m.length].2, List.getElem?_eq_getElem hlt⟩
      obtain ⟨ba, oa, hpa, hba, rdA⟩ := HA.out.rd2 hx
      subst hpa
      obtain ⟨hv1, hv2, hv3, hv4⟩ := VI.bd4 (HV.out _ (List.mem_of_getElem? hx))
      dsimp only at hv1 hv2 hv3 hv4
      obtain ⟨g0, rfl⟩ : ∃ g : Grown w, wr = g.w := ⟨⟨wr, hB⟩, rfl⟩
      have fA := (rdA g0).2.1
      have gA := (rdA g0).2.2
      clear rdA
      have i1 : (m.length : Int) < l.length := by omega
      have hgw := (hown.lt g rfl).2
      by_cases he : Ent x y
      · skip
        obtain ⟨rfl, rfl⟩ := he
        have HX := Lib.hid (show (l.map (inflI d))[m.length]? = some (-2147483648, 2147483648) by rw [map_some hx]; rfl)
        clear hx
        go_wp2_with (fail)
        refine (r2ent_yes _).mono ?_
        rintro e w5 ⟨rfl, hB5⟩
        have hI : IvBox w5 g0.w.heap.size (-2147483648, 2147483648) := (IvBox.new g0.w (-2147483648) 2147483648).to hB5
        have i0' := hI.cell0
        have i1' := hI.cell1
        dsimp only at i0' i1'
        have hrow5 := (hown.alloc (.cells #[.int .i64 (-2147483648), .int .i64 2147483648] 23)).kept (grown_below hB5) (.inr (by simp [Value.ownBlock]))
        have hB6 : Below w.heap.size w w5 := (hB.alloc hB.size _).trans (hB5.mono (by have := hB.size; simp; omega))
        have hg5 : w.heap.size ≤ w5.heap.size := hB6.size
        go_wp2_with (at_builtin; refine wpList_append_own _ rfl (.tmp 31) (.tmp 33) 36 rfl w.heap.size 23 i0 (.agg #[.int .i64 0, .int .i64 0]) 2 16 Try.underlying36 hi hz0 hz1 hz2 rfl (by decide) (.slice (some ⟨g, 0, none⟩) m.length cap) m.length _ rfl (hrow5.alloc _) ⟨w5.heap.size, 0, none⟩ 1 1 [.int .i64 (-2147483648), .int .i64 2147483648] rfl rfl ?_ (two_one _ _) (by unfold maxLen; omega) (by omega) (by first | omega | (simp; omega)) ?_)
        · have := two_new w5 (.int .i64 (-2147483648)) (.int .i64 2147483648) 23
          simpa using this
        have hB8 := hB6.alloc hg5 (.cells #[.int .i64 (-2147483648), .int .i64 2147483648] 23)
        intro v' w6 hown' hgrow _
        obtain ⟨g', cap', rfl⟩ := ownsRow_succ hown'
        have hB9 : Below w.heap.size w w6 := Below.grown hB8 hgrow (by first | omega | (simp; omega)) (fun k hk => (hown.lt k hk).1)
        rw [← cz_snoc] at hown'
        have HO := Lib.hid hown'
        clear hown' hgrow
        skip
        go_wp2_with (fail)
        go_roundw
        case rel =>
          exact ⟨m ++ [(-2147483648, 2147483648)], by simp, by simp; omega, Lib.hid (take_snoc HT.out HX.out), ⟨g', cap', by simp, by simpa [ptI, midI, hullI] using HO.out⟩, hB9⟩
        case measure => simp [intOf]; omega
      · skip
        have HE := Lib.hid he
        have HX := Lib.hid (show (l.map (inflI d))[m.length]? = some (mkLo (x - d) (y + d), mkHi (x - d) (y + d)) by rw [map_some hx]; simp only [inflI, if_neg he])
        clear hx he
        obtain ⟨q, hq⟩ : ∃ q, mkLo (x - d) (y + d) = q := ⟨_, rfl⟩
        obtain ⟨r, hr⟩ : ∃ r, mkHi (x - d) (y + d) = r := ⟨_, rfl⟩
        have cn := fun w => r2new (x - d) (y + d) w
        rw [hq, hr] at HX
        rw [hq, hr] at cn
        clear hq hr
        have HCN := Lib.hid cn
        clear cn
        go_wp2_with (fail)
        refine (r2ent_no x y _ HE.out).mono ?_
        rintro e w4 ⟨rfl, hB4⟩
        have hI4 : IvBox w4 g0.w.heap.size (x, y) := (IvBox.new g0.w x y).to hB4
        have i40 := hI4.cell0
        have i41 := hI4.cell1
        dsimp only at i40 i41
        have hrow4 := (hown.alloc (.cells #[.int .i64 x, .int .i64 y] 23)).kept (grown_below hB4) (.inr (by simp [Value.ownBlock]))
        have hB4' : Below w.heap.size w w4 := (hB.alloc hB.size _).trans (hB4.mono (by have := hB.size; simp; omega))
        go_wp2_with (fail)
        refine (HCN.out _).mono ?_
        rintro e w5 ⟨rfl, hB5⟩
        have hI : IvBox w5 g0.w.heap.size (x, y) := hI4.to hB5
        have hrow5 := hrow4.kept (grown_below hB5) (.inr (by simp [Value.ownBlock]))
        have hB6 : Below w.heap.size w w5 := hB4'.trans (hB5.mono hB4'.size)
        have hrow6 := (hrow5.kept (grownBy_setCell' w5 g0.w.heap.size (.int .i64 q)) (.inr (by simp [Value.ownBlock]; omega)))
        have hrow7 := (hrow6.kept (grownBy_setCell'' _ g0.w.heap.size 1 (.int .i64 r)) (.inr (by simp [Value.ownBlock]; omega)))
        have j0 := hI.frozen 0
        have j1 := hI.frozen 1
        have i0' := hI.cell0
        have i1' := hI.cell1
        dsimp only at i0' i1'
        have hg5 : w.heap.size ≤ w5.heap.size := hB6.size
        have hsz := hB.size
        go_wp2_with (at_builtin; refine wpList_append_own _ rfl (.tmp 31) (.tmp 33) 36 rfl w.heap.size 23 i0 (.agg #[.int .i64 0, .int .i64 0]) 2 16 Try.underlying36 hi hz0 hz1 hz2 rfl (by decide) (.slice (some ⟨g, 0, none⟩) m.length cap) m.length _ rfl (hrow7.alloc _) ⟨w5.heap.size, 0, none⟩ 1 1 [.int .i64 q, .int .i64 r] rfl rfl ?_ (two_one _ _) (by unfold maxLen; omega) (by omega) (by first | omega | (simp; omega)) ?_)
        · have := two_new ((w5.setCell ⟨g0.w.heap.size, 0, none⟩ (.int .i64 q)).setCell ⟨g0.w.heap.size, 1, none⟩ (.int .i64 r)) (.int .i64 q) (.int .i64 r) 23
          simpa using this
        have hB8 := ((hB6.setCell (p := ⟨g0.w.heap.size, 0, none⟩) hsz (.int .i64 q)).setCell (p := ⟨g0.w.heap.size, 1, none⟩) hsz (.int .i64 r)).alloc (by simp; omega) (.cells #[.int .i64 q, .int .i64 r] 23)
        intro v' w6 hown' hgrow _
        obtain ⟨g', cap', rfl⟩ := ownsRow_succ hown'
        have hB9 : Below w.heap.size w w6 := Below.grown hB8 hgrow (by first | omega | (simp; omega)) (fun k hk => (hown.lt k hk).1)
        rw [← cz_snoc] at hown'
        have HO := Lib.hid hown'
        clear hown' hgrow
        skip
        go_wp2_with (fail)
        go_roundw
        case rel =>
          exact ⟨m ++ [(q, r)], by simp, by simp; omega, Lib.hid (take_snoc HT.out HX.out), ⟨g', cap', by simp, by simpa [ptI, midI, hullI] using HO.out⟩, hB9⟩
        case measure => simp [intOf]; omega
    · have hle : l.length ≤ m.length := by omega
      obtain hml : m.length = l.length := by omega
      have i1 : (l.length : Int) ≤ m.length := by omega
      have HB' := Lib.hid hB
      go_wp2_with (fail)
      go_ret
      have e := take_end HT.out (by rw [List.length_map]; exact hle)
      exact ⟨_, rfl, e ▸ Bx.own hown (by unfold maxLen; omega), HB'.out⟩
end Go.Proofs.Ytpepgheocemjdaa
