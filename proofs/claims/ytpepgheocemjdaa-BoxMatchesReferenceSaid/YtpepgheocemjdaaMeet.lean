/-
  box.Intersect.
-/
import Derived.Test.YtpepgheocemjdaaHull
import Derived.Test.YtpepgheocemjdaaIw10
import Derived.Maps.AppendAt
namespace Go.Proofs.Ytpepgheocemjdaa
open Go.ChangeShapes Go.WideShapes Go.ChangeAt Go.RowKit Go.Shelf
set_option linter.unusedVariables false
set_option linter.unusedSimpArgs false
set_option maxRecDepth 100000
attribute [local go_sem] Oper.semAt_some

def meetI (z : (Int × Int) × (Int × Int)) : Int × Int := (max z.1.1 z.2.1, min z.1.2 z.2.2)
def okM (z : (Int × Int) × (Int × Int)) : Bool := decide (max z.1.1 z.2.1 ≤ min z.1.2 z.2.2)
theorem iv_meet_one (x1 y1 x2 y2 : Int) (h1 : VI x1 y1) (h2 : VI x2 y2) : ∃ p q ok, (okM ((x1, y1), (x2, y2)) = ok) ∧ (ok = true → (p, q) = meetI ((x1, y1), (x2, y2))) ∧
    ∀ w, Calls Try.prog 61 #[.agg #[.int .i64 x1, .int .i64 y1], .agg #[.int .i64 x2, .int .i64 y2]] w fun e w' => e = .returned (.tuple #[.agg #[.int .i64 p, .int .i64 q], .bool ok]) ∧ Below w.heap.size w w' := by
  by_cases hm : max x1 x2 ≤ min y1 y2
  · exact ⟨_, _, true, by simp only [okM, hm, decide_true], fun _ => rfl, fun w => iv_meet_yes x1 y1 x2 y2 w h1 h2 hm⟩
  · exact ⟨_, _, false, by simp only [okM, hm, decide_false], fun h => by (cases h), fun w => iv_meet_no x1 y1 x2 y2 w (by omega)⟩

set_option maxHeartbeats 8000000 in
theorem meet_in (n : Nat) (hn : 3 ≤ n) (va vb : Value) (la lb : List (Int × Int)) (w : World) (hva : Bx w va la) (hvb : Bx w vb lb) (hlen : lb.length = la.length) (hv : ∀ z ∈ la.zip lb, VB z.1 ∧ VB z.2) (hsm : la.length ≤ 1000) :
    CallsIn Fence.wide n Try.prog 24 #[va, vb] w fun e W' => ∃ v, e = .returned (.tuple #[v, .bool ((la.zip lb).all okM)]) ∧ ((la.zip lb).all okM = true → Bx W' v ((la.zip lb).map meetI)) ∧ ((la.zip lb).all okM = false → v = .slice none 0 0) ∧ Below w.heap.size w W' := by
  have h1 : 1 ≤ n := by omega
  obtain ⟨WA, hWA⟩ : ∃ WA, (w.alloc (.cells #[.slice none 0 0] 36)).alloc (.cells #[.bool false] 4) = WA := ⟨_, rfl⟩
  have hBA : Below w.heap.size w WA := by rw [← hWA]; exact ((Below.refl _ w).alloc (Nat.le_refl _) _).alloc (by simp) _
  have r4 : Boxed WA w.heap.size 36 (.slice none 0 0) := by rw [← hWA]; exact (Boxed.new w _ _).alloc _
  have r5 : Boxed WA (w.heap.size + 1) 4 (.bool false) := by
    rw [← hWA]
    have := Boxed.new (w.alloc (.cells #[.slice none 0 0] 36)) 4 (.bool false)
    rw [World.size_alloc] at this
    exact this
  have hsA : WA.heap.size = w.heap.size + 1 + 1 := by rw [← hWA]; simp
  have HA := Lib.hid (hva.grow hBA)
  have HB := Lib.hid (hvb.grow hBA)
  obtain ⟨zs, hzs⟩ : ∃ zs : List VP, zs.map Subtype.val = la.zip lb := ⟨vps _ hv, vps_map _ hv⟩
  have hzl : zs.length ≤ 1000 := by rw [← List.length_map (f := Subtype.val), hzs, List.length_zip]; omega
  obtain ⟨hl, p, c, rfl, hp⟩ := hva
  obtain ⟨hm, q, d, rfl, hq⟩ := hvb
  clear hp hq hl hm hv
  rw [hlen] at HB ⊢
  rw [← hzs]
  obtain ⟨i0, hi, hz0, hz1, hz2⟩ := info_parts info_iv
  obtain ⟨W1, hW1⟩ : ∃ W1, WA.alloc (.cells (madeCells (Value.agg #[.int .i64 0, .int .i64 0]).cells (la.length * 2)) 23) = W1 := ⟨_, rfl⟩
  have hmk : (Instr.makeSlice 36 (.int .i64 0) (.int .i64 (la.length : Int))).run Try.prog WA = .ok (.slice (some ⟨WA.heap.size, 0, none⟩) 0 la.length) W1 := by
    have := run_make (P := Try.prog) WA 36 23 i0 _ Try.underlying36 hi hz0 .i64 .i64 0 la.length (Int.le_refl _) (by omega) (by rw [hz2]; omega) (by omega)
    rw [hz1] at this
    simpa [hW1] using this
  have hrow0 : W1.ownsRow WA.heap.size 23 2 (.slice (some ⟨WA.heap.size, 0, none⟩) 0 la.length) 0 [] := by
    rw [← hW1]
    exact World.ownsRow_made WA _ la.length (Nat.le_refl _) (by unfold maxLen; omega) (size_madeCells _ _)
  have hs1 : W1.heap.size = WA.heap.size + 1 := by rw [← hW1]; simp
  have hB1 : Below WA.heap.size WA W1 := by rw [← hW1]; exact (Below.refl _ WA).alloc (Nat.le_refl _) _
  clear hW1
  rw [hsA] at hmk
  have hpairs := fun (W : World) => pairs_in (n - 1) p q la.length c la.length d W
  refine callsIn_of_wp_marks Try.func24 rfl trivial ?_ rfl
  simp only [Try.ntmps24, List.size_toArray, List.length_cons, List.length_nil, Nat.reduceAdd, Nat.reduceSub, Array.replicate_succ, Array.replicate_zero, List.push_toArray, List.append_toArray, List.nil_append, List.cons_append]
  gi_wp2_with (refine ⟨trivial, ?_⟩; gi_at_call 83; refine (pairs_in (n - 1) _ _ _ _ _ _ _).mono ?_; rintro e w' ⟨rfl, rfl⟩)
  rw [← hsA]
  have b1 := ((Boxed.new W1 36 (.slice (some ⟨WA.heap.size, 0, none⟩) 0 la.length)).alloc (.cells #[.slice p la.length c] 36)).alloc (.cells #[.slice q la.length d] 36)
  have b2 := (Boxed.new (W1.alloc (.cells #[.slice (some ⟨WA.heap.size, 0, none⟩) 0 la.length] 36)) 36 (.slice p la.length c)).alloc (.cells #[.slice q la.length d] 36)
  have b3 := Boxed.new ((W1.alloc (.cells #[.slice (some ⟨WA.heap.size, 0, none⟩) 0 la.length] 36)).alloc (.cells #[.slice p la.length c] 36)) 36 (.slice q la.length d)
  have hrow1 := ((hrow0.alloc (.cells #[.slice (some ⟨WA.heap.size, 0, none⟩) 0 la.length] 36)).alloc (.cells #[.slice p la.length c] 36)).alloc (.cells #[.slice q la.length d] 36)
  have hB0 : Below WA.heap.size WA (((W1.alloc (.cells #[.slice (some ⟨WA.heap.size, 0, none⟩) 0 la.length] 36)).alloc (.cells #[.slice p la.length c] 36)).alloc (.cells #[.slice q la.length d] 36)) := ((hB1.alloc hB1.size _).alloc (by simp; omega) _).alloc (by simp; omega) _
  have hsz : (((W1.alloc (.cells #[.slice (some ⟨WA.heap.size, 0, none⟩) 0 la.length] 36)).alloc (.cells #[.slice p la.length c] 36)).alloc (.cells #[.slice q la.length d] 36)).heap.size = WA.heap.size + 4 := by simp; omega
  simp only [World.size_alloc, hs1] at b1 b2 b3 ⊢
  obtain ⟨W0, hW0⟩ : ∃ W0, (((W1.alloc (.cells #[.slice (some ⟨WA.heap.size, 0, none⟩) 0 la.length] 36)).alloc (.cells #[.slice p la.length c] 36)).alloc (.cells #[.slice q la.length d] 36)) = W0 := ⟨_, rfl⟩
  rw [hW0] at b1 b2 b3 hrow1 hB0 hsz ⊢
  have HSA := Lib.hid hsA
  clear hW0 hrow0 hmk hs1 hB1 hWA hsA hpairs
  refine wpIn_rangeFunc_ownH rfl h1 (gf := 119) (lb := #[.pointer (some ⟨WA.heap.size + 1 + 1, 0, none⟩), .pointer (some ⟨WA.heap.size + 1 + 1 + 1, 0, none⟩)]) rfl trivial (enters_of Try.func119 (by kernel_rfl) rfl)
    (pairs_stopsv (n - 1) (by omega) (WA.heap.size + 1 + 1) (WA.heap.size + 1 + 1 + 1) _ _ la lb WA W0 HA.out (by have := HB.out; exact this) hlen hB0 b2 b3 Subtype.val zs hzs) KpB.trans (fun W l o o' hl ho hoc _ => kpb_put (by omega) (by omega) (by omega)) (Below.refl _ _) (fun _ => rfl)
    (fun pre W => ((∃ v, Boxed W (WA.heap.size + 1) 36 v ∧ W.ownsRow WA.heap.size 23 2 v pre.length (cz ((pre.map Subtype.val).map meetI)) ∧ ∀ z ∈ pre.map Subtype.val, okM z = true) ∧ Boxed W (WA.heap.size + 1 + 1) 36 (.slice p la.length c) ∧ Boxed W (WA.heap.size + 1 + 1 + 1) 36 (.slice q la.length d)) ∧ Below WA.heap.size WA W)
    (fun k pre W => (k = .ret ∧ (∃ z ∈ pre.map Subtype.val, okM z = false) ∧ Boxed W w.heap.size 36 (.slice none 0 0) ∧ Boxed W (w.heap.size + 1) 4 (.bool false)) ∧ Below w.heap.size w W)
    (OwnFrom.and (OwnFrom.and (Own.from (holdsRow_own WA.heap.size (WA.heap.size + 1) 36 23 2 (fun pre : List VP => pre.length) (fun pre => cz ((pre.map Subtype.val).map meetI)) (fun pre _ => ∀ z ∈ pre.map Subtype.val, okM z = true)) _) (fun s A B row hs hg hr => ⟨own_block hg hr hs.1, own_block hg hr hs.2⟩)) (ownFrom_below (Nat.le_refl _) (by omega)))
    (fun k => OwnFrom.and (fun s A B row hs hg hr => ⟨hs.1, hs.2.1, own_block hg hr hs.2.2.1, own_block hg hr hs.2.2.2⟩) (ownFrom_below (Nat.le_refl _) (by have := HSA.out; omega)))
    ⟨⟨⟨_, b1, hrow1, by simp⟩, b2, b3⟩, hB0⟩
    (fun z a' W => ∃ X Y, IvBox W X z.1.1 ∧ IvBox W Y z.1.2 ∧ a' = { tmps := #[.slice p la.length c, .slice q la.length d, undef, undef, .pointer (some ⟨w.heap.size, 0, none⟩), .pointer (some ⟨w.heap.size + 1, 0, none⟩), .pointer (some ⟨WA.heap.size + 1, 0, none⟩), .pointer (some ⟨X, 0, none⟩), .pointer (some ⟨Y, 0, none⟩), undef, undef, .slice p la.length c, .int .i64 la.length, .slice (some ⟨WA.heap.size, 0, none⟩) 0 la.length, .slice p la.length c, .slice q la.length d, .func (.func 119) #[] #[.pointer (some ⟨WA.heap.size + 1 + 1, 0, none⟩), .pointer (some ⟨WA.heap.size + 1 + 1 + 1, 0, none⟩)], .agg #[.int .i64 z.1.1.1, .int .i64 z.1.1.2], .agg #[.int .i64 z.1.2.1, .int .i64 z.1.2.2], undef, undef, undef, undef, undef, undef, undef, undef, undef, undef, undef, undef, undef], defers := [] })
    (fun z a' _ A B row hs hg hr => by obtain ⟨X, Y, h1, h2, h3⟩ := hs; exact ⟨X, Y, own_block hg hr h1, own_block hg hr h2, h3⟩) ?assign ?body ?done ?stop
  case assign =>
    rintro l pre ⟨⟨⟨x1, y1⟩, ⟨x2, y2⟩⟩, hz⟩ W K hI hK
    simp only [iva]
    gi_wp2
    obtain ⟨⟨⟨v, i2, i3, i7⟩, i4, i5⟩, i6⟩ := hI
    refine hK _ _ (((KeepsOthers.alloc _ _).trans (KeepsOthers.alloc _ _)).from _) ⟨((Below.refl _ W).alloc i6.size _).alloc (by have := i6.size; simp; omega) _, ((i4.alloc _).alloc _).trans i4.symm, ((i5.alloc _).alloc _).trans i5.symm⟩
      ⟨⟨⟨v, (i2.alloc _).alloc _, (i3.alloc _).alloc _, i7⟩, (i4.alloc _).alloc _, (i5.alloc _).alloc _⟩, (i6.alloc i6.size _).alloc (by have := i6.size; simp; omega) _⟩ ⟨W.heap.size, W.heap.size + 1, (IvBox.new W x1 y1).alloc _, ?_, rfl⟩
    have := IvBox.new (W.alloc (.cells #[.int .i64 x1, .int .i64 y1] 23)) x2 y2
    rw [World.size_alloc] at this
    exact this
  case body =>
    rintro l pre ⟨⟨⟨x1, y1⟩, ⟨x2, y2⟩⟩, hz⟩ a' W hl ⟨r, hr⟩ ⟨⟨⟨v, c1, crow, call⟩, c2, c3⟩, hB⟩ ⟨X, Y, hX, hY, rfl⟩ hlt
    have hV1 : VI x1 y1 := hz.1
    have hV2 : VI x2 y2 := hz.2
    obtain ⟨mp, mq, ok, hok, hpq, k1⟩ := iv_meet_one x1 y1 x2 y2 hV1 hV2
    have hpl : pre.length ≤ 1000 := by omega
    have hwA : w.heap.size + 1 < WA.heap.size := by have := HSA.out; omega
    have q4 : Boxed W w.heap.size 36 (.slice none 0 0) := (hB.block _ r4.lt).trans r4
    have q5 : Boxed W (w.heap.size + 1) 4 (.bool false) := (hB.block _ r5.lt).trans r5
    have CALL := Lib.hid call
    have HOK := Lib.hid hok
    have HPQ := Lib.hid hpq
    clear hzl call hok hpq
    have x0' := hX.cell0
    have x1' := hX.cell1
    have y0' := hY.cell0
    have y1' := hY.cell1
    dsimp only at x0' x1' y0' y1'
    gi_wp2_with (fail)
    refine ⟨trivial, fun h => (by cases h), ?_⟩
    refine (CallsIn.inRound l (callsIn_wide.2 (k1 _))).mono ?_
    rintro e w5 ⟨rfl, hB5⟩
    have d1 : Boxed w5 (WA.heap.size + 1) 36 v := (hB5.block _ c1.lt).trans c1
    have d2 : Boxed w5 (WA.heap.size + 1 + 1) 36 _ := (hB5.block _ c2.lt).trans c2
    have d3 : Boxed w5 (WA.heap.size + 1 + 1 + 1) 36 _ := (hB5.block _ c3.lt).trans c3
    have d4 : Boxed w5 w.heap.size 36 _ := (hB5.block _ q4.lt).trans q4
    have d5 : Boxed w5 (w.heap.size + 1) 4 _ := (hB5.block _ q5.lt).trans q5
    have drow : w5.ownsRow WA.heap.size 23 2 v pre.length _ := crow.kept (grown_below hB5) (by cases v.ownBlock with | none => exact .inl rfl | some k => exact .inr (by simp))
    have hK5 : ∀ B, KeepsFrom B W w5 := fun _ => ⟨hB5.size, fun k o _ hk _ => (hB5.block k (Array.getElem?_eq_some_iff.1 hk).1).trans hk⟩
    have hB' : Below WA.heap.size WA w5 := hB.trans (hB5.mono hB.size)
    have hBw : Below w.heap.size w w5 := hBA.trans (hB'.mono hBA.size)
    have hle : WA.heap.size ≤ w5.heap.size := hB'.size
    have hb5 := hB5.mono hB.size
    clear hB5 crow
    cases ok
    · have e4 := (d4.alloc (.cells #[.int .i64 mp, .int .i64 mq] 23)).cell
      have e5 := (d4.alloc (.cells #[.int .i64 mp, .int .i64 mq] 23)).frozen
      have e6 := ((d5.alloc (.cells #[.int .i64 mp, .int .i64 mq] 23)).other (B' := w.heap.size) (by omega) (.slice none 0 0)).cell
      have e7 := ((d5.alloc (.cells #[.int .i64 mp, .int .i64 mq] 23)).other (B' := w.heap.size) (by omega) (.slice none 0 0)).frozen
      gi_wp2
      refine ⟨(hK5 _).trans ((((KeepsOthers.alloc _ _).trans (KeepsOthers.setCell _ _ _)).trans (KeepsOthers.setCell _ _ _)).from _), ⟨rfl, ⟨_, by rw [List.map_append]; exact List.mem_append_right _ List.mem_cons_self, HOK.out⟩, ?_, ?_⟩, ((hBw.alloc hBw.size _).setCell (p := ⟨w.heap.size, 0, none⟩) (Nat.le_refl _) _).setCell (p := ⟨w.heap.size + 1, 0, none⟩) (by simp) _⟩
      · exact ((d4.alloc _).set _).other (B' := w.heap.size + 1) (by omega) _
      · exact ((d5.alloc _).other (B' := w.heap.size) (by omega) _).set _
    · have hsn : cz (((pre ++ [⟨((x1, y1), (x2, y2)), hz⟩] : List VP).map Subtype.val).map meetI) = cz ((pre.map Subtype.val).map meetI) ++ [.int .i64 mp, .int .i64 mq] := by
        rw [List.map_append, List.map_append, cz_app]
        show _ ++ cz [meetI ((x1, y1), (x2, y2))] = _
        rw [← HPQ.out rfl]
        rfl
      have HS := Lib.hid hsn
      clear hsn
      generalize cz ((pre.map Subtype.val).map meetI) = cs at *
      have f1 := (d1.alloc (.cells #[.int .i64 mp, .int .i64 mq] 23)).cell
      have f2 := IvBox.new w5 mp mq
      have f3 := f2.cell0
      have f4 := f2.cell1
      dsimp only at f3 f4
      gi_wp2_with (gi_at_builtin; refine wpListIn_append_own _ rfl (.tmp 27) (.tmp 29) 36 rfl WA.heap.size 23 i0 (.agg #[.int .i64 0, .int .i64 0]) 2 16 Try.underlying36 hi hz0 hz1 hz2 rfl (by decide) v pre.length _ rfl ((drow.alloc _).alloc _) ⟨w5.heap.size + 1, 0, none⟩ 1 1 [.int .i64 mp, .int .i64 mq] rfl rfl ?_ (two_one _ _) (by unfold maxLen; omega) (by omega) (by simp; omega) ?_)
      · have := two_new (w5.alloc (.cells #[.int .i64 mp, .int .i64 mq] 23)) (.int .i64 mp) (.int .i64 mq) 23
        simpa using this
      intro v' w6 hown' hgrow _
      obtain ⟨g', cap', rfl⟩ := ownsRow_succ hown'
      have hle' : WA.heap.size ≤ (w5.alloc (.cells #[.int .i64 mp, .int .i64 mq] 23)).heap.size := by simp; omega
      obtain ⟨hv1, hv2, hr2, hk2, hb2⟩ := (d1.alloc (.cells #[.int .i64 mp, .int .i64 mq] 23)).appended (by decide) (drow.alloc (.cells #[.int .i64 mp, .int .i64 mq] 23)) hle' (Nat.le_succ _) hown' hgrow
      have hc1 := hv1.cell
      have hf1 := hv1.frozen
      have g2 : Boxed w6 (WA.heap.size + 1 + 1) 36 _ := ((d2.alloc (.cells #[.int .i64 mp, .int .i64 mq] 23)).alloc (.cells #[.int .i64 mp, .int .i64 mq] 23)).kept hgrow (((d2.alloc (.cells #[.int .i64 mp, .int .i64 mq] 23)).alloc (.cells #[.int .i64 mp, .int .i64 mq] 23)).not_row (by decide) ((drow.alloc (.cells #[.int .i64 mp, .int .i64 mq] 23)).alloc (.cells #[.int .i64 mp, .int .i64 mq] 23)))
      have g3 : Boxed w6 (WA.heap.size + 1 + 1 + 1) 36 _ := ((d3.alloc (.cells #[.int .i64 mp, .int .i64 mq] 23)).alloc (.cells #[.int .i64 mp, .int .i64 mq] 23)).kept hgrow (((d3.alloc (.cells #[.int .i64 mp, .int .i64 mq] 23)).alloc (.cells #[.int .i64 mp, .int .i64 mq] 23)).not_row (by decide) ((drow.alloc (.cells #[.int .i64 mp, .int .i64 mq] 23)).alloc (.cells #[.int .i64 mp, .int .i64 mq] 23)))
      gi_wp2
      have g2' := g2.other (B' := WA.heap.size + 1) (by omega) (.slice (some ⟨g', 0, none⟩) (pre.length + 1) cap')
      have g3' := g3.other (B' := WA.heap.size + 1) (by omega) (.slice (some ⟨g', 0, none⟩) (pre.length + 1) cap')
      have hb6 : Below WA.heap.size W _ := hb5.trans (((Below.refl _ w5).alloc hle (.cells #[.int .i64 mp, .int .i64 mq] 23)).trans hb2)
      refine ⟨((hK5 _).trans ((KeepsOthers.alloc _ _).from _)).trans (hk2.from _), ⟨hb6, g2'.trans c2.symm, g3'.trans c3.symm⟩, ⟨⟨_, hv2, by rw [HS.out]; simpa using hr2, ?_⟩, g2', g3'⟩, hB.trans hb6⟩
      intro z hzm
      rw [List.map_append] at hzm
      rcases List.mem_append.1 hzm with h | h
      · exact CALL.out z h
      · rw [List.mem_singleton.1 h]
        exact HOK.out
  case done =>
    rintro D ys W hD rfl ⟨⟨⟨v, c1, crow, call⟩, c2, c3⟩, hB⟩ hK
    have hwA : w.heap.size + 1 < WA.heap.size := by have := HSA.out; omega
    have hc := c1.cell
    have q4 : Boxed W w.heap.size 36 (.slice none 0 0) := (hB.block _ r4.lt).trans r4
    have q5 : Boxed W (w.heap.size + 1) 4 (.bool false) := (hB.block _ r5.lt).trans r5
    have hBw : Below w.heap.size w W := hBA.trans (hB.mono hBA.size)
    have e4 := q4.cell
    have e5 := q4.frozen
    have e6 := (q5.other (B' := w.heap.size) (by omega) v).cell
    have e7 := (q5.other (B' := w.heap.size) (by omega) v).frozen
    have hform : ∃ p' m' c', v = .slice p' m' c' := by
      rcases crow.2 with ⟨rfl, _⟩ | ⟨g, cap, cur, rfl, _⟩
      · exact ⟨_, _, _, rfl⟩
      · exact ⟨_, _, _, rfl⟩
    obtain ⟨p', m', c', rfl⟩ := hform
    gi_wp2
    have hK' := ((KeepsOthers.setCell W ⟨w.heap.size, 0, none⟩ (.slice p' m' c')).trans (KeepsOthers.setCell _ ⟨w.heap.size + 1, 0, none⟩ (.bool true))).same D _ hK rfl
    refine ⟨by simp, .inl ⟨_, _, rfl, run_takeDeferred hK', ?_⟩⟩
    have h4 := (q4.set (.slice p' m' c')).other (B' := w.heap.size + 1) (by omega) (.bool true)
    have h5 := (q5.other (B' := w.heap.size) (by omega) (.slice p' m' c')).set (.bool true)
    have hc4 := cell_kept h4.cell (grownBy_putObj' _ D (.deferred none)) (fun r e => by cases e; exact ⟨_, hK', rfl⟩)
    have hc5 := cell_kept h5.cell (grownBy_putObj' _ D (.deferred none)) (fun r e => by cases e; exact ⟨_, hK', rfl⟩)
    have hall : (ys.map Subtype.val).all okM = true := List.all_eq_true.2 call
    have hrowW := (crow.kept (grownBy_setCell' W w.heap.size (.slice p' m' c')) (.inr (by
      have := crow.lt
      rcases p' with _ | a
      · simp [Value.ownBlock]
      · have := this a.block rfl
        simp [Value.ownBlock]; omega))).kept (grownBy_setCell' _ (w.heap.size + 1) (.bool true)) (.inr (by
      have := crow.lt
      rcases p' with _ | a
      · simp [Value.ownBlock]
      · have := this a.block rfl
        simp [Value.ownBlock]; omega))
    refine ⟨.tuple #[.slice p' m' c', .bool true], ?_, .slice p' m' c', by rw [hall], fun _ => ?_, fun h => (by rw [hall] at h; cases h), ((hBw.setCell (p := ⟨w.heap.size, 0, none⟩) (Nat.le_refl _) _).setCell (p := ⟨w.heap.size + 1, 0, none⟩) (by simp) _).trans (belowK_b (w := w) (Nat.le_refl _) _ D _ _ (by omega) hK' rfl rfl)⟩
    · simp [results, Try.f24, go_sem, hc4, hc5]
    · exact Bx.own (by simpa using ownsRow_putObj hrowW _ hK' rfl) (by simp; unfold maxLen; omega)
  case stop =>
    rintro D k pre W hD hpre ⟨⟨rfl, ⟨z, hzm, hz⟩, c4, c5⟩, hB⟩ hK
    gi_wp2
    refine ⟨by simp, .inl ⟨_, _, rfl, run_takeDeferred hK, ?_⟩⟩
    have hc4 := cell_kept c4.cell (grownBy_putObj' _ D (.deferred none)) (fun r e => by cases e; exact ⟨_, hK, rfl⟩)
    have hc5 := cell_kept c5.cell (grownBy_putObj' _ D (.deferred none)) (fun r e => by cases e; exact ⟨_, hK, rfl⟩)
    have hall : (zs.map Subtype.val).all okM = false := by
      rw [Bool.eq_false_iff]
      intro h
      have h2 : z ∈ zs.map Subtype.val := (hpre.map Subtype.val).subset hzm
      have := List.all_eq_true.1 h z h2
      rw [hz] at this
      cases this
    have hDw : w.heap.size ≤ D := by have := HSA.out; omega
    refine ⟨.tuple #[.slice none 0 0, .bool false], ?_, .slice none 0 0, by rw [hall], fun h => (by rw [hall] at h; cases h), fun _ => rfl, hB.trans (belowK_b (w := w) (Nat.le_refl _) W D _ _ hDw hK rfl rfl)⟩
    simp [results, Try.f24, go_sem, hc4, hc5]
theorem box_meet (va vb : Value) (la lb : List (Int × Int)) (w : World) (hva : Bx w va la) (hvb : Bx w vb lb) (hlen : lb.length = la.length) (hv : ∀ z ∈ la.zip lb, VB z.1 ∧ VB z.2) (hsm : la.length ≤ 1000) :
    Calls Try.prog 24 #[va, vb] w fun e W' => ∃ v, e = .returned (.tuple #[v, .bool ((la.zip lb).all okM)]) ∧ ((la.zip lb).all okM = true → Bx W' v ((la.zip lb).map meetI)) ∧ ((la.zip lb).all okM = false → v = .slice none 0 0) ∧ Below w.heap.size w W' :=
  (callsIn_wide (n := 5)).1 (meet_in 5 (by decide) va vb la lb w hva hvb hlen hv hsm)
theorem box_hull (va vb : Value) (la lb : List (Int × Int)) (w : World) (hva : Bx w va la) (hvb : Bx w vb lb) (hlen : lb.length = la.length) (hv : ∀ z ∈ la.zip lb, VB z.1 ∧ VB z.2) (hsm : la.length ≤ 1000) :
    Calls Try.prog 36 #[va, vb] w fun e W' => ∃ v, e = .returned v ∧ Bx W' v ((la.zip lb).map hullI) ∧ Below w.heap.size w W' :=
  (callsIn_wide (n := 5)).1 (hull_in 5 (by decide) va vb la lb w hva hvb hlen hv hsm)
end Go.Proofs.Ytpepgheocemjdaa
