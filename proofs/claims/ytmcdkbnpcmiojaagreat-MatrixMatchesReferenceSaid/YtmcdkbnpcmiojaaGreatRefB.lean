/-
  The reference's Transpose, Mid and Mul of matrices.
-/
import Derived.Test.YtmcdkbnpcmiojaaGreatRefA
import Derived.Maps.AppendAt
namespace Go.Proofs.YtmcdkbnpcmiojaaGreat
open Go.ChangeShapes Go.WideShapes Go.ChangeAt Go.RowKit
set_option linter.unusedVariables false
set_option linter.unusedSimpArgs false
set_option maxRecDepth 100000

attribute [local irreducible] Calls
theorem mat_rowM {α : Type} {F : Nat → Nat → α} {k i : Nat} (hi : i < k) : (matOf F k)[i]? = some (rowOf F k i) := by
  unfold matOf; rw [List.getElem?_map, List.getElem?_range hi, Option.map_some]
theorem row_atM {α : Type} {F : Nat → Nat → α} {k i j : Nat} (hj : j < k) : (rowOf F k i)[j]? = some (F i j) := by
  unfold rowOf; rw [List.getElem?_map, List.getElem?_range hj, Option.map_some]
set_option maxHeartbeats 16000000 in
theorem r4transp_o (v : Value) (M : List (List (Int × Int))) (n : Nat) (w : World) (hv : Mx w v M) (hM : Sq n M) (h1 : 1 ≤ n) (h6 : n ≤ 6) :
    Calls Tryz.prog 19 #[v] w fun e w' => ∃ u us, e = .returned u ∧ OwnM w.heap.size w' u us (trM n M) ∧ Below w.heap.size w w' := by
  obtain ⟨i0, hi, hz0, hz1, hz2⟩ := info_parts info_iv
  obtain ⟨p0, pi, pz0, pz1, pz2⟩ := info_parts info_row
  obtain ⟨p, c, rfl⟩ := hv.shape hM.1
  have HV := Lib.hid hv
  have HM := Lib.hid hM
  have hml : (trM n M).length = n := (sq_trM hM).1
  have hrows : ∀ i, i < n → ∃ r, (trM n M)[i]? = some r ∧ r.length = n ∧ ∀ t, t < n → ∀ s, M[t]? = some s → ∀ q, s[i]? = some q → r[t]? = some q := fun i hi => ⟨_, mat_rowM hi, by simp [rowOf], fun t ht s hs q hq => by rw [row_atM ht, trF_at hs hq]⟩
  obtain ⟨T, hT⟩ : ∃ T, trM n M = T := ⟨_, rfl⟩
  rw [hT] at hml hrows ⊢
  have HML := Lib.hid hml
  have HRW := Lib.hid hrows
  clear hv hM hml hrows hT
  go_enter Tryz.func19, Tryz.ntmps19
  go_wp2_with (fail)
  go_loopw [3, 4] (fun u i wr => ∃ (R : List (List (Int × Int))) (us : List Value) (g cap : Nat), i = .int .i64 R.length ∧ R.length ≤ n ∧ u = .slice (some ⟨g, 0, none⟩) R.length cap ∧ Hid (R = T.take R.length) ∧ Hid (OwnM w.heap.size wr u us R) ∧ Below w.heap.size w wr) (fun _ i _ => n - (intOf i).toNat)
  case atStart =>
    exact ⟨[], [], w.heap.size, 0, rfl, Nat.zero_le _, rfl, Lib.hid (by simp), Lib.hid ⟨by simpa using World.ownsRow_made (e := 22) (size := 1) w #[] 0 (Nat.le_refl _) (by decide) rfl, fun i r h => by simp at h, fun i j R n c n' c' h => by simp at h⟩, (Below.refl _ _).alloc (Nat.le_refl _) _⟩
  case round =>
    obtain ⟨R, us, g, cap, rfl, hPn, rfl, HS, HO, hB⟩ := hrel
    by_cases hlt : R.length < n
    · have ik : (R.length : Int) < n := by omega
      obtain ⟨r, hrk, hrl, hre⟩ := HRW.out R.length hlt
      have HRL := Lib.hid hrl
      have HRK := Lib.hid hrk
      have HRE := Lib.hid hre
      obtain ⟨W0, rfl⟩ : ∃ W0, W0 = wr := ⟨_, rfl⟩
      have hsz0 := hB.size
      have hBa : Below W0.heap.size W0 (W0.alloc (.cells #[] 48)) := (Below.refl _ _).alloc (Nat.le_refl _) _
      have hJ0 : OwnB W0.heap.size (W0.alloc (.cells #[] 48)) (.slice (some ⟨W0.heap.size, 0, none⟩) 0 0) [] := ⟨W0.heap.size, 0, rfl, by simpa [cz] using World.ownsRow_made (e := 48) (size := 2) W0 #[] 0 (Nat.le_refl _) (by decide) rfl⟩
      clear hrk hrl hre
      go_wp2_with (fail)
      go_loopw [5, 6] (fun u i wr => ∃ m : List (Int × Int), i = .int .i64 m.length ∧ m.length ≤ n ∧ Hid (m = r.take m.length) ∧ OwnB W0.heap.size wr u m ∧ Below W0.heap.size W0 wr) (fun _ i _ => n - (intOf i).toNat)
      case atStart => exact ⟨[], rfl, Nat.zero_le _, Lib.hid (by simp), hJ0, hBa⟩
      case round =>
        clear hJ0 hBa
        obtain ⟨m, rfl, hm, HT, ⟨g1, cap1, rfl, hown⟩, hB1⟩ := hrel
        have hBw : Below w.heap.size w wr := below_then hB hB1
        by_cases hmn : m.length < n
        · have im : (m.length : Int) < n := by omega
          obtain ⟨s, hs⟩ : ∃ s, M[m.length]? = some s := ⟨_, List.getElem?_eq_getElem (by rw [HM.out.1]; omega)⟩
          obtain ⟨hsl, hsv⟩ := HM.out.2 s (List.mem_of_getElem? hs)
          obtain ⟨x, y, hx⟩ : ∃ x y, s[R.length]? = some (x, y) := ⟨(s[R.length]'(by omega)).1, (s[R.length]'(by omega)).2, List.getElem?_eq_getElem _⟩
          have hxv : VB (x, y) := hsv _ (List.mem_of_getElem? hx)
          obtain ⟨b, o, u, hp, hb, rd⟩ := HV.out.rd grows_bx hs
          subst hp
          have hbx := (rd ⟨w, Below.refl _ _⟩).2.2
          dsimp only at hbx
          obtain ⟨p2, c2, rfl⟩ := hbx.shape hsl
          have fO := (rd ⟨wr, hBw⟩).2.1
          obtain ⟨b2, o2, rfl, hb2, rd2⟩ := hbx.rd2 hx
          have f1 := (rd2 ⟨wr, hBw⟩).2.1
          have f2 := (rd2 ⟨wr, hBw⟩).2.2
          dsimp only at fO f1 f2
          have HX := Lib.hid (HRE.out m.length hmn s hs (x, y) hx)
          clear rd rd2 hbx hs hsl hsv hx hxv
          obtain ⟨w5, hw5⟩ : ∃ w5, w5 = wr := ⟨_, rfl⟩
          subst hw5
          have hrow5 := hown
          have hB6 := hB1
          have hsz6 := hB6.size
          clear hown
          go_wp2_with (at_builtin; refine wpList_append_own _ rfl (.tmp 21) (.tmp 29) 22 rfl W0.heap.size 48 i0 (.agg #[.int .i64 0, .int .i64 0]) 2 16 Tryz.underlying22 hi hz0 hz1 hz2 rfl (by decide) (.slice (some ⟨g1, 0, none⟩) m.length cap1) m.length _ rfl (hrow5.alloc _) ⟨w5.heap.size, 0, none⟩ 1 1 [.int .i64 x, .int .i64 y] rfl rfl (two_new _ _ _ _) (two_one _ _) (by unfold maxLen; omega) (by omega) (by first | omega | (simp; omega)) ?_)
          have hB8 := hB6.alloc hsz6 (.cells #[.int .i64 x, .int .i64 y] 48)
          intro v' w6 hown' hgrow _
          obtain ⟨g', cap', rfl⟩ := ownsRow_succ hown'
          have hB9 : Below W0.heap.size W0 w6 := Below.grown hB8 hgrow (by first | omega | (simp; omega)) (fun q hq => (hrow5.lt q hq).1)
          rw [← cz_snoc] at hown'
          have HO6 := Lib.hid hown'
          clear hown' hgrow hrow5
          go_wp2_with (fail)
          go_roundw
          case rel => exact ⟨m ++ [(x, y)], by simp, by simp; omega, Lib.hid (tk_snoc HT.out HX.out), ⟨g', cap', by simp, by simpa using HO6.out⟩, hB9⟩
          case measure => simp [intOf]; omega
        · have hmn' : m.length = n := by omega
          have hmr : m = r := tk_end HT.out (by rw [HRL.out]; omega)
          have HMR := Lib.hid hmr
          have hg1 := (hown.lt g1 rfl).1
          have hfar : ∀ (i R' n' c' : Nat), us[i]? = some (Value.slice (some ⟨R', 0, none⟩) n' c') → R' ≠ g1 := fun i R' n' c' h => by
            have hil : i < R.length := by
              have a := HO.out.out.1
              have b := (List.getElem?_eq_some_iff.1 h).1
              omega
            obtain ⟨O', R1, c'', c1, hv, hu, h1, h2, h3, h4, _⟩ := HO.out.at (List.getElem?_eq_getElem hil)
            obtain ⟨e, _⟩ := own_slot hu h
            omega
          have HF := Lib.hid hfar
          have hO5 := HO.out.kept hB1
          have hout5 := hO5.out
          have hszw := hBw.size
          have hrowB : wr.ownsRow w.heap.size 48 2 (.slice (some ⟨g1, 0, none⟩) m.length cap1) m.length (cz m) := by
            rcases hown.2 with ⟨e, e2⟩ | ⟨g, cap, cur, e, hg, r⟩
            · exact ⟨hown.1, .inl ⟨e, e2⟩⟩
            · exact ⟨hown.1, .inr ⟨g, cap, cur, e, Nat.le_trans hsz0 hg, r⟩⟩
          have HO5 := Lib.hid hO5
          have HRB := Lib.hid hrowB
          clear hO5 hrowB hown hfar hmr hmn'
          go_wp2_with (at_builtin; refine wpList_append_own _ rfl (.tmp 31) (.tmp 33) 25 rfl w.heap.size 22 p0 (.slice none 0 0) 1 24 Tryz.underlying25 pi pz0 pz1 pz2 rfl (by decide) (.slice (some ⟨g, 0, none⟩) R.length cap) R.length _ rfl (hout5.alloc _) ⟨wr.heap.size, 0, none⟩ 1 1 [.slice (some ⟨g1, 0, none⟩) m.length cap1] rfl rfl (new_one _ _ _) (one_sl _ _ _) (by unfold maxLen; omega) (by omega) (by first | omega | (simp; omega)) ?_)
          have hBa : Below wr.heap.size wr (wr.alloc (.cells #[Value.slice (some ⟨g1, 0, none⟩) m.length cap1] 22)) := (Below.refl _ _).alloc (Nat.le_refl _) _
          intro v' w6 hown' hgrow _
          obtain ⟨g', cap', rfl⟩ := ownsRow_succ hown'
          have hB9 : Below w.heap.size w w6 := Below.grown (hBw.trans (hBa.mono hszw)) hgrow (by first | omega | (simp; omega)) (fun q hq => (hout5.lt q hq).1)
          have hP : OwnM w.heap.size w6 (.slice (some ⟨g', 0, none⟩) (R.length + 1) cap') (us ++ [.slice (some ⟨g1, 0, none⟩) m.length cap1]) (R ++ [m]) :=
            OwnM.push (HO5.out.kept hBa) (HRB.out.kept (grown_below hBa) (.inr (by simp [Value.ownBlock]))) HF.out hown' hgrow
          have HPP := Lib.hid hP
          clear hP hown' hgrow hout5
          go_wp2_with (fail)
          go_roundw
          case rel => exact ⟨R ++ [m], _, g', cap', by simp, by simp; omega, by simp, Lib.hid (tk_snoc HS.out (by rw [HMR.out]; exact HRK.out)), HPP, hB9⟩
          case measure => simp [intOf]; omega
    · have hPl : R.length = n := by omega
      have HPL := Lib.hid hPl
      clear hPl
      go_wp2_with (fail)
      go_ret
      have e := tk_end HS.out (by rw [HML.out, HPL.out]; exact Nat.le_refl _)
      refine ⟨_, us, rfl, ?_, hB⟩
      rw [← e]
      exact HO.out
theorem r4transp (v : Value) (M : List (List (Int × Int))) (n : Nat) (w : World) (hv : Mx w v M) (hM : Sq n M) (h1 : 1 ≤ n) (h6 : n ≤ 6) :
    Calls Tryz.prog 19 #[v] w fun e w' => ∃ u, e = .returned u ∧ Mx w' u (trM n M) ∧ Below w.heap.size w w' := by
  refine (r4transp_o v M n w hv hM h1 h6).mono ?_
  rintro e w' ⟨u, us, rfl, ho, hB⟩
  have hs := sq_trM hM
  exact ⟨u, rfl, ho.mx (by rw [hs.1]; unfold maxLen; omega) fun r hr => by rw [(hs.2 r hr).1]; unfold maxLen; omega, hB⟩
set_option maxHeartbeats 16000000 in
theorem r4mid (v : Value) (M : List (List (Int × Int))) (n : Nat) (w : World) (hv : Mx w v M) (hM : Sq n M) (h1 : 1 ≤ n) (h6 : n ≤ 6) :
    Calls Tryz.prog 23 #[v] w fun e w' => ∃ u, e = .returned u ∧ Nx w' u (M.map (List.map midI)) ∧ Below w.heap.size w w' := by
  obtain ⟨i0, hi, hz0, hz1, hz2⟩ := info_parts info_i64
  obtain ⟨p0, pi, pz0, pz1, pz2⟩ := info_parts info_nrow
  obtain ⟨p, c, rfl⟩ := hv.shape hM.1
  have HV := Lib.hid hv
  have HM := Lib.hid hM
  have hml : (M.map (List.map midI)).length = n := by rw [List.length_map, hM.1]
  have hrows : ∀ i, i < n → ∃ r, (M.map (List.map midI))[i]? = some r ∧ r.length = n ∧ ∀ s, M[i]? = some s → ∀ t q, s[t]? = some q → r[t]? = some (midI q) := fun i hi => by
    have hil : i < M.length := by rw [hM.1]; exact hi
    refine ⟨M[i].map midI, by rw [List.getElem?_map, List.getElem?_eq_getElem hil]; rfl, by rw [List.length_map, (hM.2 _ (List.getElem_mem hil)).1], fun s hs t q hq => ?_⟩
    rw [List.getElem?_eq_getElem hil] at hs
    rw [Option.some.inj hs, List.getElem?_map, hq]
    rfl
  obtain ⟨T, hT⟩ : ∃ T, M.map (List.map midI) = T := ⟨_, rfl⟩
  rw [hT] at hml hrows ⊢
  have HML := Lib.hid hml
  have HRW := Lib.hid hrows
  clear hv hM hml hrows hT
  go_enter Tryz.func23, Tryz.ntmps23
  go_wp2_with (fail)
  go_loopw [3, 4] (fun u i wr => ∃ (R : List (List (Int))) (us : List Value) (g cap : Nat), i = .int .i64 R.length ∧ R.length ≤ n ∧ u = .slice (some ⟨g, 0, none⟩) R.length cap ∧ Hid (R = T.take R.length) ∧ Hid (OwnN w.heap.size wr u us R) ∧ Below w.heap.size w wr) (fun _ i _ => n - (intOf i).toNat)
  case atStart =>
    exact ⟨[], [], w.heap.size, 0, rfl, Nat.zero_le _, rfl, Lib.hid (by simp), Lib.hid ⟨by simpa using World.ownsRow_made (e := 26) (size := 1) w #[] 0 (Nat.le_refl _) (by decide) rfl, fun i r h => by simp at h⟩, (Below.refl _ _).alloc (Nat.le_refl _) _⟩
  case round =>
    obtain ⟨R, us, g, cap, rfl, hPn, rfl, HS, HO, hB⟩ := hrel
    by_cases hlt : R.length < n
    · have ik : (R.length : Int) < n := by omega
      obtain ⟨r, hrk, hrl, hre⟩ := HRW.out R.length hlt
      have HRL := Lib.hid hrl
      have HRK := Lib.hid hrk
      have HRE := Lib.hid hre
      obtain ⟨W0, rfl⟩ : ∃ W0, W0 = wr := ⟨_, rfl⟩
      have hsz0 := hB.size
      have hBa : Below W0.heap.size W0 (W0.alloc (.cells #[] 2)) := (Below.refl _ _).alloc (Nat.le_refl _) _
      have hJ0 : OwnJ W0.heap.size (W0.alloc (.cells #[] 2)) (.slice (some ⟨W0.heap.size, 0, none⟩) 0 0) [] := ⟨W0.heap.size, 0, rfl, by simpa [cy] using World.ownsRow_made (e := 2) (size := 1) W0 #[] 0 (Nat.le_refl _) (by decide) rfl⟩
      clear hrk hrl hre
      go_wp2_with (fail)
      go_loopw [5, 6] (fun u i wr => ∃ m : List (Int), i = .int .i64 m.length ∧ m.length ≤ n ∧ Hid (m = r.take m.length) ∧ OwnJ W0.heap.size wr u m ∧ Below W0.heap.size W0 wr) (fun _ i _ => n - (intOf i).toNat)
      case atStart => exact ⟨[], rfl, Nat.zero_le _, Lib.hid (by simp), hJ0, hBa⟩
      case round =>
        clear hJ0 hBa
        obtain ⟨m, rfl, hm, HT, ⟨g1, cap1, rfl, hown⟩, hB1⟩ := hrel
        have hBw : Below w.heap.size w wr := below_then hB hB1
        by_cases hmn : m.length < n
        · have im : (m.length : Int) < n := by omega
          obtain ⟨s, hs⟩ : ∃ s, M[R.length]? = some s := ⟨_, List.getElem?_eq_getElem (by rw [HM.out.1]; omega)⟩
          obtain ⟨hsl, hsv⟩ := HM.out.2 s (List.mem_of_getElem? hs)
          obtain ⟨x, y, hx⟩ : ∃ x y, s[m.length]? = some (x, y) := ⟨(s[m.length]'(by omega)).1, (s[m.length]'(by omega)).2, List.getElem?_eq_getElem _⟩
          have hxv : VB (x, y) := hsv _ (List.mem_of_getElem? hx)
          obtain ⟨b, o, u, hp, hb, rd⟩ := HV.out.rd grows_bx hs
          subst hp
          have hbx := (rd ⟨w, Below.refl _ _⟩).2.2
          dsimp only at hbx
          obtain ⟨p2, c2, rfl⟩ := hbx.shape hsl
          have fO := (rd ⟨wr, hBw⟩).2.1
          obtain ⟨b2, o2, rfl, hb2, rd2⟩ := hbx.rd2 hx
          have f1 := (rd2 ⟨wr, hBw⟩).2.1
          have f2 := (rd2 ⟨wr, hBw⟩).2.2
          dsimp only at fO f1 f2
          obtain ⟨z, hzz⟩ : ∃ z, (x + y) / 2 = z := ⟨_, rfl⟩
          have HX := Lib.hid (HRE.out s hs m.length (x, y) hx)
          rw [show midI (x, y) = z from hzz] at HX
          obtain ⟨v1, v2, v3, v4⟩ := VI.bd4 (p := (x, y)) hxv
          have hc := fun w => r2mid x y w v1 v2 v3 v4
          rw [hzz] at hc
          have HC := Lib.hid hc
          clear rd rd2 hbx hs hsl hsv hx hxv v1 v2 v3 v4 hc hzz
          go_wp2_with (fail)
          refine (HC.out _).mono ?_
          rintro e w5 ⟨rfl, hB5⟩
          have hrow5 := hown.kept (grown_below hB5) (.inr (by simp [Value.ownBlock]))
          have hB6 : Below W0.heap.size W0 w5 := below_then hB1 hB5
          have hsz6 := hB6.size
          clear hown
          go_wp2_with (at_builtin; refine wpList_append_own _ rfl (.tmp 21) (.tmp 30) 26 rfl W0.heap.size 2 i0 (.int .i64 0) 1 8 Tryz.underlying26 hi hz0 hz1 hz2 rfl (by decide) (.slice (some ⟨g1, 0, none⟩) m.length cap1) m.length _ rfl (hrow5.alloc _) ⟨w5.heap.size, 0, none⟩ 1 1 [.int .i64 z] rfl rfl (new_one _ _ _) (one_i64 z) (by unfold maxLen; omega) (by omega) (by first | omega | (simp; omega)) ?_)
          have hB8 := hB6.alloc hsz6 (.cells #[.int .i64 z] 2)
          intro v' w6 hown' hgrow _
          obtain ⟨g', cap', rfl⟩ := ownsRow_succ hown'
          have hB9 : Below W0.heap.size W0 w6 := Below.grown hB8 hgrow (by first | omega | (simp; omega)) (fun q hq => (hrow5.lt q hq).1)
          rw [← cy_snoc] at hown'
          have HO6 := Lib.hid hown'
          clear hown' hgrow hrow5
          go_wp2_with (fail)
          go_roundw
          case rel => exact ⟨m ++ [z], by simp, by simp; omega, Lib.hid (tk_snoc HT.out HX.out), ⟨g', cap', by simp, by simpa using HO6.out⟩, hB9⟩
          case measure => simp [intOf]; omega
        · have hmn' : m.length = n := by omega
          have hmr : m = r := tk_end HT.out (by rw [HRL.out]; omega)
          have HMR := Lib.hid hmr
          have hg1 := (hown.lt g1 rfl).1
          have hO5 := HO.out.kept hB1
          have hout5 := hO5.out
          have hszw := hBw.size
          have hrowB : wr.ownsRow w.heap.size 2 1 (.slice (some ⟨g1, 0, none⟩) m.length cap1) m.length (cy m) := by
            rcases hown.2 with ⟨e, e2⟩ | ⟨g, cap, cur, e, hg, r⟩
            · exact ⟨hown.1, .inl ⟨e, e2⟩⟩
            · exact ⟨hown.1, .inr ⟨g, cap, cur, e, Nat.le_trans hsz0 hg, r⟩⟩
          have HO5 := Lib.hid hO5
          have HRB := Lib.hid hrowB
          clear hO5 hrowB hown hmr hmn'
          go_wp2_with (at_builtin; refine wpList_append_own _ rfl (.tmp 32) (.tmp 34) 31 rfl w.heap.size 26 p0 (.slice none 0 0) 1 24 Tryz.underlying31 pi pz0 pz1 pz2 rfl (by decide) (.slice (some ⟨g, 0, none⟩) R.length cap) R.length _ rfl (hout5.alloc _) ⟨wr.heap.size, 0, none⟩ 1 1 [.slice (some ⟨g1, 0, none⟩) m.length cap1] rfl rfl (new_one _ _ _) (one_sl _ _ _) (by unfold maxLen; omega) (by omega) (by first | omega | (simp; omega)) ?_)
          have hBa : Below wr.heap.size wr (wr.alloc (.cells #[Value.slice (some ⟨g1, 0, none⟩) m.length cap1] 26)) := (Below.refl _ _).alloc (Nat.le_refl _) _
          intro v' w6 hown' hgrow _
          obtain ⟨g', cap', rfl⟩ := ownsRow_succ hown'
          have hB9 : Below w.heap.size w w6 := Below.grown (hBw.trans (hBa.mono hszw)) hgrow (by first | omega | (simp; omega)) (fun q hq => (hout5.lt q hq).1)
          have hP : OwnN w.heap.size w6 (.slice (some ⟨g', 0, none⟩) (R.length + 1) cap') (us ++ [.slice (some ⟨g1, 0, none⟩) m.length cap1]) (R ++ [m]) :=
            OwnN.push (HO5.out.kept hBa) (HRB.out.kept (grown_below hBa) (.inr (by simp [Value.ownBlock]))) hown' hgrow
          have HPP := Lib.hid hP
          clear hP hown' hgrow hout5
          go_wp2_with (fail)
          go_roundw
          case rel => exact ⟨R ++ [m], _, g', cap', by simp, by simp; omega, by simp, Lib.hid (tk_snoc HS.out (by rw [HMR.out]; exact HRK.out)), HPP, hB9⟩
          case measure => simp [intOf]; omega
    · have hPl : R.length = n := by omega
      have HPL := Lib.hid hPl
      clear hPl
      go_wp2_with (fail)
      go_ret
      have e := tk_end HS.out (by rw [HML.out, HPL.out]; exact Nat.le_refl _)
      refine ⟨_, rfl, ?_, hB⟩
      rw [← e]
      exact HO.out.nx (by rw [HPL.out]; unfold maxLen; omega) fun r hr => by
        rw [e] at hr
        obtain ⟨i, hi⟩ := List.getElem?_of_mem hr
        have hin : i < n := by have := (List.getElem?_eq_some_iff.1 hi).1; rw [HML.out] at this; exact this
        obtain ⟨r', h1, h2, _⟩ := HRW.out i hin
        rw [hi] at h1
        rw [Option.some.inj h1, h2]
        unfold maxLen
        omega
theorem own_cutM {B n : Nat} {w : World} {v : Value} {us : List Value} {M : List (List (Int × Int))} (h : OwnM B w v us M) (hn : M.length = n) (h1 : 1 ≤ n) : ∃ O c', v = .slice (some ⟨O, 0, none⟩) n c' := by
  obtain ⟨O, R, c', c, hv, _⟩ := h.at (List.getElem?_eq_getElem (show 0 < M.length by omega))
  rw [hn] at hv
  exact ⟨O, c', hv⟩
theorem own_ne {B s n k0 : Nat} {W : World} {t : TypeId} {v : Value} {xs : List Value} (h : W.ownsRow B t s v n xs) (hk : k0 < B) : v.ownBlock = none ∨ v.ownBlock ≠ some k0 := by
  rcases h.2 with ⟨e, _⟩ | ⟨g, c, cur, e, hg, _⟩
  · exact .inl (by rw [e]; rfl)
  · refine .inr ?_
    rw [e]
    simp only [Value.ownBlock, ne_eq, Option.some.injEq]
    omega
/-- A matrix of the call's own stays where an older block alone is written. -/
theorem OwnM.keptBy {B k0 : Nat} {w w' : World} {v : Value} {us : List Value} {M : List (List (Int × Int))} (h : OwnM B w v us M) (hg : w.grownBy w' (some k0)) (hk : k0 < B) : OwnM B w' v us M :=
  ⟨h.out.kept hg (own_ne h.out hk), fun i r hr => by
    obtain ⟨R, c, h1, h2⟩ := h.row i r hr
    exact ⟨R, c, h1, h2.kept hg (own_ne h2 hk)⟩, h.far⟩
theorem grow_off {w1 wr w5 w6 : World} {k0 g : Nat} (h : w1.grownBy wr (some k0)) (hB : Below wr.heap.size wr w5) (hg : w5.grownBy w6 (some g)) (hgg : g = k0 ∨ w1.heap.size ≤ g) : w1.grownBy w6 (some k0) := by
  have h2 := grown_below hB
  refine ⟨hg.os.trans (h2.os.trans h.os), hg.tape.trans (h2.tape.trans h.tape), hg.output.trans (h2.output.trans h.output), Nat.le_trans h.size (Nat.le_trans h2.size hg.size), fun k hk hne => ?_⟩
  have e1 := h.block k hk hne
  have e2 := h2.block k (Nat.lt_of_lt_of_le hk h.size) (fun q => by cases q)
  have e3 := hg.block k (Nat.lt_of_lt_of_le hk (Nat.le_trans h.size h2.size)) (fun q => by
    have q' := Option.some.inj q
    rcases hgg with e | e
    · exact hne (by rw [q', e])
    · omega)
  exact e3.trans (e2.trans e1)
theorem mul_cols {n : Nat} {A B : List (List (Int × Int))} (hA : Sq n A) (hB : Sq n B) : trM n ((trM n B).map fun t => apM A t) = mulT n A B := by
  have hTl : (trM n B).length = n := (sq_trM hB).1
  unfold mulT mulM
  apply List.ext_getElem?
  intro i
  by_cases hi : i < n
  · have hil : i < A.length := by rw [hA.1]; exact hi
    rw [show (trM n ((trM n B).map fun t => apM A t))[i]? = some (rowOf (trF (0, 0) ((trM n B).map fun t => apM A t)) n i) from mat_rowM hi, List.getElem?_map, List.getElem?_eq_getElem hil, Option.map_some]
    congr 1
    apply List.ext_getElem?
    intro j
    by_cases hj : j < n
    · have hjl : j < (trM n B).length := by rw [hTl]; exact hj
      rw [row_atM hj, List.getElem?_map, List.getElem?_eq_getElem hjl, Option.map_some]
      congr 1
      exact trF_at (r := apM A (trM n B)[j]) (by rw [List.getElem?_map, List.getElem?_eq_getElem hjl]; rfl) (by unfold apM; rw [List.getElem?_map, List.getElem?_eq_getElem hil]; rfl)
    · rw [List.getElem?_eq_none (by simp [rowOf]; omega), List.getElem?_eq_none (by rw [List.length_map, hTl]; omega)]
  · rw [List.getElem?_eq_none (by unfold trM matOf; rw [List.length_map, List.length_range]; omega), List.getElem?_eq_none (by rw [List.length_map, hA.1]; omega)]
set_option maxHeartbeats 16000000 in
theorem r4mul (va vb : Value) (A B : List (List (Int × Int))) (n : Nat) (w : World) (ha : Mx w va A) (hb : Mx w vb B) (hA : Sq n A) (hB : Sq n B) (h1 : 1 ≤ n) (h6 : n ≤ 6) :
    Calls Tryz.prog 14 #[va, vb] w fun e w' => ∃ u, e = .returned u ∧ Mx w' u (mulT n A B) ∧ Below w.heap.size w w' := by
  obtain ⟨p0, pi, pz0, pz1, pz2⟩ := info_parts info_row
  have HRES := Lib.hid (mul_cols hA hB)
  have hT := sq_trM hB
  have hCsq : Sq n ((trM n B).map fun t => apM A t) := ⟨by rw [List.length_map, hT.1], fun r hr => by
    rw [List.mem_map] at hr
    obtain ⟨t, _, rfl⟩ := hr
    refine ⟨by unfold apM; rw [List.length_map, hA.1], fun p hp => ?_⟩
    unfold apM at hp
    rw [List.mem_map] at hp
    obtain ⟨_, _, rfl⟩ := hp
    exact dotI_vb _⟩
  obtain ⟨pb, cb, rfl⟩ := hb.shape hB.1
  have HA := Lib.hid ha
  have HB := Lib.hid hb
  have QA := Lib.hid hA
  have QB := Lib.hid hB
  obtain ⟨T, hTT⟩ : ∃ T, trM n B = T := ⟨_, rfl⟩
  have HTT := Lib.hid hTT
  rw [hTT] at hT hCsq HRES
  obtain ⟨C, hCC⟩ : ∃ C, (T.map fun t => apM A t) = C := ⟨_, rfl⟩
  have HCC := Lib.hid hCC
  rw [hCC] at hCsq HRES
  have QT := Lib.hid hT
  have QC := Lib.hid hCsq
  clear ha hb hA hB hT hCsq hTT hCC
  go_enter Tryz.func14, Tryz.ntmps14
  go_wp2_with (fail)
  have hW : Below w.heap.size w (w.alloc (.cells #[] 22)) := (Below.refl _ _).alloc (Nat.le_refl _) _
  refine (r4transp_o _ B n _ (HB.out.grow grows_bx hW) QB.out h1 h6).mono ?_
  rintro e w1 ⟨vt, ut, rfl, ht, hB1⟩
  rw [HTT.out] at ht
  obtain ⟨ot, ct, rfl⟩ := own_cutM ht QT.out.1 h1
  have hsa : (w.alloc (.cells #[] 22)).heap.size = w.heap.size + 1 := by simp
  rw [hsa] at ht
  have hz1' : w.heap.size + 1 ≤ w1.heap.size := by rw [← hsa]; exact hB1.size
  have hT1 := below_then hW hB1
  have hO0 : OwnM w.heap.size w1 (.slice (some ⟨w.heap.size, 0, none⟩) 0 0) [] [] := (⟨by simpa using World.ownsRow_made (e := 22) (size := 1) w #[] 0 (Nat.le_refl _) (by decide) rfl, fun i r h => by simp at h, fun i j R n c n' c' h => by simp at h⟩ : OwnM w.heap.size (w.alloc (.cells #[] 22)) (.slice (some ⟨w.heap.size, 0, none⟩) 0 0) [] []).kept hB1
  have HT := Lib.hid ht
  have HO0 := Lib.hid hO0
  clear ht hO0 hB1
  go_wp2_with (fail)
  go_loopw [5, 7] (fun u i wr => ∃ (R : List (List (Int × Int))) (us : List Value) (g cap : Nat), i = .int .i64 R.length ∧ R.length ≤ n ∧ u = .slice (some ⟨g, 0, none⟩) R.length cap ∧ Hid (R = C.take R.length) ∧ Hid (OwnM w.heap.size wr u us R) ∧ (g = w.heap.size ∨ w1.heap.size ≤ g) ∧ Hid (w1.grownBy wr (some w.heap.size)) ∧ Below w.heap.size w wr) (fun _ i _ => n - (intOf i).toNat)
  case atStart => exact ⟨[], [], w.heap.size, 0, rfl, Nat.zero_le _, rfl, Lib.hid (by simp), HO0, .inl rfl, Lib.hid ⟨rfl, rfl, rfl, Nat.le_refl _, fun _ _ _ => rfl⟩, hT1⟩
  case round =>
    clear HO0
    obtain ⟨R, us, g, cap, rfl, hPn, rfl, HS, HO, hgg, HG, hBw⟩ := hrel
    by_cases hlt : R.length < n
    · have ik : (R.length : Int) < n := by omega
      obtain ⟨t, ht⟩ : ∃ t, T[R.length]? = some t := ⟨_, List.getElem?_eq_getElem (by rw [QT.out.1]; exact hlt)⟩
      obtain ⟨htl, htv⟩ := QT.out.2 t (List.mem_of_getElem? ht)
      have HX : Hid (C[R.length]? = some (apM A t)) := Lib.hid (by rw [← HCC.out, List.getElem?_map, ht]; rfl)
      have hmt : Mx wr (.slice (some ⟨ot, 0, none⟩) n ct) T := (HT.out.keptBy HG.out (by omega)).mx (by rw [QT.out.1]; unfold maxLen; omega) fun r hr => by rw [(QT.out.2 r hr).1]; unfold maxLen; omega
      obtain ⟨b, o, u, hp, hb, rd⟩ := hmt.rd grows_bx ht
      simp only [Option.some.injEq, Addr.mk.injEq, and_true] at hp
      obtain ⟨rfl, rfl⟩ := hp
      have hbx := (rd ⟨wr, Below.refl _ _⟩).2.2
      have fO := (rd ⟨wr, Below.refl _ _⟩).2.1
      dsimp only at hbx fO
      rw [Nat.zero_add] at fO
      obtain ⟨p2, c2, rfl⟩ := hbx.shape htl
      have hml : (apM A t).length = n := by unfold apM; rw [List.length_map, QA.out.1]
      have HC := Lib.hid (r4apply_o va _ A t n wr (HA.out.grow grows_bx hBw) hbx QA.out htl htv h1 h6)
      obtain ⟨m, hmm⟩ : ∃ m, apM A t = m := ⟨_, rfl⟩
      rw [hmm] at HX HC hml
      have HML := Lib.hid hml
      have hszw := hBw.size
      clear rd hbx hml hmm ht htl htv hmt
      go_wp2_with (fail)
      refine HC.out.mono ?_
      rintro e w5 ⟨u', rfl, ⟨g1, cap1, rfl, hown⟩, hB5⟩
      have hB6 := below_then hBw hB5
      have hg1 := (hown.lt g1 rfl).1
      have hfar : ∀ (i R' n' c' : Nat), us[i]? = some (Value.slice (some ⟨R', 0, none⟩) n' c') → R' ≠ g1 := fun i R' n' c' h => by
        have hil : i < R.length := by
          have a := HO.out.out.1
          have b := (List.getElem?_eq_some_iff.1 h).1
          omega
        obtain ⟨O', R1, c'', c1, hv, hu, h1, h2, h3, h4, _⟩ := HO.out.at (List.getElem?_eq_getElem hil)
        obtain ⟨e, _⟩ := own_slot hu h
        omega
      have HF := Lib.hid hfar
      have hO5 := HO.out.kept hB5
      have hout5 := hO5.out
      have hsz6 := hB6.size
      have hrowB : w5.ownsRow w.heap.size 48 2 (.slice (some ⟨g1, 0, none⟩) m.length cap1) m.length (cz m) := by
        rcases hown.2 with ⟨e, e2⟩ | ⟨g, cap, cur, e, hg, r⟩
        · exact ⟨hown.1, .inl ⟨e, e2⟩⟩
        · exact ⟨hown.1, .inr ⟨g, cap, cur, e, Nat.le_trans hszw hg, r⟩⟩
      have HO5 := Lib.hid hO5
      have HRB := Lib.hid hrowB
      clear hO5 hrowB hown hfar fO
      go_wp2_with (at_builtin; refine wpList_append_own_at _ rfl (.tmp 17) (.tmp 24) 25 rfl w.heap.size 22 p0 (.slice none 0 0) 1 24 Tryz.underlying25 pi pz0 pz1 pz2 rfl (by decide) (.slice (some ⟨g, 0, none⟩) R.length cap) R.length _ rfl (hout5.alloc _) ⟨w5.heap.size, 0, none⟩ 1 1 [.slice (some ⟨g1, 0, none⟩) m.length cap1] rfl rfl (new_one _ _ _) (one_sl _ _ _) (by unfold maxLen; omega) (by omega) (by first | omega | (simp; omega)) ?_)
      have hBa : Below w5.heap.size w5 (w5.alloc (.cells #[Value.slice (some ⟨g1, 0, none⟩) m.length cap1] 22)) := (Below.refl _ _).alloc (Nat.le_refl _) _
      intro v' w6 hown' hgrow _ hat
      obtain ⟨g', cap', rfl⟩ := ownsRow_succ hown'
      have hP : OwnM w.heap.size w6 (.slice (some ⟨g', 0, none⟩) (R.length + 1) cap') (us ++ [.slice (some ⟨g1, 0, none⟩) m.length cap1]) (R ++ [m]) :=
        OwnM.push (HO5.out.kept hBa) (HRB.out.kept (grown_below hBa) (.inr (by simp [Value.ownBlock]))) HF.out hown' hgrow
      have HPP := Lib.hid hP
      have hB9 : Below w.heap.size w w6 := Below.grown (hB6.trans (hBa.mono hsz6)) hgrow (by first | omega | (simp; omega)) (fun q hq => (hout5.lt q hq).1)
      have hg2 : g' = w.heap.size ∨ w1.heap.size ≤ g' := by
        simp only [Value.ownBlock, Option.some.injEq] at hat
        rcases hat with e | e
        · rw [e]; exact hgg
        · right
          rw [e]
          have a1 := HG.out.size
          have a2 := hB5.size
          have a3 := hBa.size
          omega
      have HG2 := Lib.hid (grow_off HG.out (below_then hB5 hBa) hgrow hgg)
      clear hP hown' hgrow hout5 hat
      go_wp2_with (fail)
      go_roundw
      case rel => exact ⟨R ++ [m], _, g', cap', by simp, by simp; omega, by simp, Lib.hid (tk_snoc HS.out HX.out), HPP, hg2, HG2, hB9⟩
      case measure => simp [intOf]; omega
    · have hPl : R.length = n := by omega
      have HPL := Lib.hid hPl
      have e := tk_end HS.out (by rw [QC.out.1, hPl]; exact Nat.le_refl _)
      have hmx : Mx wr (.slice (some ⟨g, 0, none⟩) R.length cap) C := by
        have := HO.out.mx (by rw [hPl]; unfold maxLen; omega) fun r hr => by
          rw [e] at hr
          rw [(QC.out.2 r hr).1]
          unfold maxLen
          omega
        rw [← e]
        exact this
      have HM := Lib.hid hmx
      clear hPl e hmx
      go_wp2_with (fail)
      refine (r4transp _ C n _ HM.out QC.out h1 h6).mono ?_
      rintro e w5 ⟨u5, rfl, hu5, hB5⟩
      rw [HRES.out] at hu5
      go_wp2_with (fail)
      go_ret
      exact ⟨_, rfl, hu5, below_then hBw hB5⟩
end Go.Proofs.YtmcdkbnpcmiojaaGreat
