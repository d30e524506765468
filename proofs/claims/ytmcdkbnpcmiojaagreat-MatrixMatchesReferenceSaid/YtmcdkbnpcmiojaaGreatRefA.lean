/-
  The reference's Apply and FromNumbers of matrices, its Point of boxes.
-/
import Derived.Test.YtmcdkbnpcmiojaaGreatRef4
import Derived.Test.YtmcdkbnpcmiojaaGreatK4
import Derived.Test.YtmcdkbnpcmiojaaGreatR6
namespace Go.Proofs.YtmcdkbnpcmiojaaGreat
open Go.ChangeShapes Go.WideShapes Go.ChangeAt Go.RowKit
set_option linter.unusedVariables false
set_option linter.unusedSimpArgs false
set_option maxRecDepth 100000

attribute [local irreducible] Calls
theorem tk_snoc {α : Type} {m l : List α} {z : α} (h : m = l.take m.length) (hz : l[m.length]? = some z) : m ++ [z] = l.take (m ++ [z]).length := by
  rw [List.length_append, List.length_singleton, List.take_add_one, hz, ← h]
  rfl
theorem tk_end {α : Type} {m l : List α} (h : m = l.take m.length) (hl : l.length ≤ m.length) : m = l := by
  rw [List.take_of_length_le hl] at h
  exact h
theorem mp_some {α β : Type} {l : List α} {g : α → β} {k : Nat} {x : α} (h : l[k]? = some x) : (l.map g)[k]? = some (g x) := by rw [List.getElem?_map, h]; rfl
set_option maxHeartbeats 8000000 in
theorem r4apply_o (vm vb : Value) (M : List (List (Int × Int))) (d : List (Int × Int)) (n : Nat) (w : World) (hm : Mx w vm M) (hb : Bx w vb d) (hM : Sq n M) (hd : d.length = n) (hV : ∀ p ∈ d, VB p) (h1 : 1 ≤ n) (h6 : n ≤ 6) :
    Calls Tryz.prog 17 #[vm, vb] w fun e w' => ∃ u, e = .returned u ∧ OwnB w.heap.size w' u (apM M d) ∧ Below w.heap.size w w' := by
  obtain ⟨i0, hi, hz0, hz1, hz2⟩ := info_parts info_iv
  obtain ⟨p, c, rfl⟩ := hm.shape hM.1
  obtain ⟨q, c', rfl⟩ := hb.shape hd
  have HV := Lib.hid hm
  have HB := Lib.hid hb
  have HM := Lib.hid hM
  have HD := Lib.hid hd
  have HVB := Lib.hid hV
  have hal : (apM M d).length = n := by unfold apM; rw [List.length_map, hM.1]
  have HAL := Lib.hid hal
  have n0 : (0 : Int) < n := by omega
  clear hm hb hM hV hal hd
  go_enter Tryz.func17, Tryz.ntmps17
  go_wp2_with (fail)
  go_loopw [5, 6] (fun u i wr => ∃ m : List (Int × Int), i = .int .i64 m.length ∧ m.length ≤ n ∧ Hid (m = (apM M d).take m.length) ∧ OwnB w.heap.size wr u m ∧ Below w.heap.size w wr) (fun _ i _ => n - (intOf i).toNat)
  case atStart => exact ⟨[], rfl, Nat.zero_le _, Lib.hid (by simp), ⟨w.heap.size, 0, rfl, by simpa [cz] using World.ownsRow_made (e := 48) (size := 2) w #[] 0 (Nat.le_refl _) (by decide) rfl⟩, (Below.refl _ _).alloc (Nat.le_refl _) _⟩
  case round =>
    obtain ⟨m, rfl, hml, HT, ⟨g, cap, rfl, hown⟩, hB⟩ := hrel
    by_cases hlt : m.length < n
    · have ik : (m.length : Int) < n := by omega
      obtain ⟨r, hrk⟩ : ∃ r, M[m.length]? = some r := ⟨_, List.getElem?_eq_getElem (by rw [HM.out.1]; exact hlt)⟩
      obtain ⟨hrl, hrv⟩ := HM.out.2 r (List.mem_of_getElem? hrk)
      have HRK := Lib.hid hrk
      have HRL := Lib.hid hrl
      have HRV := Lib.hid hrv
      have hbx : ∃ u, Bx w u r ∧ ∃ b o, p = some ⟨b, o, none⟩ ∧ b < w.heap.size ∧ ∀ g : Grown w, g.w.cell? ⟨b, o + m.length, none⟩ = some u := by
        obtain ⟨b, o, u, hp, hb, rd⟩ := HV.out.rd grows_bx hrk
        exact ⟨u, (rd ⟨w, Below.refl _ _⟩).2.2, b, o, hp, hb, fun g => (rd g).2.1⟩
      obtain ⟨u, hbx, b, o, rfl, hb, rdO⟩ := hbx
      obtain ⟨p2, c2, rfl⟩ := hbx.shape hrl
      have HBX := Lib.hid hbx
      have HRO := Lib.hid rdO
      obtain ⟨W0, rfl⟩ : ∃ W0, W0 = wr := ⟨_, rfl⟩
      have fO := rdO ⟨W0, hB⟩
      dsimp only at fO
      have hbW : b < W0.heap.size := Nat.lt_of_lt_of_le hb hB.size
      clear rdO hbx hrk hrv hrl
      obtain ⟨x, y, hx⟩ : ∃ x y, r[0]? = some (x, y) := ⟨(r[0]'(by rw [HRL.out]; omega)).1, (r[0]'(by rw [HRL.out]; omega)).2, List.getElem?_eq_getElem _⟩
      obtain ⟨z1, z2, hy⟩ : ∃ x y, d[0]? = some (x, y) := ⟨(d[0]'(by rw [HD.out]; omega)).1, (d[0]'(by rw [HD.out]; omega)).2, List.getElem?_eq_getElem _⟩
      have hz : (r.zip d)[0]? = some ((x, y), (z1, z2)) := List.getElem?_zip_eq_some.2 ⟨hx, hy⟩
      have hv1 : VI x y := HRV.out _ (List.mem_of_getElem? hx)
      have hv2 : VI z1 z2 := HVB.out _ (List.mem_of_getElem? hy)
      obtain ⟨ba, oa, hpa, hba, rdA⟩ := (HBX.out.grow hB).rd2 hx
      obtain ⟨bb, ob, hpb, hbb, rdB⟩ := (HB.out.grow hB).rd2 hy
      subst hpa hpb
      have fA := (rdA ⟨W0, Below.refl _ _⟩).2.1
      have gA := (rdA ⟨W0, Below.refl _ _⟩).2.2
      have fB := (rdB ⟨W0, Below.refl _ _⟩).2.1
      have gB := (rdB ⟨W0, Below.refl _ _⟩).2.2
      dsimp only at fA gA fB gB
      clear rdA rdB
      rw [show oa + 0 * 2 = oa by omega] at fA
      rw [show oa + 0 * 2 + 1 = oa + 1 by omega] at gA
      rw [show ob + 0 * 2 = ob by omega] at fB
      rw [show ob + 0 * 2 + 1 = ob + 1 by omega] at gB
      obtain ⟨p1, p2, hp⟩ : ∃ p1 p2, mulI ((x, y), (z1, z2)) = (p1, p2) := ⟨_, _, rfl⟩
      have c1 := fun w => r2mul x y z1 z2 w hv1 hv2
      rw [show mulLo x y z1 z2 = p1 from congrArg Prod.fst hp, show mulHi x y z1 z2 = p2 from congrArg Prod.snd hp] at c1
      have HS1 : Hid ((p1, p2) = dotI ((r.zip d).take 1)) := Lib.hid (by
        have e : (r.zip d).take 1 = [((x, y), (z1, z2))] := by
          rw [show (1 : Nat) = 0 + 1 from rfl, List.take_add_one, hz]
          simp
        rw [e]
        show _ = addI (0, 0) (mulI ((x, y), (z1, z2)))
        rw [zero_addI (mul_vb _), hp])
      have C1 := Lib.hid c1
      have HOW := Lib.hid hown
      have hgw := hown.lt g rfl
      have hszB := hB.size
      clear c1 hp hz hx hy hv1 hv2 hown
      go_wp2_with (fail)
      refine region_data 11 48 _ (by kernel_rfl) new_iv (by kernel_rfl) ?_
      refine data_op (.slice (some ⟨b, o, none⟩) n c) rfl (RQ_pure (fun w => by simp [go_sem])) ?_
      simp only [Act.put, List.setIfInBounds_toArray, List.set_cons_succ, List.set_cons_zero]
      refine data_op (.int .i64 (m.length : Int)) rfl (RQ_pure (fun w => by simp [go_sem])) ?_
      simp only [Act.put, List.setIfInBounds_toArray, List.set_cons_succ, List.set_cons_zero]
      refine data_op (.pointer (some ⟨b, o + m.length, none⟩)) rfl (RQ_pure (fun w => by simp [go_sem, ik])) ?_
      simp only [Act.put, List.setIfInBounds_toArray, List.set_cons_succ, List.set_cons_zero]
      refine data_op (.slice (some ⟨ba, oa, none⟩) n c2) rfl (RQ_load rfl rfl (load_sl (fun w h => by simp [go_sem, h]) hbW fO)) ?_
      simp only [Act.put, List.setIfInBounds_toArray, List.set_cons_succ, List.set_cons_zero]
      refine data_op (.pointer (some ⟨ba, oa, none⟩)) rfl (RQ_pure (fun w => by simp [go_sem, n0, h1, show ¬ n = 0 by omega])) ?_
      simp only [Act.put, List.setIfInBounds_toArray, List.set_cons_succ, List.set_cons_zero]
      refine data_op _ rfl (RQ_load rfl rfl (load_iv_at hba fA gA)) ?_
      simp only [Act.put, List.setIfInBounds_toArray, List.set_cons_succ, List.set_cons_zero]
      refine data_op (.slice (some ⟨bb, ob, none⟩) n c') rfl (RQ_pure (fun w => by simp [go_sem])) ?_
      simp only [Act.put, List.setIfInBounds_toArray, List.set_cons_succ, List.set_cons_zero]
      refine data_op (.pointer (some ⟨bb, ob, none⟩)) rfl (RQ_pure (fun w => by simp [go_sem, n0, h1, show ¬ n = 0 by omega])) ?_
      simp only [Act.put, List.setIfInBounds_toArray, List.set_cons_succ, List.set_cons_zero]
      refine data_op _ rfl (RQ_load rfl rfl (load_iv_at hbb fB gB)) ?_
      simp only [Act.put, List.setIfInBounds_toArray, List.set_cons_succ, List.set_cons_zero]
      refine data_op _ rfl (RQ_call C1.out (fun _ => by simp [go_sem])) ?_
      simp only [Act.put, List.setIfInBounds_toArray, List.set_cons_succ, List.set_cons_zero]
      refine data_al rfl ?_
      simp only [Act.put, List.setIfInBounds_toArray, List.set_cons_succ, List.set_cons_zero]
      refine data_end ?_
      intro w5 hB5
      simp only [Act.put, List.drop_succ_cons, List.drop_zero, List.take_succ_cons, List.take_zero, alDsts, List.filterMap_cons, List.filterMap_nil, isAl, Bool.false_eq_true, if_false, if_true, finK]
      intro bs hs1 hs2 _ hbs
      simp only [Act.put, List.setIfInBounds_toArray, List.set_cons_succ, List.set_cons_zero]
      have hJ : IvBox w5 bs (0, 0) := hbs
      have j0 := hJ.cell0
      have j1 := hJ.cell1
      have j2 := hJ.frozen 0
      have j3 := hJ.frozen 1
      dsimp only at j0 j1
      have hK := hJ.set p1 p2
      have hB6 : Below W0.heap.size W0 ((w5.setCell ⟨bs, 0, none⟩ (.int .i64 p1)).setCell ⟨bs, 1, none⟩ (.int .i64 p2)) := (hB5.setCell (p := ⟨bs, 0, none⟩) hs1 _).setCell (p := ⟨bs, 1, none⟩) hs1 _
      clear hJ hbs fA gA fB gB fO hba hbb
      go_wp2_with (fail)
      go_loopw [8] (fun i wr => ∃ (k : Nat) (s1 s2 : Int), i = .int .i64 (k : Int) ∧ 1 ≤ k ∧ k ≤ n ∧ Hid ((s1, s2) = dotI ((r.zip d).take k)) ∧ IvBox wr bs (s1, s2) ∧ Below W0.heap.size W0 wr) (fun i _ => n - (intOf i).toNat)
      case atStart => exact ⟨1, p1, p2, rfl, Nat.le_refl _, h1, HS1, hK, hB6⟩
      case round =>
        clear hK hB6 HS1 j0 j1 j2 j3
        obtain ⟨k, s1, s2, rfl, hk1, hkn, HS, hIv, hB1⟩ := hrel
        have hBw := below_then hB hB1
        by_cases hlt2 : k < n
        · have i1 : (k : Int) < n := by omega
          obtain ⟨x, y, hx⟩ : ∃ x y, r[k]? = some (x, y) := ⟨(r[k]'(by rw [HRL.out]; omega)).1, (r[k]'(by rw [HRL.out]; omega)).2, List.getElem?_eq_getElem _⟩
          obtain ⟨z1, z2, hy⟩ : ∃ x y, d[k]? = some (x, y) := ⟨(d[k]'(by rw [HD.out]; omega)).1, (d[k]'(by rw [HD.out]; omega)).2, List.getElem?_eq_getElem _⟩
          have hz : (r.zip d)[k]? = some ((x, y), (z1, z2)) := List.getElem?_zip_eq_some.2 ⟨hx, hy⟩
          have hv1 : VI x y := HRV.out _ (List.mem_of_getElem? hx)
          have hv2 : VI z1 z2 := HVB.out _ (List.mem_of_getElem? hy)
          obtain ⟨ba', oa', hpa, hba, rdA⟩ := (HBX.out.grow hBw).rd2 hx
          obtain ⟨bb', ob', hpb, hbb, rdB⟩ := (HB.out.grow hBw).rd2 hy
          simp only [Option.some.injEq, Addr.mk.injEq, and_true] at hpa hpb
          obtain ⟨rfl, rfl⟩ := hpa
          obtain ⟨rfl, rfl⟩ := hpb
          have fA := (rdA ⟨wr, Below.refl _ _⟩).2.1
          have gA := (rdA ⟨wr, Below.refl _ _⟩).2.2
          have fB := (rdB ⟨wr, Below.refl _ _⟩).2.1
          have gB := (rdB ⟨wr, Below.refl _ _⟩).2.2
          dsimp only at fA gA fB gB
          clear rdA rdB
          have fO := HRO.out ⟨wr, hBw⟩
          dsimp only at fO
          have hbW' : b < wr.heap.size := Nat.lt_of_lt_of_le hb hBw.size
          have hsv : VI s1 s2 := by
            have := dotI_vb ((r.zip d).take k)
            rw [← HS.out] at this
            exact this
          obtain ⟨p1, p2, hp⟩ : ∃ p1 p2, mulI ((x, y), (z1, z2)) = (p1, p2) := ⟨_, _, rfl⟩
          obtain ⟨r1, r2, hr⟩ : ∃ r1 r2, addI (s1, s2) (p1, p2) = (r1, r2) := ⟨_, _, rfl⟩
          have hpv : VI p1 p2 := by
            have := mul_vb ((x, y), (z1, z2))
            rw [hp] at this
            exact this
          have c1 := fun w => r2mul x y z1 z2 w hv1 hv2
          have c2 := fun w => r2add s1 s2 p1 p2 w (VI.bd4 (p := (s1, s2)) hsv).1 (VI.bd4 (p := (s1, s2)) hsv).2.1 (VI.bd4 (p := (s1, s2)) hsv).2.2.1 (VI.bd4 (p := (s1, s2)) hsv).2.2.2 (VI.bd4 (p := (p1, p2)) hpv).1 (VI.bd4 (p := (p1, p2)) hpv).2.1 (VI.bd4 (p := (p1, p2)) hpv).2.2.1 (VI.bd4 (p := (p1, p2)) hpv).2.2.2
          rw [show mulLo x y z1 z2 = p1 from congrArg Prod.fst hp, show mulHi x y z1 z2 = p2 from congrArg Prod.snd hp] at c1
          rw [show addLo s1 s2 p1 p2 = r1 from congrArg Prod.fst hr, show addHi s1 s2 p1 p2 = r2 from congrArg Prod.snd hr] at c2
          have HS' : Hid ((r1, r2) = dotI ((r.zip d).take (k + 1))) := Lib.hid (by
            rw [List.take_add_one, hz, Option.toList_some, dotI_snoc, ← HS.out]
            show _ = addI (s1, s2) (mulI ((x, y), (z1, z2)))
            rw [hp, hr])
          have C1 := Lib.hid c1
          have C2 := Lib.hid c2
          clear c1 c2 hp hr hpv hsv hz hx hy hv1 hv2
          go_wp2_with (fail)
          refine region_data 14 48 _ (by kernel_rfl) new_iv (by kernel_rfl) ?_
          refine data_op _ rfl (RQ_load rfl rfl (load_iv (x := s1) (y := s2) hIv.lt hIv.cell0 hIv.cell1)) ?_
          simp only [Act.put, List.setIfInBounds_toArray, List.set_cons_succ, List.set_cons_zero]
          refine data_op (.slice (some ⟨b, o, none⟩) n c) rfl (RQ_pure (fun w => by simp [go_sem])) ?_
          simp only [Act.put, List.setIfInBounds_toArray, List.set_cons_succ, List.set_cons_zero]
          refine data_op (.int .i64 (m.length : Int)) rfl (RQ_pure (fun w => by simp [go_sem])) ?_
          simp only [Act.put, List.setIfInBounds_toArray, List.set_cons_succ, List.set_cons_zero]
          refine data_op (.pointer (some ⟨b, o + m.length, none⟩)) rfl (RQ_pure (fun w => by simp [go_sem, ik])) ?_
          simp only [Act.put, List.setIfInBounds_toArray, List.set_cons_succ, List.set_cons_zero]
          refine data_op (.slice (some ⟨ba, oa, none⟩) n c2) rfl (RQ_load rfl rfl (load_sl (fun w h => by simp [go_sem, h]) hbW' fO)) ?_
          simp only [Act.put, List.setIfInBounds_toArray, List.set_cons_succ, List.set_cons_zero]
          refine data_op (.int .i64 (k : Int)) rfl (RQ_pure (fun w => by simp [go_sem])) ?_
          simp only [Act.put, List.setIfInBounds_toArray, List.set_cons_succ, List.set_cons_zero]
          refine data_op (.pointer (some ⟨ba, oa + k * 2, none⟩)) rfl (RQ_pure (fun w => by simp [go_sem, i1])) ?_
          simp only [Act.put, List.setIfInBounds_toArray, List.set_cons_succ, List.set_cons_zero]
          refine data_op _ rfl (RQ_load rfl rfl (load_iv_at hba fA gA)) ?_
          simp only [Act.put, List.setIfInBounds_toArray, List.set_cons_succ, List.set_cons_zero]
          refine data_op (.slice (some ⟨bb, ob, none⟩) n c') rfl (RQ_pure (fun w => by simp [go_sem])) ?_
          simp only [Act.put, List.setIfInBounds_toArray, List.set_cons_succ, List.set_cons_zero]
          refine data_op (.int .i64 (k : Int)) rfl (RQ_pure (fun w => by simp [go_sem])) ?_
          simp only [Act.put, List.setIfInBounds_toArray, List.set_cons_succ, List.set_cons_zero]
          refine data_op (.pointer (some ⟨bb, ob + k * 2, none⟩)) rfl (RQ_pure (fun w => by simp [go_sem, i1])) ?_
          simp only [Act.put, List.setIfInBounds_toArray, List.set_cons_succ, List.set_cons_zero]
          refine data_op _ rfl (RQ_load rfl rfl (load_iv_at hbb fB gB)) ?_
          simp only [Act.put, List.setIfInBounds_toArray, List.set_cons_succ, List.set_cons_zero]
          refine data_op _ rfl (RQ_call C1.out (fun _ => by simp [go_sem])) ?_
          simp only [Act.put, List.setIfInBounds_toArray, List.set_cons_succ, List.set_cons_zero]
          refine data_op _ rfl (RQ_call C2.out (fun _ => by simp [go_sem])) ?_
          simp only [Act.put, List.setIfInBounds_toArray, List.set_cons_succ, List.set_cons_zero]
          refine data_end ?_
          intro w5 hB5
          simp only [Act.put, List.drop_succ_cons, List.drop_zero, List.take_succ_cons, List.take_zero, alDsts, List.filterMap_cons, List.filterMap_nil, isAl, Bool.false_eq_true, if_false, if_true, finK]
          have hJ : IvBox w5 bs (s1, s2) := iv_to hIv hB5
          have j0 := hJ.cell0
          have j1 := hJ.cell1
          have j2 := hJ.frozen 0
          have j3 := hJ.frozen 1
          dsimp only at j0 j1
          have hK := hJ.set r1 r2
          have hB6 : Below W0.heap.size W0 ((w5.setCell ⟨bs, 0, none⟩ (.int .i64 r1)).setCell ⟨bs, 1, none⟩ (.int .i64 r2)) := ((below_then hB1 hB5).setCell (p := ⟨bs, 0, none⟩) hs1 _).setCell (p := ⟨bs, 1, none⟩) hs1 _
          clear hJ hIv fA gA fB gB fO
          go_wp2_with (fail)
          go_roundw
          case rel => exact ⟨k + 1, r1, r2, by go_num, by omega, by omega, HS', hK, hB6⟩
          case measure => simp [intOf]; omega
        · obtain rfl : k = n := by omega
          have j0 := hIv.cell0
          have j1 := hIv.cell1
          dsimp only at j0 j1
          have hS := HS.out
          rw [List.take_of_length_le (by rw [List.length_zip, HRL.out, HD.out]; omega)] at hS
          have HX : Hid ((apM M d)[m.length]? = some (s1, s2)) := Lib.hid (by
            unfold apM
            rw [List.getElem?_map, HRK.out, hS]
            rfl)
          have hrow5 := HOW.out.kept (grown_below hB1) (.inr (by simp [Value.ownBlock]))
          have hszw := hBw.size
          clear hIv hS
          go_wp2_with (at_builtin; refine wpList_append_own _ rfl (.tmp 46) (.tmp 48) 22 rfl w.heap.size 48 i0 (.agg #[.int .i64 0, .int .i64 0]) 2 16 Tryz.underlying22 hi hz0 hz1 hz2 rfl (by decide) (.slice (some ⟨g, 0, none⟩) m.length cap) m.length _ rfl (hrow5.alloc _) ⟨wr.heap.size, 0, none⟩ 1 1 [.int .i64 s1, .int .i64 s2] rfl rfl (two_new _ _ _ _) (two_one _ _) (by unfold maxLen; omega) (by omega) (by first | omega | (simp; omega)) ?_)
          have hB8 := hBw.alloc hszw (.cells #[.int .i64 s1, .int .i64 s2] 48)
          intro v' w6 hown' hgrow _
          obtain ⟨g', cap', rfl⟩ := ownsRow_succ hown'
          have hB9 : Below w.heap.size w w6 := Below.grown hB8 hgrow (by first | omega | (simp; omega)) (fun k hk => (hrow5.lt k hk).1)
          rw [← cz_snoc] at hown'
          have HO := Lib.hid hown'
          clear hown' hgrow hrow5 j0 j1
          go_wp2_with (fail)
          go_roundw
          case rel => exact ⟨m ++ [(s1, s2)], by simp, by simp; omega, Lib.hid (tk_snoc HT.out HX.out), ⟨g', cap', by simp, by simpa using HO.out⟩, hB9⟩
          case measure => simp [intOf]; omega
    · have hle : (apM M d).length ≤ m.length := by rw [HAL.out]; omega
      have hml2 : m.length = n := by omega
      have i1 : (n : Int) ≤ m.length := by omega
      have HLE := Lib.hid hle
      have HB' := Lib.hid hB
      have HOW := Lib.hid hown
      clear hown hle
      go_wp2_with (fail)
      go_ret
      have e := tk_end HT.out HLE.out
      refine ⟨_, rfl, ?_, HB'.out⟩
      rw [← e]
      exact ⟨g, cap, rfl, HOW.out⟩
theorem r4apply (vm vb : Value) (M : List (List (Int × Int))) (d : List (Int × Int)) (n : Nat) (w : World) (hm : Mx w vm M) (hb : Bx w vb d) (hM : Sq n M) (hd : d.length = n) (hV : ∀ p ∈ d, VB p) (h1 : 1 ≤ n) (h6 : n ≤ 6) :
    Calls Tryz.prog 17 #[vm, vb] w fun e w' => ∃ u, e = .returned u ∧ Bx w' u (apM M d) ∧ Below w.heap.size w w' := by
  refine (r4apply_o vm vb M d n w hm hb hM hd hV h1 h6).mono ?_
  rintro e w' ⟨u, rfl, ⟨g, cap, rfl, ho⟩, hB⟩
  exact ⟨_, rfl, Bx.own ho (by unfold apM; rw [List.length_map, hM.1]; unfold maxLen; omega), hB⟩
set_option maxHeartbeats 16000000 in
theorem r4from (v : Value) (P : List (List Int)) (n : Nat) (w : World) (hv : Nx w v P) (hP : P.length = n) (hr : ∀ r ∈ P, r.length = n) (h1 : 1 ≤ n) (h6 : n ≤ 6) :
    Calls Tryz.prog 22 #[v] w fun e w' => ∃ u, e = .returned u ∧ Mx w' u (P.map (List.map ptI)) ∧ Below w.heap.size w w' := by
  obtain ⟨i0, hi, hz0, hz1, hz2⟩ := info_parts info_iv
  obtain ⟨p0, pi, pz0, pz1, pz2⟩ := info_parts info_row
  obtain ⟨p, c, rfl⟩ := hv.shape hP
  have HV := Lib.hid hv
  have HP := Lib.hid hP
  have HR := Lib.hid hr
  clear hv hP hr
  go_enter Tryz.func22, Tryz.ntmps22
  go_wp2_with (fail)
  go_loopw [3, 4] (fun u i wr => ∃ (M : List (List (Int × Int))) (us : List Value) (g cap : Nat), i = .int .i64 M.length ∧ M.length ≤ n ∧ u = .slice (some ⟨g, 0, none⟩) M.length cap ∧ Hid (M = (P.map (List.map ptI)).take M.length) ∧ Hid (OwnM w.heap.size wr u us M) ∧ Below w.heap.size w wr) (fun _ i _ => n - (intOf i).toNat)
  case atStart =>
    exact ⟨[], [], w.heap.size, 0, rfl, Nat.zero_le _, rfl, Lib.hid (by simp), Lib.hid ⟨by simpa using World.ownsRow_made (e := 22) (size := 1) w #[] 0 (Nat.le_refl _) (by decide) rfl, fun i r h => by simp at h, fun i j R n c n' c' h => by simp at h⟩, (Below.refl _ _).alloc (Nat.le_refl _) _⟩
  case round =>
    obtain ⟨M, us, g, cap, rfl, hPn, rfl, HS, HO, hB⟩ := hrel
    by_cases hlt : M.length < n
    · have ik : (M.length : Int) < n := by omega
      obtain ⟨r, hrk⟩ : ∃ r, P[M.length]? = some r := ⟨_, List.getElem?_eq_getElem (by rw [HP.out]; exact hlt)⟩
      have hrl := HR.out r (List.mem_of_getElem? hrk)
      obtain ⟨b, o, b2, o2, c2, rfl, f1, f2⟩ := nx_open HV.out hrk (by omega)
      rw [hrl] at f1
      have HRL := Lib.hid hrl
      have HRK := Lib.hid (mp_some (g := List.map ptI) hrk)
      have F1 := Lib.hid f1
      have F2 := Lib.hid f2
      obtain ⟨W0, rfl⟩ : ∃ W0, W0 = wr := ⟨_, rfl⟩
      have hsz0 := hB.size
      have hBa : Below W0.heap.size W0 (W0.alloc (.cells #[] 48)) := (Below.refl _ _).alloc (Nat.le_refl _) _
      have hJ0 : OwnB W0.heap.size (W0.alloc (.cells #[] 48)) (.slice (some ⟨W0.heap.size, 0, none⟩) 0 0) [] := ⟨W0.heap.size, 0, rfl, by simpa [cz] using World.ownsRow_made (e := 48) (size := 2) W0 #[] 0 (Nat.le_refl _) (by decide) rfl⟩
      clear f1 f2 hrk hrl
      go_wp2_with (fail)
      go_loopw [5, 6] (fun u i wr => ∃ m : List (Int × Int), i = .int .i64 m.length ∧ m.length ≤ n ∧ Hid (m = (r.map ptI).take m.length) ∧ OwnB W0.heap.size wr u m ∧ Below W0.heap.size W0 wr) (fun _ i _ => n - (intOf i).toNat)
      case atStart => exact ⟨[], rfl, Nat.zero_le _, Lib.hid (by simp), hJ0, hBa⟩
      case round =>
        clear hJ0 hBa
        obtain ⟨m, rfl, hm, HT, ⟨g1, cap1, rfl, hown⟩, hB1⟩ := hrel
        have hBw : Below w.heap.size w wr := below_then hB hB1
        by_cases hmn : m.length < n
        · have im : (m.length : Int) < n := by omega
          obtain ⟨x, hx⟩ : ∃ x, r[m.length]? = some x := ⟨_, List.getElem?_eq_getElem (by rw [HRL.out]; exact hmn)⟩
          have q1 := F1.out ⟨wr, hBw⟩
          have q2 := F2.out ⟨wr, hBw⟩ m.length x hx
          dsimp only at q1 q2
          have HX := Lib.hid (mp_some (g := ptI) hx)
          have HC := Lib.hid (fun w => r2point x w)
          clear hx
          go_wp2_with (fail)
          refine (HC.out _).mono ?_
          rintro e w5 ⟨rfl, hB5⟩
          have hrow5 := hown.kept (grown_below hB5) (.inr (by simp [Value.ownBlock]))
          have hB6 : Below W0.heap.size W0 w5 := below_then hB1 hB5
          have hsz6 := hB6.size
          clear hown
          go_wp2_with (at_builtin; refine wpList_append_own _ rfl (.tmp 21) (.tmp 30) 22 rfl W0.heap.size 48 i0 (.agg #[.int .i64 0, .int .i64 0]) 2 16 Tryz.underlying22 hi hz0 hz1 hz2 rfl (by decide) (.slice (some ⟨g1, 0, none⟩) m.length cap1) m.length _ rfl (hrow5.alloc _) ⟨w5.heap.size, 0, none⟩ 1 1 [.int .i64 (mkLo x x), .int .i64 (mkHi x x)] rfl rfl (two_new _ _ _ _) (two_one _ _) (by unfold maxLen; omega) (by omega) (by first | omega | (simp; omega)) ?_)
          have hB8 := hB6.alloc hsz6 (.cells #[.int .i64 (mkLo x x), .int .i64 (mkHi x x)] 48)
          intro v' w6 hown' hgrow _
          obtain ⟨g', cap', rfl⟩ := ownsRow_succ hown'
          have hB9 : Below W0.heap.size W0 w6 := Below.grown hB8 hgrow (by first | omega | (simp; omega)) (fun q hq => (hrow5.lt q hq).1)
          rw [← cz_snoc] at hown'
          have HO6 := Lib.hid hown'
          clear hown' hgrow hrow5
          go_wp2_with (fail)
          go_roundw
          case rel => exact ⟨m ++ [ptI x], by simp, by simp; omega, Lib.hid (tk_snoc HT.out HX.out), ⟨g', cap', by simp, by simpa [ptI] using HO6.out⟩, hB9⟩
          case measure => simp [intOf]; omega
        · have hmn' : m.length = n := by omega
          have hmr : m = r.map ptI := tk_end HT.out (by rw [List.length_map, HRL.out]; omega)
          have HMR := Lib.hid hmr
          have hg1 := (hown.lt g1 rfl).1
          have hfar : ∀ (i R' n' c' : Nat), us[i]? = some (Value.slice (some ⟨R', 0, none⟩) n' c') → R' ≠ g1 := fun i R' n' c' h => by
            have hil : i < M.length := by
              have a := HO.out.out.1
              have b := (List.getElem?_eq_some_iff.1 h).1
              omega
            obtain ⟨O', R1, c'', c1, hv, hu, h1, h2, h3, h4, _⟩ := HO.out.at (List.getElem?_eq_getElem hil)
            obtain ⟨e, _⟩ := own_slot hu h
            omega
          have HF := Lib.hid hfar
          have hO5 := HO.out.kept hB1
          have hout5 := hO5.out
          have hszw := hBw.size
          have hrowB : wr.ownsRow w.heap.size 48 2 (.slice (some ⟨g1, 0, none⟩) m.length cap1) m.length (cz m) := by
            rcases hown.2 with ⟨e, e2⟩ | ⟨g, cap, cur, e, hg, r⟩
            · exact ⟨hown.1, .inl ⟨e, e2⟩⟩
            · exact ⟨hown.1, .inr ⟨g, cap, cur, e, Nat.le_trans hsz0 hg, r⟩⟩
          have HO5 := Lib.hid hO5
          have HRW := Lib.hid hrowB
          clear hO5 hrowB hown hfar hmr hmn'
          go_wp2_with (at_builtin; refine wpList_append_own _ rfl (.tmp 32) (.tmp 34) 25 rfl w.heap.size 22 p0 (.slice none 0 0) 1 24 Tryz.underlying25 pi pz0 pz1 pz2 rfl (by decide) (.slice (some ⟨g, 0, none⟩) M.length cap) M.length _ rfl (hout5.alloc _) ⟨wr.heap.size, 0, none⟩ 1 1 [.slice (some ⟨g1, 0, none⟩) m.length cap1] rfl rfl (new_one _ _ _) (one_sl _ _ _) (by unfold maxLen; omega) (by omega) (by first | omega | (simp; omega)) ?_)
          have hBa : Below wr.heap.size wr (wr.alloc (.cells #[Value.slice (some ⟨g1, 0, none⟩) m.length cap1] 22)) := (Below.refl _ _).alloc (Nat.le_refl _) _
          intro v' w6 hown' hgrow _
          obtain ⟨g', cap', rfl⟩ := ownsRow_succ hown'
          have hB9 : Below w.heap.size w w6 := Below.grown (hBw.trans (hBa.mono hszw)) hgrow (by first | omega | (simp; omega)) (fun q hq => (hout5.lt q hq).1)
          have hP : OwnM w.heap.size w6 (.slice (some ⟨g', 0, none⟩) (M.length + 1) cap') (us ++ [.slice (some ⟨g1, 0, none⟩) m.length cap1]) (M ++ [m]) :=
            OwnM.push (HO5.out.kept hBa) (HRW.out.kept (grown_below hBa) (.inr (by simp [Value.ownBlock]))) HF.out hown' hgrow
          have HPP := Lib.hid hP
          clear hP hown' hgrow hout5
          go_wp2_with (fail)
          go_roundw
          case rel => exact ⟨M ++ [m], _, g', cap', by simp, by simp; omega, by simp, Lib.hid (tk_snoc HS.out (by rw [HMR.out]; exact HRK.out)), HPP, hB9⟩
          case measure => simp [intOf]; omega
    · have hPl : M.length = n := by omega
      have HPL := Lib.hid hPl
      clear hPl
      go_wp2_with (fail)
      go_ret
      have e := tk_end HS.out (by rw [List.length_map, HP.out, HPL.out]; exact Nat.le_refl _)
      refine ⟨_, rfl, ?_, hB⟩
      rw [← e]
      exact HO.out.mx (by rw [HPL.out]; unfold maxLen; omega) fun r hr => by
        rw [e, List.mem_map] at hr
        obtain ⟨s, hs, rfl⟩ := hr
        rw [List.length_map, HR.out s hs]
        unfold maxLen
        omega
end Go.Proofs.YtmcdkbnpcmiojaaGreat
