/-
  The reference's SquaredDistance and Separated.
-/
import Derived.Test.YtpepgheocemjdaaR3C
import Derived.Test.YtpepgheocemjdaaRefM
import Derived.Test.YtpepgheocemjdaaIv4
import Derived.Test.YtpepgheocemjdaaR3
import Derived.Test.YtpepgheocemjdaaHead
namespace Go.Proofs.Ytpepgheocemjdaa
open Go.ChangeShapes Go.WideShapes Go.ChangeAt Go.RowKit
set_option linter.unusedVariables false
set_option linter.unusedSimpArgs false
set_option maxRecDepth 100000

attribute [local irreducible] Calls
theorem IvBox.at_cells {W W' : World} {b : Nat} {p : Int × Int} (h : IvBox W b p) (k0 : W'.heap[b]? = W.heap[b]?) : IvBox W' b p := k0.trans h
theorem two_heads (p q : Int × Int) (h : p = q) : p.1 = q.1 ∧ p.2 = q.2 := by rw [h]; exact ⟨rfl, rfl⟩
set_option maxHeartbeats 8000000 in
theorem r3sqd (va vb : Value) (la lb : List (Int × Int)) (w : World) (hva : Bx w va la) (hvb : Bx w vb lb) (hlen : lb.length = la.length) (hv : ∀ z ∈ la.zip lb, VB z.1 ∧ VB z.2) :
    Calls Try.prog 39 #[va, vb] w fun e w' => e = .returned (.agg #[.int .i64 (sdist (la.zip lb)).1, .int .i64 (sdist (la.zip lb)).2]) ∧ Below w.heap.size w w' := by
  obtain ⟨pa, ca, rfl⟩ := hva.cut
  obtain ⟨pb, cb, rfl⟩ := hvb.cut
  have hl := hva.1
  unfold maxLen at hl
  have HA := Lib.hid hva
  have HB := Lib.hid hvb
  have HL := Lib.hid hlen
  have HV := Lib.hid hv
  clear hva hvb hlen hv
  go_enter Try.func39, Try.ntmps39
  go_wp2_with (fail)
  go_loopw [6] (fun i wr => ∃ (k : Nat) (s1 s2 : Int), i = .int .i64 k ∧ k ≤ la.length ∧ Hid ((s1, s2) = sdist ((la.zip lb).take k)) ∧ IvBox wr (w.heap.size + 1) (s1, s2) ∧ IvBox wr w.heap.size (0, 0) ∧ Below w.heap.size w wr) (fun i _ => la.length - (intOf i).toNat)
  case atStart =>
    refine ⟨0, 0, 0, rfl, Nat.zero_le _, Lib.hid (by simp [sdist]), by simpa using IvBox.new (w.alloc (.cells #[.int .i64 0, .int .i64 0] 23)) 0 0, (IvBox.new w 0 0).alloc _, ?_⟩
    exact ((Below.refl _ _).alloc (Nat.le_refl _) _).alloc (by simp) _
  case round =>
    obtain ⟨k, s1, s2, rfl, hk, HS, hI1, hI0, hB⟩ := hrel
    by_cases hlt : k < la.length
    · skip
      have hlt2 : k < lb.length := by rw [HL.out]; exact hlt
      obtain ⟨x, y, hx⟩ : ∃ x y, la[k]? = some (x, y) := ⟨la[k].1, la[k].2, List.getElem?_eq_getElem hlt⟩
      obtain ⟨z1, z2, hy⟩ : ∃ z1 z2, lb[k]? = some (z1, z2) := ⟨lb[k].1, lb[k].2, List.getElem?_eq_getElem hlt2⟩
      have hz : (la.zip lb)[k]? = some ((x, y), (z1, z2)) := List.getElem?_zip_eq_some.2 ⟨hx, hy⟩
      have hv1 : VI x y := (HV.out _ (at_mem hz)).1
      have hv2 : VI z1 z2 := (HV.out _ (at_mem hz)).2
      obtain ⟨ba, oa, hpa, hba, rdA⟩ := (HA.out.grow hB).rd2 hx
      obtain ⟨bb, ob, hpb, hbb, rdB⟩ := (HB.out.grow hB).rd2 hy
      subst hpa hpb
      have fA := (rdA ⟨wr, Below.refl _ _⟩).2.1
      have gA := (rdA ⟨wr, Below.refl _ _⟩).2.2
      have fB := (rdB ⟨wr, Below.refl _ _⟩).2.1
      have gB := (rdB ⟨wr, Below.refl _ _⟩).2.2
      dsimp only at fA gA fB gB
      clear rdA rdB
      have i1 : (k : Int) < la.length := by omega
      have i2 : (k : Int) < lb.length := by omega
      have hsv : VI s1 s2 := by
        have := sdist_vb ((la.zip lb).take k)
        rw [← HS.out] at this
        exact this
      obtain ⟨p1, p2, hp⟩ : ∃ p1 p2, subI (x, y) (z1, z2) = (p1, p2) := ⟨_, _, rfl⟩
      obtain ⟨q1, q2, hq⟩ : ∃ q1 q2, sqI (p1, p2) = (q1, q2) := ⟨_, _, rfl⟩
      obtain ⟨r1, r2, hr⟩ : ∃ r1 r2, addI (s1, s2) (q1, q2) = (r1, r2) := ⟨_, _, rfl⟩
      have hpv : VI p1 p2 := by
        have := sub_vb (p := (x, y)) (q := (z1, z2)) hv1 hv2
        rw [hp] at this
        exact this
      have hqv : VI q1 q2 := by
        have := sq_vb (p1, p2)
        rw [hq] at this
        exact this
      have c1 := fun w => r2sub x y z1 z2 w hv1.bd.1 hv1.bd.2.1 hv1.bd.2.2.1 hv1.bd.2.2.2.1 hv2.bd.1 hv2.bd.2.1 hv2.bd.2.2.1 hv2.bd.2.2.2.1
      have c2 := fun w => r2square p1 p2 w hpv
      have c3 := fun w => r2add s1 s2 q1 q2 w hsv.bd.1 hsv.bd.2.1 hsv.bd.2.2.1 hsv.bd.2.2.2.1 hqv.bd.1 hqv.bd.2.1 hqv.bd.2.2.1 hqv.bd.2.2.2.1
      rw [show addLo x y (-z2) (-z1) = p1 from congrArg Prod.fst hp, show addHi x y (-z2) (-z1) = p2 from congrArg Prod.snd hp] at c1
      rw [show sqLo p1 p2 = q1 from congrArg Prod.fst hq, show sqHi p1 p2 = q2 from congrArg Prod.snd hq] at c2
      rw [show addLo s1 s2 q1 q2 = r1 from congrArg Prod.fst hr, show addHi s1 s2 q1 q2 = r2 from congrArg Prod.snd hr] at c3
      have HS' : Hid ((r1, r2) = sdist ((la.zip lb).take (k + 1))) := Lib.hid (by
        rw [List.take_add_one, hz, Option.toList_some, sdist_snoc, ← HS.out]
        show _ = addI (s1, s2) (sqI (subI (x, y) (z1, z2)))
        rw [hp, hq, hr])
      have C1 := Lib.hid c1
      have C2 := Lib.hid c2
      have C3 := Lib.hid c3
      clear c1 c2 c3 hp hq hr hpv hqv hsv hz hx hy hv1 hv2
      have hY0 := hI0.lt
      have hY1 := hI1.lt
      go_wp2_with (fail)
      refine region_data 12 23 _ (by kernel_rfl) new_iv (by kernel_rfl) ?_
      refine data_op _ rfl (RQ_load rfl rfl (load_iv (x := s1) (y := s2) hI1.lt hI1.cell0 hI1.cell1)) ?_
      simp only [Act.put, List.setIfInBounds_toArray, List.set_cons_succ, List.set_cons_zero]
      refine data_op (.slice (some ⟨ba, oa, none⟩) la.length ca) rfl (RQ_pure (fun w => by simp [go_sem])) ?_
      simp only [Act.put, List.setIfInBounds_toArray, List.set_cons_succ, List.set_cons_zero]
      refine data_op (.int .i64 (k : Int)) rfl (RQ_pure (fun w => by simp [go_sem])) ?_
      simp only [Act.put, List.setIfInBounds_toArray, List.set_cons_succ, List.set_cons_zero]
      refine data_op (.pointer (some ⟨ba, oa + k * 2, none⟩)) rfl (RQ_pure (fun w => by simp [go_sem, i1])) ?_
      simp only [Act.put, List.setIfInBounds_toArray, List.set_cons_succ, List.set_cons_zero]
      refine data_op _ rfl (RQ_load rfl rfl (load_iv_at hba fA gA)) ?_
      simp only [Act.put, List.setIfInBounds_toArray, List.set_cons_succ, List.set_cons_zero]
      refine data_op (.slice (some ⟨bb, ob, none⟩) lb.length cb) rfl (RQ_pure (fun w => by simp [go_sem])) ?_
      simp only [Act.put, List.setIfInBounds_toArray, List.set_cons_succ, List.set_cons_zero]
      refine data_op (.int .i64 (k : Int)) rfl (RQ_pure (fun w => by simp [go_sem])) ?_
      simp only [Act.put, List.setIfInBounds_toArray, List.set_cons_succ, List.set_cons_zero]
      refine data_op (.pointer (some ⟨bb, ob + k * 2, none⟩)) rfl (RQ_pure (fun w => by simp [go_sem, i2])) ?_
      simp only [Act.put, List.setIfInBounds_toArray, List.set_cons_succ, List.set_cons_zero]
      refine data_op _ rfl (RQ_load rfl rfl (load_iv_at hbb fB gB)) ?_
      simp only [Act.put, List.setIfInBounds_toArray, List.set_cons_succ, List.set_cons_zero]
      refine data_op _ rfl (RQ_call C1.out (fun _ => by simp [go_sem])) ?_
      simp only [Act.put, List.setIfInBounds_toArray, List.set_cons_succ, List.set_cons_zero]
      refine data_op _ rfl (RQ_call C2.out (fun _ => by simp [go_sem])) ?_
      simp only [Act.put, List.setIfInBounds_toArray, List.set_cons_succ, List.set_cons_zero]
      refine data_op _ rfl (RQ_call C3.out (fun _ => by simp [go_sem])) ?_
      simp only [Act.put, List.setIfInBounds_toArray, List.set_cons_succ, List.set_cons_zero]
      refine data_end ?_
      intro w5 hB5
      simp only [Act.put, List.drop_succ_cons, List.drop_zero, List.take_succ_cons, List.take_zero, alDsts, List.filterMap_cons, List.filterMap_nil, isAl, Bool.false_eq_true, if_false, if_true, finK]
      have hJ1 := (hB5.block _ hI1.lt).trans hI1
      have hJ0 := (hB5.block _ hI0.lt).trans hI0
      have hJ1' : IvBox w5 (w.heap.size + 1) (s1, s2) := hJ1
      have hJ0' : IvBox w5 w.heap.size (0, 0) := hJ0
      have j0 := hJ1'.cell0
      have j1 := hJ1'.cell1
      have j2 := hJ1'.frozen 0
      have j3 := hJ1'.frozen 1
      dsimp only at j0 j1
      have hK1 := hJ1'.set r1 r2
      have hK0 : IvBox ((w5.setCell ⟨w.heap.size + 1, 0, none⟩ (.int .i64 r1)).setCell ⟨w.heap.size + 1, 1, none⟩ (.int .i64 r2)) w.heap.size (0, 0) := ((heap_set (by simp)).trans (heap_set (by simp))).trans hJ0'
      have hB6 : Below w.heap.size w ((w5.setCell ⟨w.heap.size + 1, 0, none⟩ (.int .i64 r1)).setCell ⟨w.heap.size + 1, 1, none⟩ (.int .i64 r2)) := ((below_then hB hB5).setCell (p := ⟨w.heap.size + 1, 0, none⟩) (by simp) _).setCell (p := ⟨w.heap.size + 1, 1, none⟩) (by simp) _
      clear hJ1 hJ0 hI1 hI0
      go_wp2_with (fail)
      go_roundw
      case rel => exact ⟨k + 1, r1, r2, by go_num, by omega, HS', hK1, hK0, hB6⟩
      case measure => simp [intOf]; omega
    · obtain rfl : k = la.length := by omega
      have j0 := hI1.cell0
      have j1 := hI1.cell1
      have k0 := hI0.cell0
      have k1 := hI0.cell1
      have k2 := hI0.frozen 0
      have k3 := hI0.frozen 1
      have hK0 := hI0.set s1 s2
      have m0 := hK0.cell0
      have m1 := hK0.cell1
      dsimp only at j0 j1 k0 k1 m0 m1
      have hB6 : Below w.heap.size w ((wr.setCell ⟨w.heap.size, 0, none⟩ (.int .i64 s1)).setCell ⟨w.heap.size, 1, none⟩ (.int .i64 s2)) := (hB.setCell (p := ⟨w.heap.size, 0, none⟩) (by simp) _).setCell (p := ⟨w.heap.size, 1, none⟩) (by simp) _
      have hS := HS.out
      rw [List.take_of_length_le (by simp [HL.out])] at hS
      have HS2 := Lib.hid hS
      clear hS hI1 hI0
      go_wp2_with (fail)
      refine bodyPost_ret (v := .agg #[.int .i64 s1, .int .i64 s2]) (by simp [results, Try.results39, go_sem, m0, m1]) rfl ⟨?_, hB6⟩
      rw [← HS2.out]
set_option maxHeartbeats 4000000 in
theorem r3sep (va vb : Value) (la lb : List (Int × Int)) (d : Int) (w : World) (hva : Bx w va la) (hvb : Bx w vb lb) (hlen : lb.length = la.length) (hv : ∀ z ∈ la.zip lb, VB z.1 ∧ VB z.2) (hd0 : 0 ≤ d) (hd1 : d ≤ 2147483648) :
    Calls Try.prog 41 #[va, vb, .int .i64 d] w fun e w' => e = .returned (.bool (sepI d (sdist (la.zip lb)))) ∧ Below w.heap.size w w' := by
  have c1 := r3sqd va vb la lb w hva hvb hlen hv
  have hsv := sdist_vb (la.zip lb)
  have c2 := fun w => rmul_any d d w (by omega) (by omega) (by omega) (by omega)
  obtain ⟨r, hr⟩ : ∃ r, sepI d (sdist (la.zip lb)) = r := ⟨_, rfl⟩
  rw [hr]
  have hr' := hr
  unfold sepI at hr'
  obtain ⟨u, hu⟩ : ∃ u, up (d * d) 65536 = u := ⟨_, rfl⟩
  obtain ⟨u', hu'⟩ : ∃ u, dn (d * d) 65536 = u := ⟨_, rfl⟩
  rw [hu] at hr'
  rw [hu, hu'] at c2
  obtain ⟨dl, hdl⟩ : ∃ x, (sdist (la.zip lb)).1 = x := ⟨_, rfl⟩
  obtain ⟨dh, hdh⟩ : ∃ x, (sdist (la.zip lb)).2 = x := ⟨_, rfl⟩
  rw [hdl, hdh] at c1 hr'
  clear hr hu hu' hdl hdh hsv hva hvb hlen hv
  have C1 := Lib.hid c1
  have C2 := Lib.hid c2
  have HR := Lib.hid hr'
  clear c1 c2 hr'
  go_enter Try.func41, Try.ntmps41
  go_wp2_with (fail)
  refine C1.out.mono ?_
  rintro e w1 ⟨rfl, hB1⟩
  have s0 : (w1.alloc (.cells #[.int .i64 dl, .int .i64 dh] 23)).cell? ⟨w1.heap.size, 0, none⟩ = some (.int .i64 dl) := by simp [go_sem]
  go_wp2_with (fail)
  refine (C2.out _).mono ?_
  rintro e w2 ⟨rfl, rfl⟩
  by_cases he : Ent dl dh
  · have hrr : r = false := by rw [← HR.out]; simp [he]
    subst hrr
    have HE := Lib.hid he
    obtain ⟨rfl, rfl⟩ := he
    go_wp2_with (fail)
    refine (r2ent_yes _).mono ?_
    rintro e w3 ⟨rfl, hB3⟩
    go_wp2_with (fail)
    go_ret
    exact ⟨rfl, (hB1.alloc hB1.size _).trans (hB3.mono (by have := hB1.size; simp; omega))⟩
  · have hrr : decide (u < dl) = r := by rw [← HR.out]; simp [he]
    have HE := Lib.hid he
    clear he
    have hq : decide (u < dl) = r := hrr
    clear hrr
    go_wp2_with (fail)
    refine (r2ent_no dl dh _ HE.out).mono ?_
    rintro e w3 ⟨rfl, hB3⟩
    have f0 : w3.cell? ⟨w1.heap.size, 0, none⟩ = some (.int .i64 dl) := (hB3.cell (p := ⟨w1.heap.size, 0, none⟩) (by simp)).trans s0
    have HQ := Lib.hid hq
    have hB4 : Below w.heap.size w w3 := (hB1.alloc hB1.size _).trans (hB3.mono (by have := hB1.size; simp; omega))
    cases r
    · have hq' : decide (u < dl) = false := HQ.out
      clear hq
      go_wp2_with (fail)
      go_ret
      exact ⟨rfl, hB4⟩
    · have hq' : decide (u < dl) = true := HQ.out
      clear hq
      go_wp2_with (fail)
      go_ret
      exact ⟨rfl, hB4⟩
end Go.Proofs.Ytpepgheocemjdaa
