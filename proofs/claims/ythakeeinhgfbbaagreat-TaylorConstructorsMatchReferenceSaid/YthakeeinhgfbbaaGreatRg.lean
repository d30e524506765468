/-
  Package poly: Range.
-/
import Derived.Test.YthakeeinhgfbbaaGreatTA
namespace Go.Proofs.YthakeeinhgfbbaaGreat
open Go.ChangeShapes Go.WideShapes Go.ChangeAt Go.RowKit
set_option linter.unusedVariables false
set_option linter.unusedSimpArgs false
set_option maxRecDepth 100000

attribute [local irreducible] Calls
def sumR (l : List Tm) : Int × Int := l.foldl addR (0, 0)
theorem sumR_snoc {l : List Tm} {k : Nat} {x : Tm} (hx : l[k]? = some x) : sumR (l.take (k + 1)) = addR (sumR (l.take k)) x := by
  unfold sumR
  rw [List.take_add_one, hx, List.foldl_append]
  rfl
set_option maxHeartbeats 8000000 in
theorem range_ok (v : Value) (l : List Tm) (w : World) (hv : Tx w v l) (ht : ∀ t ∈ l, TV t ∧ Num t.1) (hsm : l.length ≤ 100000) :
    Calls Tryz.prog 66 #[v] w fun e w' => e = .returned (.agg #[.int .i64 (newR (sumR l)).1, .int .i64 (newR (sumR l)).2]) ∧ Below w.heap.size w w' := by
  obtain ⟨⟨R1, R2⟩, hR⟩ : ∃ R, newR (sumR l) = R := ⟨_, rfl⟩
  rw [hR]
  have HRR := Lib.hid hR
  dsimp only
  clear hR
  obtain ⟨p, c, rfl⟩ := hv.cut
  have HV := Lib.hid hv
  have HT := Lib.hid ht
  have hba : Below w.heap.size w ((w.alloc (.cells #[.int .i64 0, .int .i64 0] 24)).alloc (.cells #[.int .i64 0, .int .i64 0] 24)) := ((Below.refl _ _).alloc (Nat.le_refl _) _).alloc (by simp) _
  have hI0 : IvC ((w.alloc (.cells #[.int .i64 0, .int .i64 0] 24)).alloc (.cells #[.int .i64 0, .int .i64 0] 24)) w.heap.size (0, 0) := (Below.heap_alloc _ _ _ (by simp)).trans (World.alloc_heap_new w _)
  have hI1 : IvC ((w.alloc (.cells #[.int .i64 0, .int .i64 0] 24)).alloc (.cells #[.int .i64 0, .int .i64 0] 24)) (w.heap.size + 1) (0, 0) := by
    have e := World.alloc_heap_new (w.alloc (.cells #[.int .i64 0, .int .i64 0] 24)) (.cells #[.int .i64 0, .int .i64 0] 24)
    rw [World.size_alloc] at e
    exact e
  have HI0 := Lib.hid hI0
  have HI1 := Lib.hid hI1
  clear hv ht hI0 hI1
  go_enter Tryz.func66, Tryz.ntmps66
  go_wp2_with (fail)
  go_loopw [8] (fun i wr => ∃ k : Nat, i = .int .i64 k ∧ k ≤ l.length ∧ Hid (IvC wr w.heap.size (0, 0) ∧ IvC wr (w.heap.size + 1) (sumR (l.take k)) ∧ MB k (sumR (l.take k)) ∧ Below w.heap.size w wr)) (fun i _ => l.length - (intOf i).toNat)
  case atStart => exact ⟨0, rfl, Nat.zero_le _, Lib.hid ⟨HI0.out, HI1.out, by unfold MB sumR; simp, hba⟩⟩
  case round =>
    obtain ⟨k, rfl, hk, HR⟩ := hrel
    by_cases hlt : k < l.length
    · have i1 : (k : Int) < l.length := by omega
      obtain ⟨t, hx⟩ : ∃ t, l[k]? = some t := ⟨_, List.getElem?_eq_getElem hlt⟩
      have htv := (HT.out t (List.mem_of_getElem? hx)).1
      have htn := (HT.out t (List.mem_of_getElem? hx)).2
      obtain ⟨ka, a0, a1, a2, a3, a4, a5, rfl⟩ := six_at htv
      obtain ⟨b, o, hp, hb, rd⟩ := HV.out.rd7 hx
      subst hp
      obtain ⟨f0, f1, f2, f3, f4, f5, f6⟩ := rd ⟨wr, HR.out.2.2.2⟩
      dsimp only at f0 f1 f2 f3 f4 f5 f6
      have hm1 := sumR_snoc hx
      have hbd := HR.out.2.2.1
      have hbn := mb_next hbd htn
      have htb := trg_bd htn
      have HTR := Lib.hid (fun w => trg_ok ka a0 a1 a2 a3 a4 a5 w htv htn)
      have hmis := HR.out.2.1
      rw [← hm1] at hbn
      unfold addR at hm1
      obtain ⟨⟨r, q⟩, hrq⟩ : ∃ R, trg (ka, [a0, a1, a2, a3, a4, a5]) = R := ⟨_, rfl⟩
      obtain ⟨⟨p1, p2⟩, hpp⟩ : ∃ R, sumR (l.take k) = R := ⟨_, rfl⟩
      rw [hrq] at HTR htb hm1
      rw [hpp] at hbd hmis hm1
      unfold MB at hbd
      dsimp only at HTR htb hm1 hbd
      have HPL := Lib.hid (fun w => plus_ok p1 p2 r q w (by omega) (by omega) (by omega) (by omega))
      have HM1 := Lib.hid hm1
      have HBN := Lib.hid hbn
      have hmg : ∀ W, Below wr.heap.size wr W → IvC W (w.heap.size + 1) (p1, p2) := fun W h => hmis.grow h
      have HMG := Lib.hid hmg
      clear hm1 hbd hbn htb hrq hpp rd hx htv htn hmg hmis
      go_wp2_with (fail)
      have hba2 : Below wr.heap.size wr (wr.alloc (.cells #[.int .i64 ka, .int .u8 a0, .int .u8 a1, .int .u8 a2, .int .u8 a3, .int .u8 a4, .int .u8 a5] 63)) := (Below.refl _ _).alloc (Nat.le_refl _) _
      have htb : (wr.alloc (.cells #[.int .i64 ka, .int .u8 a0, .int .u8 a1, .int .u8 a2, .int .u8 a3, .int .u8 a4, .int .u8 a5] 63)).heap[wr.heap.size]? = some (.cells #[.int .i64 ka, .int .u8 a0, .int .u8 a1, .int .u8 a2, .int .u8 a3, .int .u8 a4, .int .u8 a5] 63 (0, 0)) := World.alloc_heap_new wr _
      generalize hW2 : wr.alloc (.cells #[.int .i64 ka, .int .u8 a0, .int .u8 a1, .int .u8 a2, .int .u8 a3, .int .u8 a4, .int .u8 a5] 63) = w2 at *
      have hl2 : wr.heap.size < w2.heap.size := (Array.getElem?_eq_some_iff.1 htb).1
      have rc : ∀ (j : Nat) (u : Value), (#[.int .i64 ka, .int .u8 a0, .int .u8 a1, .int .u8 a2, .int .u8 a3, .int .u8 a4, .int .u8 a5] : Array Value)[j]? = some u → ∀ g : Grown w2, g.w.cell? ⟨wr.heap.size, j, none⟩ = some u := fun j u hj g => (g.cell (o := j) hl2).trans (by simp [World.cell?, htb, hj])
      have t0 := rc 0 _ rfl
      have t1 := rc 1 _ rfl
      have t2 := rc 2 _ rfl
      have t3 := rc 3 _ rfl
      have t4 := rc 4 _ rfl
      have t5 := rc 5 _ rfl
      have t6 := rc 6 _ rfl
      have m0 := fun g : Grown w2 => ((HMG.out _ (below_then hba2 g.h))).c0
      have m1 := fun g : Grown w2 => ((HMG.out _ (below_then hba2 g.h))).c1
      clear rc htb f0 f1 f2 f3 f4 f5 f6
      refine region_pred_l (lk [(12, fun u _ => u = .agg #[.int .i64 p1, .int .i64 p2]), (13, fun u _ => u = .agg #[.int .i64 ka, .int .u8 a0, .int .u8 a1, .int .u8 a2, .int .u8 a3, .int .u8 a4, .int .u8 a5]), (14, fun u _ => u = .agg #[.int .i64 r, .int .i64 q]), (15, fun u _ => u = .agg #[.int .i64 (p1 + r), .int .i64 (p2 + q)])]) 4 _ rfl (by kernel_rfl) (by kernel_rfl) (by kernel_rfl) (lk_steady _ ⟨steady_eq _, steady_eq _, steady_eq _, steady_eq _, trivial⟩) ?_ ?_
      · refine ⟨?_, ?_, ?_, ?_, ?_, trivial⟩
        · intro _
          refine ob_plain [3] rfl rfl fun aa g h => ?_
          have x0 := seen_out (v := .pointer (some ⟨w.heap.size + 1, 0, none⟩)) rfl rfl h.1
          have e0 := getD_of x0
          exact tupon_value (v := .agg #[.int .i64 p1, .int .i64 p2]) (by simp [go_sem, e0, x0, m0 g, m1 g]) (Below.refl _ _) rfl
        · intro _
          refine ob_plain [5] rfl rfl fun aa g h => ?_
          have x0 := seen_out (v := .pointer (some ⟨wr.heap.size, 0, none⟩)) rfl rfl h.1
          have e0 := getD_of x0
          exact tupon_value (v := .agg #[.int .i64 ka, .int .u8 a0, .int .u8 a1, .int .u8 a2, .int .u8 a3, .int .u8 a4, .int .u8 a5]) (by simp [go_sem, e0, x0, t0 g, t1 g, t2 g, t3 g, t4 g, t5 g, t6 g]) (Below.refl _ _) rfl
        · intro _
          refine ob_plain [13] rfl rfl fun aa g h => ?_
          obtain ⟨_, x0, rfl⟩ := seen_in rfl h.1
          have e0 := getD_of x0
          refine tupon_enter (f := 107) (args := #[.agg #[.int .i64 ka, .int .u8 a0, .int .u8 a1, .int .u8 a2, .int .u8 a3, .int .u8 a4, .int .u8 a5]]) (by simp [go_sem, e0, x0]) rfl ?_
          exact (HTR.out g.w).mono fun e w' ⟨he, hB⟩ => ⟨_, he, hB, rfl⟩
        · intro _
          refine ob_plain [12, 14] rfl rfl fun aa g h => ?_
          obtain ⟨_, x0, rfl⟩ := seen_in rfl h.1
          have e0 := getD_of x0
          obtain ⟨_, x1, rfl⟩ := seen_in rfl h.2.1
          have e1 := getD_of x1
          refine tupon_enter (f := 106) (args := #[.agg #[.int .i64 p1, .int .i64 p2], .agg #[.int .i64 r, .int .i64 q]]) (by simp [go_sem, e0, x0, e1, x1]) rfl ?_
          exact (HPL.out g.w).mono fun e w' ⟨he, hB⟩ => ⟨_, he, hB, rfl⟩
        · exact fun h => absurd rfl h
      rintro w5 hB5 _ rfl _ rfl _ rfl _ rfl
      simp only [Act.put, List.setIfInBounds_toArray, List.set_cons_succ, List.set_cons_zero]
      have hB5' := below_then hba2 hB5
      have hm5 := HMG.out _ hB5'
      have c0 := hm5.c0
      have c1 := hm5.c1
      have z0 := hm5.frozen 0
      have z1 := hm5.frozen 1
      refine ⟨_, by simp [go_sem, c0, c1, z0, z1]; rfl, ?_⟩
      have HN : Hid (IvC ((w5.setCell ⟨w.heap.size + 1, 0, none⟩ (.int .i64 (p1 + r))).setCell ⟨w.heap.size + 1, 1, none⟩ (.int .i64 (p2 + q))) w.heap.size (0, 0) ∧ IvC ((w5.setCell ⟨w.heap.size + 1, 0, none⟩ (.int .i64 (p1 + r))).setCell ⟨w.heap.size + 1, 1, none⟩ (.int .i64 (p2 + q))) (w.heap.size + 1) (sumR (l.take (k + 1))) ∧ MB (k + 1) (sumR (l.take (k + 1))) ∧ Below w.heap.size w ((w5.setCell ⟨w.heap.size + 1, 0, none⟩ (.int .i64 (p1 + r))).setCell ⟨w.heap.size + 1, 1, none⟩ (.int .i64 (p2 + q)))) :=
        Lib.hid ⟨(HR.out.1.grow hB5').other (by omega) _ _, by rw [HM1.out]; exact hm5.set _ _, HBN.out, ((HR.out.2.2.2.trans (hB5'.mono HR.out.2.2.2.size)).setCell (p := ⟨w.heap.size + 1, 0, none⟩) (Nat.le_succ _) _).setCell (p := ⟨w.heap.size + 1, 1, none⟩) (Nat.le_succ _) _⟩
      clear c0 c1 z0 z1 m0 m1 t0 t1 t2 t3 t4 t5 t6 hm5
      go_wp2_with (fail)
      go_roundw
      case rel => exact ⟨k + 1, by go_num, by omega, HN⟩
      case measure => simp [intOf]; omega
    · obtain rfl : k = l.length := by omega
      have hres := HR.out.1
      have hmis := HR.out.2.1
      have hbd := HR.out.2.2.1
      have hbel := HR.out.2.2.2
      rw [List.take_of_length_le (Nat.le_refl _)] at hmis hbd
      have hrr := HRR.out
      generalize sumR l = M at *
      obtain ⟨p1, p2⟩ := M
      have hle : p1 ≤ p2 := hbd.2.1
      have HNW := Lib.hid (fun w => iv_new p1 p2 w hle)
      unfold newR at hrr
      simp only [Prod.mk.injEq] at hrr
      rw [hrr.1, hrr.2] at HNW
      have c0 := hmis.c0
      have c1 := hmis.c1
      dsimp only at c0 c1
      have HRES := Lib.hid hres
      have HBEL := Lib.hid hbel
      clear hres hmis hbd hbel hrr
      go_wp2_with (fail)
      refine (HNW.out _).mono ?_
      rintro e1 w2 ⟨rfl, hB2⟩
      have hres2 := HRES.out.grow hB2
      have rs0 := hres2.c0
      have rs1 := hres2.c1
      have rz0 := hres2.frozen 0
      have rz1 := hres2.frozen 1
      have hB2' := HBEL.out.trans (hB2.mono HBEL.out.size)
      go_wp2_with (fail)
      refine bodyPost_ret (v := .agg #[.int .i64 R1, .int .i64 R2]) (by simp [results, Tryz.results66, go_sem, rs0, rs1]) rfl ⟨rfl, ?_⟩
      exact (hB2'.setCell (p := ⟨w.heap.size, 0, none⟩) (Nat.le_refl _) _).setCell (p := ⟨w.heap.size, 1, none⟩) (Nat.le_refl _) _
end Go.Proofs.YthakeeinhgfbbaaGreat
